import PyProof.Rows.All
import Wide.All
import OpenK.AllK
import Wide.FinOn
import HandS.Base
import HandS.Call
import HandS.List
import HandS.Comp
import HandS.Ends
import HandS.Dict
import HandS.Iter
import HandS.Text
import HandS.Words
import PyProof.Rows.StrNews2
import PyProof.StrLawsLast
import HandS.Wide
import HandS.Walk
import HandS.IsInst
import HandS.Style
import KE.GoesEnum
import KE.GoesEnumKw
import HandS.TryOnly
import HandS.ExcOwn
import HandS.ExcValue
import KE.KUnpackStar
import KE.IntTextLaws
import HandS.TupMul
import HandS.StrMore
import HandS.TupAny
import PyProof.Rows.StrFirst
import PyProof.Rows.RegReprOcc
import KE.KIntText
import PyProof.Rows.Digits
import HandS.More
import HandS.Strs
import HandS.Exc
import HandS.ExcInit
import HandS.ExcField
import HandS.WordsExc
import PyProof.ReprReads
import PyProof.ReprRoads
import KE.KxStill
import PyProof.Rows.StrCase
import PyProof.StrLawsRepr
import PyProof.Rows.StrJoinMade
import PyProof.ReprBulk
import HandS.WordsDict
import HandS.MakeKwOnly
import HandS.SlotsOwn
import HandS.ExcIs
import KE.KExcIs
import HandS.DictComp
import HandS.TryMany
import KE.KTryMore
import KE.KDflt
import HandS.Lambda
import HandS.EndTab
import HandS.EndOwn
import PyProof.Rows.StrIntSpec
import HandS.RaiseMore
import HandS.FStr
import KE.KxField
import KE.DataCmp
import HandS.Replace
import HandS.ReplaceDef
import HandS.ReplaceLit
import HandS.ReplaceList
import PyProof.Rows.StrStrike
import KE.KRevSl
import HandS.DictSubView
import HandS.Conv
import KE.KDictSum
import HandS.ExcCtx
import HandS.HotCalls
import HandS.RaiseFrom
import HandS.SuiteRaise
import HandS.ExcInitHot
import HandS.Finally
import HandS.Codes
import HandS.Flow
import HandS.Evl
import HandS.Small
import HandS.MapJoin
import HandS.Star
import HandS.Deep
import HandS.Zip
import HandS.DictTup
import PySem.Challenge.RW_crumbjar_k31_crumbs_under_rules
set_option Elab.async false
set_option linter.all false
set_option maxRecDepth 100000
set_option maxHeartbeats 4000000
namespace Kb
open PySem PySem.Spec PyProof.Rows L2
/-! ### a def of the text, a def that may be called -/
def Df (K : PySem.W.Frag) (mg : Str → Option Value) (x : Str) (st : Stmt) (ps : List Str) : Prop :=
  ∃ (f : Addr) (fd : FuncData), Fun K x x st f fd ∧ mg x = some (.ref f) ∧ ∀ us : List Value, us.length = ps.length → bindArgs fd ⟨us, []⟩ = pure (ps.zip us)
theorem Df.mk {K : PySem.W.Frag} {mg : Str → Option Value} {h : Heap} {x : Str} {st : Stmt} {ps : List Str} {f : Addr} {oc : Value} {od an : Option Addr} {sl : Array (Option Value)} {kV doc pm cd ct : Value} (X : K.In h) (G : h.Ns PySem.mainGlobals mg)
    (b : ∀ (kV doc pm : Value) (an : Option Addr) (cdv ct : Value) (us : List Value), us.length = ps.length → bindArgs (PySem.W.fnOf x x (defArgs st) (defBody st) (defScope st) .none kV doc pm an cdv ct) ⟨us, []⟩ = pure (ps.zip us))
    (a : PySem.W.nsIn K PySem.mainGlobals x = some (some (.ref f)))
    (l : K.lookup f = some ⟨oc, od, .func (PySem.W.fnOf x x (defArgs st) (defBody st) (defScope st) .none kV doc pm an cd ct), sl⟩)
    (c : PySem.W.codeIn K cd x = true) (k : PySem.W.keepIn K (.ref f) = true) : Df K mg x st ps :=
  ⟨f, _, fun_mk l c k, PySem.W.mg_of X G a, b kV doc pm an cd ct⟩
def Cal (P : Program) (w : World) (K : PySem.W.Frag) (mg : Str → Option Value) (base : Heap) (CX : CXT) (k : Nat) (x : Str) (ps : List Str) (sp : Sp) : Prop :=
  ∃ (f : Addr) (fd : FuncData), FnOk P w K mg base CX k f fd ps sp ∧ mg x = some (.ref f) ∧ PySem.W.keepIn K (.ref f) = true ∧ Binds K fd ps []
section
variable {P : Program} {w : World} {K : PySem.W.Frag} {mg : Str → Option Value} {base : Heap}
theorem Df.ok0 {x : Str} {st : Stmt} {N ps : List Str} {k : Nat} {sp : Sp} (D : Df K mg x st ps) (S : FnScope N ps (defScope st)) (len : ∀ vs H Q E, sp vs H Q E → vs.length = ps.length)
    (hbody : ∀ (f : Addr) (cdv : Value) (A : Around) (outer : List Env) (s : Shared) (H : Hp) (vs : List V) (Q : VK) (E : XK), Room k (A.deeper (envOfC x (defScope st) s.heap.objs.size f cdv)) → sp vs H Q E →
      ∃ t, PSs (cxOf CX0 P w K mg base N x (defScope st) f cdv A outer s H E).nox (defBody st) t ∧ t { nx := fun _ H' => Q .non H', rt := Q } (start N vs) H) : Cal P w K mg base CX0 (k + 1) x ps sp := by
  obtain ⟨f, fd, F, m, b⟩ := D
  exact ⟨f, fd, F.ok S len (hbody f), m, F.kp, .all b⟩
end
theorem pe_c {X : Cx} {CX : CXT} {j k : Nat} {x : Str} {ps : List Str} {sp : Sp} {E : XK} {p pos : Pos} {e : Expr} {es : List Expr} {t : TA} (c : Cal X.prog X.w X.K X.mg X.base CX j x ps sp) (hr : Room k X.A) (hjk : j ≤ k) (hg : Gl X x) (hx : Passes CX X E)
    (ha : PA X (e :: es) t) (hdb : (x == ("__debug__" : Str)) = false := by decide) (he : starEach (e :: es) X.env = (false, eval e X.env) :: starEach es X.env := by rfl) (hpl : (backTo pos (starEach es X.env)).any (·.1) = false := by rfl) :
    PE X (.Call (.Name x p) (e :: es) [] pos) (tCall sp [] E t) := by
  obtain ⟨f, fd, F, m, kp, b⟩ := c
  exact pe_call F (hr.mono hjk) hg m kp b .nil hx ha hdb he hpl
end Kb

namespace Kb
open PySem PySem.Spec PyProof.Rows L2 TL PySem.StrLaws Builtin.Str
/-! ### lists of signs: parts between one sign -/
def sp1 (c : Nat) : List Nat → List (List Nat)
  | [] => [[]]
  | x :: l => if x = c then [] :: sp1 c l else match sp1 c l with
    | [] => [[x]]
    | h :: t => (x :: h) :: t
theorem sp1_ne (c : Nat) : ∀ l, sp1 c l ≠ []
  | [] => by simp [sp1]
  | x :: l => by
    unfold sp1
    split
    · simp
    · cases h : sp1 c l <;> simp
theorem sp1_hit (c : Nat) (l : List Nat) : sp1 c (c :: l) = [] :: sp1 c l := by simp [sp1]
theorem sp1_miss {c x : Nat} (h : x ≠ c) {l p : List Nat} {r : List (List Nat)} (e : sp1 c l = p :: r) : sp1 c (x :: l) = (x :: p) :: r := by
  simp only [sp1, if_neg h, e]
theorem sp1_cons (c : Nat) (l : List Nat) : ∃ p r, sp1 c l = p :: r := by
  cases h : sp1 c l with
  | nil => exact absurd h (sp1_ne c l)
  | cons p r => exact ⟨p, r, rfl⟩
theorem spl_sp1 (c : Nat) : ∀ (l acc : List Nat) (p : List Nat) (r : List (List Nat)), sp1 c l = p :: r → spl [c] 0 acc l = (acc ++ p) :: r
  | [], acc, p, r, h => by
    simp only [sp1, List.cons.injEq] at h
    obtain ⟨rfl, rfl⟩ := h
    simp [spl_nil]
  | x :: l, acc, p, r, h => by
    obtain ⟨q, s, e⟩ := sp1_cons c l
    by_cases hx : x = c
    · subst hx
      rw [sp1_hit] at h
      simp only [List.cons.injEq] at h
      obtain ⟨rfl, rfl⟩ := h
      rw [spl_hit (by simp [pre])]
      rw [show [x].length - 1 = 0 from rfl, spl_sp1 x l [] q s e, e]
      simp
    · rw [sp1_miss hx e] at h
      simp only [List.cons.injEq] at h
      obtain ⟨rfl, rfl⟩ := h
      rw [spl_miss (by simp [pre, hx]), spl_sp1 c l _ q s e]
      simp
theorem split_sp1 (x : Str) {c : Nat} (hc : c < 256) : (Txt.split x ⟨#[c]⟩).map tl = sp1 c (tl x) := by
  rw [split_spl x ⟨#[c]⟩ (by simp [tl]) (kind_ok (by simp [hc]))]
  obtain ⟨p, r, e⟩ := sp1_cons c (tl x)
  show spl [c] 0 [] (tl x) = _
  rw [spl_sp1 c _ [] p r e, e]
  rfl
theorem joinL_sp1 (c : Nat) : ∀ l, joinL [c] (sp1 c l) = l
  | [] => rfl
  | x :: l => by
    obtain ⟨q, s, e⟩ := sp1_cons c l
    have ih := joinL_sp1 c l
    by_cases hx : x = c
    · subst hx
      rw [sp1_hit, e]
      rw [e] at ih
      show [] ++ ([x] ++ joinL [x] (q :: s)) = _
      rw [ih]; rfl
    · rw [sp1_miss hx e]
      rw [e] at ih
      cases s with
      | nil => exact congrArg (x :: ·) ih
      | cons a b => exact congrArg (x :: ·) ih
theorem sp1_free (c : Nat) : ∀ l, ∀ p ∈ sp1 c l, c ∉ p
  | [], p, h => by simp only [sp1, List.mem_singleton] at h; subst h; simp
  | x :: l, p, h => by
    obtain ⟨q, s, e⟩ := sp1_cons c l
    have ih := sp1_free c l
    by_cases hx : x = c
    · subst hx
      rw [sp1_hit] at h
      rcases List.mem_cons.mp h with rfl | h
      · simp
      · exact ih p h
    · rw [sp1_miss hx e] at h
      rw [e] at ih
      rcases List.mem_cons.mp h with rfl | h
      · intro hm
        rcases List.mem_cons.mp hm with r | r
        · exact hx r.symm
        · exact ih q (List.mem_cons_self ..) r
      · exact ih p (List.mem_cons_of_mem _ h)
theorem sp1_of_free {c : Nat} : ∀ {l : List Nat}, c ∉ l → sp1 c l = [l]
  | [], _ => rfl
  | x :: l, h => by
    have hx : x ≠ c := fun e => h (e ▸ List.mem_cons_self ..)
    rw [sp1_miss hx (sp1_of_free fun m => h (List.mem_cons_of_mem _ m))]
theorem sp1_app (c : Nat) : ∀ (a b : List Nat), sp1 c (a ++ c :: b) = sp1 c a ++ sp1 c b
  | [], b => by rw [List.nil_append, sp1_hit]; rfl
  | x :: a, b => by
    obtain ⟨q, s, e⟩ := sp1_cons c a
    have ih := sp1_app c a b
    rw [e] at ih
    by_cases hx : x = c
    · subst hx
      rw [List.cons_append, sp1_hit, sp1_hit, ih, e]; rfl
    · rw [List.cons_append, sp1_miss hx ih, sp1_miss hx e]; rfl
/-- r and the sign stand at the head exactly if r's parts are the first ones, with one more behind -/
theorem sp1_prefix (c : Nat) : ∀ (r p : List Nat), ((sp1 c r).length < (sp1 c p).length ∧ (sp1 c p).take (sp1 c r).length = sp1 c r) ↔ (r ++ [c]) <+: p
  | [], p => by
    show (1 < _ ∧ List.take 1 _ = [[]]) ↔ [c] <+: p
    cases p with
    | nil => simp [sp1]
    | cons x p =>
      obtain ⟨q, s, e⟩ := sp1_cons c p
      by_cases hx : x = c
      · subst hx
        simp [sp1_hit, e]
      · rw [sp1_miss hx e]
        simp [List.cons_prefix_cons, Ne.symm hx]
  | y :: r, p => by
    obtain ⟨q, s, e⟩ := sp1_cons c r
    cases p with
    | nil =>
      have h1 : 0 < (sp1 c (y :: r)).length := List.length_pos_iff.mpr (sp1_ne c _)
      constructor
      · rintro ⟨h, _⟩
        simp only [sp1, List.length_cons, List.length_nil] at h
        exact absurd h (by have : (sp1 c (y :: r)).length = (sp1 c (y :: r)).length := rfl; simp only [sp1] at h1; omega)
      · intro h; simp at h
    | cons x p =>
      obtain ⟨q', s', e'⟩ := sp1_cons c p
      have ih := sp1_prefix c r p
      rw [List.cons_append, List.cons_prefix_cons]
      by_cases hy : y = c
      · subst hy
        rw [sp1_hit]
        by_cases hx : x = y
        · subst hx
          rw [sp1_hit]
          simp only [List.length_cons, List.take_succ_cons, List.cons.injEq, true_and, Nat.add_lt_add_iff_right]
          exact ih
        · rw [sp1_miss hx e']
          simp [Ne.symm hx]
      · rw [sp1_miss hy e]
        by_cases hx : x = c
        · subst hx
          rw [sp1_hit]
          simp [Ne.symm hy, hy]
        · rw [sp1_miss hx e']
          rw [e, e'] at ih
          simp only [List.length_cons, List.take_succ_cons, List.cons.injEq] at ih ⊢
          constructor
          · rintro ⟨h1, ⟨h2, h3⟩, h4⟩
            exact ⟨h2.symm, ih.mp ⟨h1, h3, h4⟩⟩
          · rintro ⟨h2, h⟩
            obtain ⟨h1, h3, h4⟩ := ih.mpr h
            exact ⟨h1, ⟨h2.symm, h3⟩, h4⟩
/-- the last part -/
theorem last_cut {c : Nat} : ∀ {l : List Nat}, c ∈ l → ∃ a b, l = a ++ c :: b ∧ c ∉ b
  | [], h => by cases h
  | x :: l, h => by
    by_cases hm : c ∈ l
    · obtain ⟨a, b, e, hb⟩ := last_cut hm
      exact ⟨x :: a, b, by rw [e]; rfl, hb⟩
    · have hx : c = x := by
        rcases List.mem_cons.mp h with e | e
        · exact e
        · exact absurd e hm
      exact ⟨[], l, by rw [hx]; rfl, hm⟩
/-! ### the model's words as list functions -/
theorem startswith_tl (x y : Str) : Txt.startswith x y = (tl y).isPrefixOf (tl x) := by
  unfold Txt.startswith
  rw [subAt_eq, List.drop_zero, len_tl, len_tl, Nat.zero_add]
  rw [Bool.eq_iff_iff]
  simp only [Bool.and_eq_true, decide_eq_true_eq, beq_iff_eq, List.isPrefixOf_iff_prefix]
  constructor
  · rintro ⟨_, h⟩
    have h : List.take (tl y).length (tl x) = tl y := h
    exact h ▸ List.take_prefix _ _
  · intro h
    exact ⟨h.length_le, (List.prefix_iff_eq_take.mp h).symm⟩
theorem endswith_tl (x y : Str) : Txt.endswith x y = (tl y).isSuffixOf (tl x) := by
  unfold Txt.endswith
  rw [subAt_eq, len_tl, len_tl, Nat.zero_add]
  rw [Bool.eq_iff_iff]
  simp only [Bool.and_eq_true, decide_eq_true_eq, beq_iff_eq, List.isSuffixOf_iff_suffix]
  constructor
  · rintro ⟨h1, h⟩
    have h : List.take (tl y).length (List.drop ((tl x).length - (tl y).length) (tl x)) = tl y := h
    rw [List.take_of_length_le (by rw [List.length_drop]; omega)] at h
    exact h ▸ List.drop_suffix _ _
  · intro h
    have hl := h.length_le
    refine ⟨hl, ?_⟩
    show List.take (tl y).length (List.drop ((tl x).length - (tl y).length) (tl x)) = tl y
    rw [List.take_of_length_le (by rw [List.length_drop]; omega)]
    exact (List.suffix_iff_eq_drop.mp h).symm
theorem rpartition_hit {x : Str} {c : Nat} {a b : List Nat} (e : tl x = a ++ c :: b) (hb : c ∉ b) : tl (Txt.rpartition x ⟨#[c]⟩).1 = a := by
  have hy : tl (⟨#[c]⟩ : Str) ≠ [] := by simp [tl]
  have at' : ∀ i, At x ⟨#[c]⟩ x.length i ↔ (tl x)[i]? = some c := fun i => by
    rw [at_iff hy]
    show (((tl x).drop i).take 1 == [c]) = true ↔ _
    exact take1_drop
  have hit : At x ⟨#[c]⟩ x.length a.length := (at' _).mpr (by rw [e]; simp)
  unfold Txt.rpartition
  rcases last_spec x ⟨#[c]⟩ with ⟨e1, h⟩ | ⟨i, e1, h1, h2⟩
  · exact absurd hit (h _)
  · rw [e1]
    show tl (strSub x 0 i) = a
    have hi : i = a.length := by
      rcases Nat.lt_trichotomy i a.length with q | q | q
      · exact absurd hit (h2 _ q)
      · exact q
      · have g := (at' i).mp h1
        rw [e, List.getElem?_append_right (by omega)] at g
        obtain ⟨k, hk⟩ : ∃ k, i - a.length = k + 1 := ⟨i - a.length - 1, by omega⟩
        rw [hk, List.getElem?_cons_succ] at g
        exact absurd (List.mem_of_getElem? g) hb
    rw [tl_strSub, hi, e]
    simp
theorem tl_S (l : List Nat) : tl ⟨l.toArray⟩ = l := rfl
theorem str_eq_iff {x y : Str} : x = y ↔ tl x = tl y := ⟨fun e => by rw [e], ext_tl⟩
end Kb
namespace Kb
open PySem PySem.Spec PyProof.Rows L2 TL PySem.StrLaws Builtin.Str
theorem cutS_to (z : Str) {i : Int} (h : 0 ≤ i) : tl (cutS z none (some i)) = (tl z).take i.toNat := by
  obtain ⟨k, rfl⟩ : ∃ k : Nat, i = (k : Int) := ⟨i.toNat, by omega⟩
  show ((tl z).drop (HT.sIx z.length 0 none)).take (HT.sIx z.length z.length (some (k : Int)) - HT.sIx z.length 0 none) = _
  rw [HT.sIx_none, HT.sIx_nat, List.drop_zero, Nat.sub_zero, Int.toNat_natCast, len_tl, ← List.take_take, List.take_of_length_le (Nat.le_refl _)]
end Kb
namespace Kb
open PySem PySem.Spec PyProof.Rows L2 TL PySem.StrLaws Builtin.Str
theorem cutV_to (xs : List V) {i : Int} (h : 0 ≤ i) : cutV xs none (some i) = xs.take i.toNat := by
  obtain ⟨k, rfl⟩ : ∃ k : Nat, i = (k : Int) := ⟨i.toNat, by omega⟩
  show (xs.drop (HT.sIx xs.length 0 none)).take (HT.sIx xs.length xs.length (some (k : Int)) - HT.sIx xs.length 0 none) = _
  rw [HT.sIx_none, HT.sIx_nat, List.drop_zero, Nat.sub_zero, Int.toNat_natCast, ← List.take_take, List.take_of_length_le (Nat.le_refl _)]
theorem cutV_m1 (xs : List V) : cutV xs none (some (-1)) = xs.dropLast := by
  show (xs.drop (HT.sIx xs.length 0 none)).take (HT.sIx xs.length xs.length (some (-1)) - HT.sIx xs.length 0 none) = _
  rw [HT.sIx_none, List.drop_zero, Nat.sub_zero, List.dropLast_eq_take]
  have e : HT.sIx xs.length xs.length (some (-1)) = xs.length - 1 := by
    show (if (-1 : Int) < 0 then ((-1 : Int) + (xs.length : Int)).toNat else min (-1 : Int).toNat xs.length) = _
    rw [if_pos (by decide)]
    omega
  rw [e]
theorem sp1_mem {c s : Nat} : ∀ {l p : List Nat}, p ∈ sp1 c l → s ∈ p → s ∈ l
  | [], p, h, hs => by simp only [sp1, List.mem_singleton] at h; subst h; exact hs
  | x :: l, p, h, hs => by
    obtain ⟨q, r, e⟩ := sp1_cons c l
    have ih := fun p => sp1_mem (c := c) (s := s) (l := l) (p := p)
    by_cases hx : x = c
    · subst hx
      rw [sp1_hit] at h
      rcases List.mem_cons.mp h with rfl | h
      · cases hs
      · exact List.mem_cons_of_mem _ (ih p h hs)
    · rw [sp1_miss hx e] at h
      rw [e] at ih
      rcases List.mem_cons.mp h with rfl | h
      · rcases List.mem_cons.mp hs with rfl | hs
        · exact List.mem_cons_self ..
        · exact List.mem_cons_of_mem _ (ih q (List.mem_cons_self ..) hs)
      · exact List.mem_cons_of_mem _ (ih p (List.mem_cons_of_mem _ h) hs)
theorem split_mem {x p : Str} {c : Nat} (hc : c < 256) (h : p ∈ Txt.split x ⟨#[c]⟩) : ∀ s ∈ tl p, s ∈ tl x := fun s hs =>
  sp1_mem (c := c) (by rw [← split_sp1 x hc]; exact List.mem_map.mpr ⟨p, h, rfl⟩) hs
theorem split_strOk {x : Str} {c : Nat} (hc : c < 256) (hx : ∀ s ∈ tl x, s < 1114112) : ∀ p ∈ Txt.split x ⟨#[c]⟩, PyData.canLay0 (.str p) = true := fun p hp => by
  rw [PyData.canLay0]
  show p.cps.all _ = true
  rw [Array.all_eq_true_iff_forall_mem]
  intro s hs
  exact decide_eq_true (hx s (split_mem hc hp s (Array.mem_toList_iff.mpr hs)))
theorem prefix_snoc {q p : List Nat} {c : Nat} : (q ++ [c]) <+: p ↔ q <+: p ∧ p[q.length]? = some c := by
  constructor
  · rintro ⟨r, e⟩
    refine ⟨⟨c :: r, by rw [← e]; simp⟩, ?_⟩
    rw [← e]; simp
  · rintro ⟨⟨r, e⟩, h⟩
    rw [← e, List.getElem?_append_right (Nat.le_refl _), Nat.sub_self] at h
    cases r with
    | nil => cases h
    | cons a r =>
      cases h
      exact ⟨r, by rw [← e]; simp⟩
theorem snoc_of_ne {l : List Nat} (h : l ≠ []) : ∃ r c, l = r ++ [c] := ⟨l.dropLast, l.getLast h, (List.dropLast_concat_getLast h).symm⟩
theorem sp1_length {c : Nat} : ∀ l : List Nat, (sp1 c l).length ≤ l.length + 1
  | [] => by simp [sp1]
  | x :: l => by
    obtain ⟨q, r, e⟩ := sp1_cons c l
    have ih := sp1_length (c := c) l
    by_cases hx : x = c
    · subst hx; rw [sp1_hit]; simp; omega
    · rw [sp1_miss hx e]; rw [e] at ih; simp at ih ⊢; omega
theorem split_length (x : Str) {c : Nat} (hc : c < 256) : (Txt.split x ⟨#[c]⟩).length ≤ x.length + 1 := by
  have := sp1_length (c := c) (tl x)
  rw [← split_sp1 x hc, List.length_map] at this
  rw [len_tl]; exact this
end Kb
namespace Kb
open PySem PySem.Spec PyProof.Rows L2 TL PySem.StrLaws Builtin.Str
theorem sp1_mem_len {c : Nat} : ∀ {l p : List Nat}, p ∈ sp1 c l → p.length ≤ l.length
  | [], p, h => by simp only [sp1, List.mem_singleton] at h; subst h; simp
  | x :: l, p, h => by
    obtain ⟨q, r, e⟩ := sp1_cons c l
    have ih := fun p => sp1_mem_len (c := c) (l := l) (p := p)
    by_cases hx : x = c
    · subst hx
      rw [sp1_hit] at h
      rcases List.mem_cons.mp h with rfl | h
      · simp
      · have := ih p h; simp; omega
    · rw [sp1_miss hx e] at h
      rw [e] at ih
      rcases List.mem_cons.mp h with rfl | h
      · have := ih q (List.mem_cons_self ..); simp; omega
      · have := ih p (List.mem_cons_of_mem _ h); simp; omega
theorem split_mem_len {x p : Str} {c : Nat} (hc : c < 256) (h : p ∈ Txt.split x ⟨#[c]⟩) : p.length ≤ x.length := by
  rw [len_tl, len_tl]
  exact sp1_mem_len (c := c) (by rw [← split_sp1 x hc]; exact List.mem_map.mpr ⟨p, h, rfl⟩)
theorem joinL_nil {c : Nat} : ∀ {L : List (List Nat)}, joinL [c] L = [] → L = [] ∨ L = [[]]
  | [], _ => .inl rfl
  | [p], h => .inr (by rw [show p = [] from h])
  | p :: q :: r, h => by
    have : p ++ ([c] ++ joinL [c] (q :: r)) = [] := h
    simp at this
theorem join_tl (y : Str) (parts : List Str) : tl (Txt.join y parts) = joinL (tl y) (parts.map tl) := by rw [join_eq, tl_join]
end Kb
namespace Kb
open PySem PySem.Spec PyProof.Rows L2 TL PySem.StrLaws Builtin.Str
theorem cutV_from (xs : List V) {i : Int} (h : 0 ≤ i) : cutV xs (some i) none = xs.drop i.toNat := by
  obtain ⟨k, rfl⟩ : ∃ k : Nat, i = (k : Int) := ⟨i.toNat, by omega⟩
  show (xs.drop (HT.sIx xs.length 0 (some (k : Int)))).take (HT.sIx xs.length xs.length none - HT.sIx xs.length 0 (some (k : Int))) = _
  rw [HT.sIx_none, HT.sIx_nat, Int.toNat_natCast]
  rcases Nat.le_total k xs.length with q | q
  · rw [Nat.min_eq_left q, List.take_of_length_le (by rw [List.length_drop]; omega)]
  · rw [Nat.min_eq_right q, List.drop_length, List.drop_eq_nil_of_le q, List.take_nil]
end Kb

namespace Kb
open PySem PySem.Spec PyProof.Rows L2
section
variable {X : Cx}
theorem pe_gc {x : Str} {pos : Pos} {v : V} (hg : Gl X x) (h : ∃ u, X.mg x = some u ∧ RelV v u) (hd : (x == ("__debug__" : Str)) = false := by decide) : PE X (.Name x pos) (tC v) := by
  obtain ⟨u, hm, r⟩ := h
  exact pe_glob hg hm r hd
theorem mt_rpartition : MtR X "str.rpartition" (fun x xs H Q => ∃ a b, x = .str a ∧ xs = [.str b] ∧ (b.length == 0) = false ∧ a.length ≤ sizeLine ∧
    ∀ p, H p = none → Q (.ref p) (upd H p (.tup [.str (Txt.rpartition a b).1, .str (Txt.rpartition a b).2.1, .str (Txt.rpartition a b).2.2]))) := by
  intro pins s σ H x xs v us Q I rx rs h
  obtain ⟨a, b, rfl, rfl, hb, hz, h⟩ := h
  obtain ⟨t, rfl⟩ := rx
  cases rs with
  | cons r1 rs =>
    cases rs
    obtain ⟨u, rfl⟩ := r1
    refine call_meets F.slot_str_rpartition (typeIs_str _ _ _) F.entry_str_rpartition (F.args_str_rpartition_2 _ _) (meets_str_rpartition a b t u hb hz) ?_
    unfold Txt.rpartition at h
    revert h
    cases Builtin.Str.lastOccurrence a b 0 a.length with
    | none => intro h; exact laid_parts I h
    | some i => intro h; exact laid_parts I h
end
/-! ### frames -/
/-- all that was tracked is as it was, but for d -/
def Keep (d : Addr) (H H' : Hp) : Prop := ∀ b o, H b = some o → b ≠ d → H' b = some o
theorem Keep.refl {d : Addr} {H : Hp} : Keep d H H := fun _ _ h _ => h
theorem Keep.trans {d : Addr} {H H1 H2 : Hp} (a : Keep d H H1) (b : Keep d H1 H2) : Keep d H H2 := fun c o h n => b c o (a c o h n) n
theorem Same.keep {d : Addr} {H H' : Hp} (a : Same H H') : Keep d H H' := fun c o h _ => a c o h
theorem Same.new {H : Hp} {p : Addr} {o : HO} (h : H p = none) : Same H (upd H p o) := fun b u e => by
  rw [upd_ne (ne_of_none e h)]
  exact e
theorem Keep.upd {d : Addr} {H H' : Hp} {o : HO} (a : Keep d H H') : Keep d H (upd H' d o) := fun c u h n => by
  rw [upd_ne n]
  exact a c u h n
theorem Keep.same {d : Addr} {H H1 H2 : Hp} (a : Keep d H H1) (b : Same H1 H2) : Keep d H H2 := fun c o h n => b c o (a c o h n)
theorem Same.then {d : Addr} {H H1 H2 : Hp} (a : Same H H1) (b : Keep d H1 H2) : Keep d H H2 := fun c o h n => b c o (a c o h) n
theorem Keep.seqL {K : PySem.W.Frag} {d a : Addr} {H H' : Hp} {xs : List V} (k : Keep d H H') (n : a ≠ d) (h : SqL K H a xs) : SqL K H' a xs := by
  rcases h with (h | ⟨o, h⟩) | h
  · exact .inl (.inl (k _ _ h n))
  · exact .inl (.inr ⟨o, k _ _ h n⟩)
  · exact .inr h
/-- an object that is new behind d's own changes -/
theorem Keep.fresh {d : Addr} {H H' : Hp} {l : Addr} (k : Keep d H H') (hd : H d = none) (h : H' l = none) : H l = none := by
  cases q : H l with
  | none => rfl
  | some o =>
    have : l ≠ d := fun e => by rw [e, hd] at q; cases q
    rw [k l o q this] at h
    cases h
/-- what is new since H stays new in Same's way -/
theorem Keep.toSame {d : Addr} {H H' : Hp} (k : Keep d H H') (hd : H d = none) : Same H H' := fun b o h => k b o h (ne_of_none h hd)
/-! ### a menu at an index in bounds -/
theorem menu {xs : List V} {i : Int} (h0 : 0 ≤ i) (h1 : i < (xs.length : Int)) : ∃ v, v ∈ xs ∧ atI xs i = some v := by
  obtain ⟨n, rfl⟩ : ∃ n : Nat, i = (n : Int) := ⟨i.toNat, by omega⟩
  have hn : n < xs.length := by omega
  exact ⟨xs[n], List.getElem_mem hn, atI_nat (List.getElem?_eq_getElem hn)⟩
theorem iteB {b : Bool} {A B : Prop} (h1 : b = true → A) (h2 : b = false → B) : if b = true then A else B := by
  cases b
  · rw [if_neg Bool.false_ne_true]; exact h2 rfl
  · rw [if_pos rfl]; exact h1 rfl
/-! ### the draw -/
def kLeft : Key := Sum.inr "left"
def kCell : Key := Sum.inr "cell"
def kTurns : Key := Sum.inr "turns"
def dkv (l c t : Int) : List (Key × V) := [(Sum.inr "left", .int l), (Sum.inr "cell", .int c), (Sum.inr "turns", .int t)]
theorem kne1 : ¬ (("left" : Str) = "cell") := by decide +kernel
theorem kne2 : ¬ (("left" : Str) = "turns") := by decide +kernel
theorem kne3 : ¬ (("cell" : Str) = "turns") := by decide +kernel
theorem dkv_left (l c t : Int) : valV (dkv l c t) (Sum.inr "left" : Key) = some (.int l) := by
  simp [valV, dkv]
theorem dkv_cell (l c t : Int) : valV (dkv l c t) (Sum.inr "cell" : Key) = some (.int c) := by
  simp [valV, dkv, kne1]
theorem dkv_turns (l c t : Int) : valV (dkv l c t) (Sum.inr "turns" : Key) = some (.int t) := by
  simp [valV, dkv, kne2, kne3]
theorem dkv_putL (l c t x : Int) : putK (dkv l c t) (Sum.inr "left" : Key) (.int x) = dkv x c t := by
  simp [putK, dkv, Ne.symm kne1, Ne.symm kne2]
theorem dkv_putT (l c t x : Int) : putK (dkv l c t) (Sum.inr "turns" : Key) (.int x) = dkv l c x := by
  simp [putK, dkv, kne2, kne3]
def DrawAt (H : Hp) (d : Addr) (n : Nat) : Prop := ∃ l c t : Int, H d = some (.dK (dkv l c t)) ∧ 0 ≤ l ∧ 0 ≤ t ∧ t + 4 * (n : Int) ≤ 1000000000
theorem DrawAt.less {H : Hp} {d : Addr} {n m : Nat} (h : DrawAt H d n) (e : m ≤ n) : DrawAt H d m := by
  obtain ⟨l, c, t, h1, h2, h3, h4⟩ := h
  exact ⟨l, c, t, h1, h2, h3, by omega⟩
theorem DrawAt.same {H H' : Hp} {d : Addr} {n : Nat} (h : DrawAt H d n) (s : Same H H') : DrawAt H' d n := by
  obtain ⟨l, c, t, h1, h2⟩ := h
  exact ⟨l, c, t, s _ _ h1, h2⟩
theorem DrawAt.keep {H H' : Hp} {d e : Addr} {n : Nat} (h : DrawAt H d n) (s : Keep e H H') (x : d ≠ e) : DrawAt H' d n := by
  obtain ⟨l, c, t, h1, h2⟩ := h
  exact ⟨l, c, t, s _ _ h1 x, h2⟩
end Kb
namespace Kb
open PySem PySem.Spec PyProof.Rows L2
theorem dget_left {H : Hp} {d : Addr} {l c t : Int} (h : H d = some (.dK (dkv l c t))) : DGet H d (.str "left") (some (.int l)) := by
  have e := DGet.k (k := (Sum.inr "left" : Key)) h
  rw [dkv_left] at e
  exact e
theorem dget_cell {H : Hp} {d : Addr} {l c t : Int} (h : H d = some (.dK (dkv l c t))) : DGet H d (.str "cell") (some (.int c)) := by
  have e := DGet.k (k := (Sum.inr "cell" : Key)) h
  rw [dkv_cell] at e
  exact e
theorem dget_turns {H : Hp} {d : Addr} {l c t : Int} (h : H d = some (.dK (dkv l c t))) : DGet H d (.str "turns") (some (.int t)) := by
  have e := DGet.k (k := (Sum.inr "turns" : Key)) h
  rw [dkv_turns] at e
  exact e
theorem dput_left {H : Hp} {d : Addr} {l c t : Int} (x : Int) (h : H d = some (.dK (dkv l c t))) : DPut H d (.str "left") (.int x) (upd H d (.dK (dkv x c t))) := by
  have e := DPut.k (k := (Sum.inr "left" : Key)) (v := .int x) h (Nat.lt_of_lt_of_le (by show 3 < 10; decide) (by decide))
  rw [dkv_putL] at e
  exact e
theorem dput_turns {H : Hp} {d : Addr} {l c t : Int} (x : Int) (h : H d = some (.dK (dkv l c t))) : DPut H d (.str "turns") (.int x) (upd H d (.dK (dkv l c x))) := by
  have e := DPut.k (k := (Sum.inr "turns" : Key)) (v := .int x) h (Nat.lt_of_lt_of_le (by show 3 < 10; decide) (by decide))
  rw [dkv_putT] at e
  exact e
end Kb
namespace Kb
open PySem PySem.Spec PyProof.Rows L2 TL
section
variable {K : PySem.W.Frag} {a : Addr} {xs : List V} {g : TG} {tb : TS} {D : Ends} {σ : L2.St} {H : Hp}
theorem for_str {z : Str} (Pv : Nat → L2.St → Hp → Prop) (h0 : Pv 0 σ H)
    (hs : ∀ i c σ H, (tl z)[i]? = some c → Pv i σ H → g (.str ⟨#[c]⟩) σ H fun σ2 H2 => tb { D with nx := Pv (i + 1), ct := Pv (i + 1), bk := D.nx } σ2 H2) (hd : ∀ σ H, Pv (tl z).length σ H → D.nx σ H) :
    ∃ W : Nat → Nat → L2.St → Hp → Prop, (∃ m, W 0 m σ H) ∧ ∀ i m σ H, W i m σ H →
      ((Its z).stop i H ∧ D.nx σ H) ∨ ((Its z).go i H ∧ ∃ N : L2.St → Hp → Prop, (∀ σ' H', N σ' H' → ∃ m', m' < m ∧ W (i + 1) m' σ' H') ∧ ∀ x H', (Its z).yld i H x H' → g x σ H' fun σ2 H2 => tb { D with nx := N, ct := N, bk := D.nx } σ2 H2) := by
  refine for_it walk_str Pv h0 (fun _ _ _ _ _ => trivial) (fun i x σ H H' hi p y => ?_) (fun σ H p => hd σ H (by rw [show (tl z).length = z.cps.size by simp [tl]]; exact p))
  obtain ⟨rfl, c, hc, rfl⟩ := y
  exact hs i c σ _ (by rw [← hc]; simp [tl]) p
theorem for_enum (Pv : Nat → L2.St → Hp → Prop) (h0 : Pv 0 σ H) (hG : ∀ i σ H, i ≤ xs.length → Pv i σ H → SqL K H a xs)
    (hs : ∀ i x T σ H, xs[i]? = some x → Pv i σ H → H T = none → g (.ref T) σ (upd H T (.tup [.int (i : Nat), x])) fun σ2 H2 => tb { D with nx := Pv (i + 1), ct := Pv (i + 1), bk := D.nx } σ2 H2) (hd : ∀ σ H, Pv xs.length σ H → D.nx σ H) :
    ∃ W : Nat → Nat → L2.St → Hp → Prop, (∃ m, W 0 m σ H) ∧ ∀ i m σ H, W i m σ H →
      ((Ite K a).stop i H ∧ D.nx σ H) ∨ ((Ite K a).go i H ∧ ∃ N : L2.St → Hp → Prop, (∀ σ' H', N σ' H' → ∃ m', m' < m ∧ W (i + 1) m' σ' H') ∧ ∀ x H', (Ite K a).yld i H x H' → g x σ H' fun σ2 H2 => tb { D with nx := N, ct := N, bk := D.nx } σ2 H2) := by
  refine for_it walk_enum Pv h0 hG (fun i x σ H H' hi p y => ?_) hd
  obtain ⟨T, x, y, rfl, hT, rfl, h1, h2⟩ := y
  cases h1
  exact hs i y T σ H h2 p hT
end
end Kb
namespace Kb
open PySem PySem.Spec PyProof.Rows L2 TL
/-! ### == of lists of texts -/
theorem dpAll_strs {K : PySem.W.Frag} {H : Hp} : ∀ ys : List Str, DpAll K H (ys.map V.str) (ys.map PyData.str)
  | [] => .nil
  | y :: ys => .cons (.str y) (dpAll_strs ys)
theorem dp_strs {K : PySem.W.Frag} {H : Hp} {p : Addr} {ys : List Str} (h : SqL K H p (ys.map V.str)) : Dp K H (.ref p) (.list (ys.map PyData.str)) := .lst h (dpAll_strs ys)
theorem dp_strsT {K : PySem.W.Frag} {H : Hp} {p : Addr} {ys : List Str} (h : SqT K H p (ys.map V.str)) : Dp K H (.ref p) (.tuple (ys.map PyData.str)) := .tup h (dpAll_strs ys)
theorem eqvAll_strs : ∀ ys zs : List Str, PyData.eqvAll (ys.map PyData.str) (zs.map PyData.str) = decide (ys = zs)
  | [], [] => by simp [PyData.eqvAll]
  | [], z :: zs => by simp [PyData.eqvAll]
  | y :: ys, [] => by simp [PyData.eqvAll]
  | y :: ys, z :: zs => by
    rw [List.map_cons, List.map_cons, PyData.eqvAll, eqvAll_strs ys zs]
    rw [show PyData.eqv (.str y) (.str z) = (y == z) by simp [PyData.eqv]]
    rw [Bool.eq_iff_iff]
    simp
theorem canLay_strs : ∀ ys : List Str, (∀ y ∈ ys, PyData.canLay0 (.str y) = true) → PyData.canLayAll0 (ys.map PyData.str) = true
  | [], _ => by simp [PyData.canLayAll0]
  | y :: ys, h => by
    rw [List.map_cons, PyData.canLayAll0, h y (List.mem_cons_self ..), canLay_strs ys fun z hz => h z (List.mem_cons_of_mem _ hz)]; rfl
theorem depth_strs : ∀ ys : List Str, PyData.depthAll (ys.map PyData.str) = 0
  | [] => by simp [PyData.depthAll]
  | y :: ys => by
    rw [List.map_cons, PyData.depthAll, depth_strs ys]
    simp [PyData.depth]
theorem shaped_strs {ys : List Str} (h : ∀ y ∈ ys, PyData.canLay0 (.str y) = true) : SeqAt.shaped (.list (ys.map PyData.str)) = true := by
  unfold SeqAt.shaped
  rw [PyData.canLay0, canLay_strs ys h, PyData.depth, depth_strs]; rfl
end Kb
namespace Kb
open PySem PySem.Spec PyProof.Rows L2 TL
/-! ### rules with the written part named -/
def rLenQ (K : PySem.W.Frag) : List V → Hp → VK → Prop := fun xs H Q => ∃ p ys, xs = [.ref p] ∧ (SqL K H p ys ∨ SqT K H p ys) ∧ Q (.int ys.length) H
def rJoinQ (K : PySem.W.Frag) : V → List V → Hp → VK → Prop := fun x xs H Q => ∃ a p, ∃ ys : List Str, x = .str a ∧ xs = [.ref p] ∧ (SqL K H p (ys.map V.str) ∨ SqT K H p (ys.map V.str)) ∧ (ys.map (·.length)).sum + ys.length * a.length ≤ 16777216 ∧ Q (.str (Txt.join a ys)) H
end Kb
namespace Kb
open PySem PySem.Spec PyProof.Rows L2 TL
theorem DrawAt.upd {H : Hp} {d L : Addr} {n : Nat} {o : HO} (h : DrawAt H d n) (x : d ≠ L) : DrawAt (L2.upd H L o) d n := by
  obtain ⟨l, c, t, h1, h2⟩ := h
  exact ⟨l, c, t, by rw [upd_ne x]; exact h1, h2⟩
theorem DrawAt.ne {H : Hp} {d L : Addr} {n : Nat} (h : DrawAt H d n) (x : H L = none) : L ≠ d := fun e => by
  obtain ⟨_, _, _, q, _⟩ := h
  rw [e, q] at x; cases x
theorem Keep.updN {d L : Addr} {H H' : Hp} {o : HO} (k : Keep d H H') (h : H L = none) : Keep d H (L2.upd H' L o) := fun b q e n => by
  rw [upd_ne (ne_of_none e h)]
  exact k b q e n
end Kb
namespace Kb
open PySem PySem.Spec PyProof.Rows L2 TL
theorem all_at {p : Nat → Bool} {l : List Nat} {i : Nat} {c : Nat} (h : l[i]? = some c) : (l.take (i + 1)).all p = ((l.take i).all p && p c) := by
  rw [List.take_add_one, h, List.all_append]; simp
theorem allS_at {p : List Nat → Bool} {l : List Str} {i : Nat} {c : Str} (h : l[i]? = some c) : ((l.take (i + 1)).map tl).all p = (((l.take i).map tl).all p && p (tl c)) := by
  rw [List.take_add_one, h, List.map_append, List.all_append]; simp
theorem strAt {xs : List Str} {i : Nat} {v : V} (h : (xs.map V.str)[i]? = some v) : ∃ x, xs[i]? = some x ∧ v = .str x := by
  rw [List.getElem?_map] at h
  cases e : xs[i]? with
  | none => rw [e] at h; cases h
  | some x => rw [e] at h; exact ⟨x, rfl, (Option.some.inj h).symm⟩
/-- a text with f, or a value that is no text -/
def TxV (f : List Nat → Bool) (K : PySem.W.Frag) (H : Hp) (v : V) (b : Bool) : Prop :=
  (∃ x : Str, v = .str x ∧ x.length ≤ 1000000 ∧ b = f (tl x)) ∨ (∃ t : Value, TyX K H v t ∧ PySem.W.kitOne K t (.type "str") = some false ∧ b = false)
theorem kit_str (K : PySem.W.Frag) : PySem.W.kitOne K (.type "str") (.type "str") = some true := kit_ty (by decide +kernel)
theorem TxV.of {f : List Nat → Bool} {K : PySem.W.Frag} {H : Hp} {x : Str} (h : x.length ≤ 1000000) : TxV f K H (.str x) (f (tl x)) := .inl ⟨x, rfl, h, rfl⟩
end Kb

namespace Kb
open PySem PySem.Spec PyProof.Rows L2
/-! ### enumerate(tuple) -/
theorem enum_newB {v : Value} {o : Obj} {H : Heap → Prop} (B : Begins v o H) :
    Meets (Builtin.«enumerate.__new__» ⟨[.type "enumerate", v], []⟩) (fun _ R s => H s.heap ∧
      R (.ok (.ret (.ref (s.heap.push o).objs.size))) { s with heap := (s.heap.push o).push { cls := .type "enumerate", data := .fields #[.none, .bool false, .ref s.heap.objs.size, rawInt 0, .none, .none] } }) :=
  .of_wp fun prog w A R s h => by
    obtain ⟨hp, g, d, tk, os⟩ := s; obtain ⟨h1, h⟩ := h
    have hsub := sub_enumerate
    have q1 : ∀ {A' : Around} {E : Value → Shared → Prop} {Q : Value → Shared → Prop}, Q (.ref hp.objs.size) ⟨hp.push o, g, d, tk, os⟩ → wpAny (model prog w) A' (pyIter v) Q E ⟨hp, g, d, tk, os⟩ :=
      fun q => B.iter prog w _ _ ⟨hp, g, d, tk, os⟩ _ h1 q
    wp_walk using q1
    refine wpAny_stack_any fun st => wpAny_pure ?_
    split
    · rename_i c _ _ _ _ _
      cases (c == Value.type "enumerate")
      · wp_walk using q1
        exact ⟨_, rfl, h⟩
      · wp_walk using q1
        exact ⟨_, rfl, h⟩
    · wp_walk using q1
      exact ⟨_, rfl, h⟩
section
variable {prog : Program} {w : World} {A : Around} {E : Value → Shared → Prop} {s : Shared}
theorem call_enum1 {v : Value} {o : Obj} {H : Heap → Prop} {Q : Value → Shared → Prop} (B : Begins v o H) (h1 : H s.heap)
    (h : ∀ h', IsEnum h' (s.heap.objs.size + 1) s.heap.objs.size 0 .none → h'.get? s.heap.objs.size = some o → h'.objs.size = s.heap.objs.size + 2 →
      (∀ b o, s.heap.get? b = some o → h'.get? b = some o) → Q (.ref (s.heap.objs.size + 1)) { s with heap := h' }) :
    wpAny (model prog w) A (call (.type "enumerate") [v]) Q E s := by
  refine callType_new F.called_enumerate (by decide) (F.typeCall_enumerate_1 _) (F.newCall_enumerate_1 _) (fun obj => F.args_object_init_2 obj _) F.entry_enumerate_new
    (enum_newB B) ⟨h1, ?_⟩
  have hz : (s.heap.push o).objs.size = s.heap.objs.size + 1 := Heap.size_push ..
  show _ ∧ _
  rw [hz]
  have he : IsEnum ((s.heap.push o).push { cls := .type "enumerate", data := .fields #[.none, .bool false, .ref s.heap.objs.size, rawInt 0, .none, .none] }) (s.heap.objs.size + 1) s.heap.objs.size 0 .none := by
    have := Heap.get?_push_size (s.heap.push o) (o := { cls := .type "enumerate", data := .fields #[.none, .bool false, .ref s.heap.objs.size, rawInt 0, .none, .none] }) rfl
    rw [hz] at this; exact this
  refine ⟨⟨_, he, rfl⟩, h _ he (Heap.get?_push_of_some _ (Heap.get?_push_size _ B.free)) (by rw [Heap.size_push, hz]) fun b o x => Heap.get?_push_of_some _ (Heap.get?_push_of_some _ x)⟩
end
def Itet (K : PySem.W.Frag) (a : Addr) : It :=
  ⟨fun i H => ∃ (xs : List V) (x : V), SqT K H a xs ∧ xs[i]? = some x, fun i H v H' => ∃ T x, v = .ref T ∧ H T = none ∧ H' = L2.upd H T (.tup [.int (i : Nat), x]) ∧ ∀ xs, SqT K H a xs → xs[i]? = some x, fun i H => ∃ xs : List V, SqT K H a xs ∧ xs.length ≤ i⟩
theorem turn_enumT {P : Program} {w : World} {K : PySem.W.Frag} {elts : List Expr} {kk : Nat} {tpos : Pos} (a e it : Addr) :
    Turn P w K (.Tuple elts kk tpos) (Itet K a) [e, it] e (fun i h => (∃ old, IsEnum h e it ((i : Nat) : Int) old) ∧ h.IsTupleIter it a i ∧ e ≠ it ∧ e ≠ a ∧ a ≠ it) where
  mem := by simp
  obj := fun i h st b hb => by
    obtain ⟨⟨old, he⟩, ⟨o, ho, hc, hd⟩, _⟩ := st
    have e' : b = e ∨ b = it := by simpa using hb
    rcases e' with z | z
    · rw [z]; exact ⟨_, he, fun v q => nomatch q⟩
    · rw [z]; exact ⟨o, ho, fun v q => by rw [hd] at q; cases q⟩
  keep := fun i h h' st k => let ⟨⟨old, he⟩, hi, hne⟩ := st; ⟨⟨old, k e (by simp) _ he⟩, hi.at fun o q => k it (by simp) o q, hne⟩
  item := by
    intro X hP hw hK hc i pins s σ H E I hf st hg
    subst hP hw hK
    obtain ⟨⟨old, he⟩, hit, hne, hea, hai⟩ := st
    obtain ⟨xs, x, hq, hx⟩ := hg
    obtain ⟨its, rv, p, hz⟩ := I.tuple hq
    obtain ⟨u, hu, ru⟩ := rv.get hx
    have hel : e < s.heap.objs.size := Heap.lt_size he
    have hil : it < s.heap.objs.size := by obtain ⟨_, q, _⟩ := hit; exact Heap.lt_size q
    have hlt : i < its.toArray.size := by
      have := (List.getElem?_eq_some_iff.mp hu).1
      simpa using this
    have hhd : X.A.in1.handled = none := I.ok.hd hc
    refine wpAny_pyNext_enum_itemD (Draws.tuple hhd it a hai its.toArray) he ⟨hit, show s.heap.IsTuple a its.toArray from p⟩ hlt hne (by simp [hne, hea]) fun x' h' tk hP ho hst' hT hsz hk => ?_
    have ex : x' = u := by
      have e1 : its[i]? = some x' := by simpa using hP
      rw [e1] at hu
      exact Option.some.inj hu
    subst ex
    obtain ⟨hit', _⟩ := hst'
    refine ⟨_, rfl, wpAny_letOwnedTupleGo_enum (s := { s with heap := h', toks := tk + 1 }) ho fun h'' he' sb => ?_⟩
    have hT2 : h''.get? s.heap.objs.size = some { cls := .type "tuple", data := .seq #[.int i tk, x'] } := (sb.2 _ (Nat.ne_of_gt hel)).trans hT
    have new : ObjOk X.prog X.w (L2.upd H s.heap.objs.size (.tup [.int (i : Nat), x])) h'' s.heap.objs.size (.tup [.int (i : Nat), x]) :=
      ⟨by show 2 ≤ sizeLine; decide, [.int i tk, x'], .cons ⟨_, rfl⟩ (.cons ru .nil), ⟨_, hT2, rfl, _, rfl⟩⟩
    have I1 : Inv X pins σ (L2.upd H s.heap.objs.size (.tup [.int (i : Nat), x])) { s with heap := h'', toks := tk + 1 } :=
      I.turnedNew (ch := [e, it]) (fun b ob hb q => (sb.2 b (fun z => hb (by simp [z]))).trans (hk b ob (fun z => hb (by simp [z])) (fun z => hb (by simp [z])) q)) hf (Nat.le_refl _) new
    refine ⟨.ref s.heap.objs.size, _, I1, rfl, ⟨_, x, rfl, I.hok.fresh (Nat.le_refl _), rfl, fun ys hy => by rw [I.tuple_inj hy hq]; exact hx⟩, ⟨⟨x', ?_⟩, hit'.at fun o q => (sb.2 it (Ne.symm hne)).trans q, hne, hea, hai⟩, fun b hb => ?_⟩
    · have e1 : ((i + 1 : Nat) : Int) = (i : Int) + 1 := by omega
      rw [e1]; exact he'
    · have hb' : b < s.heap.objs.size := by
        have e' : b = e ∨ b = it := by simpa using hb
        rcases e' with z | z
        · rw [z]; exact hel
        · rw [z]; exact hil
      rw [upd_ne (Nat.ne_of_lt hb')]
      exact (hf b hb).1
  done := by
    intro X hP hw hK hc i pins s σ H E I hf st hg
    subst hP hw hK
    obtain ⟨⟨old, he⟩, hit, hne, hea, hai⟩ := st
    obtain ⟨xs, hq, hx⟩ := hg
    obtain ⟨its, rv, p, hz⟩ := I.tuple hq
    obtain ⟨f0, f1, f2, f3, f4, f5⟩ := hf it (by simp)
    have hl := rv.length
    have hT : s.TypeIs (.ref e) "enumerate" := ⟨_, he, rfl⟩
    unfold pyNext
    refine wpAny_bind (wpAny_attempt (wpAny_callSpecial?_slot (name := Str.ofString "__next__") hT F.slot_enumerate_next
      (wpAny_call_entry F.slot_enumerate_next hT F.entry_enumerate_next ?_ (F.args_enumerate_next_1 _))))
    show wpAny _ _ (field (.ref e) 2 >>= _) _ _ _
    refine wpAny_bind (wpAny_field he rfl (x := .ref it) rfl ?_)
    refine wpAny_bind (wpAny_nextOf_tuple_end (show X.A.in1.handled = none from I.ok.hd hc) hit (show s.heap.IsTuple a its.toArray from p) (by simp; omega) fun h' x he' hx' => ?_)
    obtain ⟨o, ho, hcc⟩ := hx'
    refine wpAny_bind (wpAny_isInstance (T := "StopIteration") (b := true) ⟨o, ho, hcc⟩ isSubtype_stop ?_)
    exact wpAny_pure ⟨rfl, I.turned (t' := s.toks) (fun b o hb q => he' b o hb q) f0 f1 f3 f4 f5⟩
  self := fun A i s Q E st h => let ⟨⟨_, he⟩, _⟩ := st; wpAny_pyIter_enum he h
def iEnumT (K : PySem.W.Frag) (ta : TA) : TI := fun σ H R => ta σ H fun vs H1 => ∃ a xs, vs = [.ref a] ∧ SqT K H1 a xs ∧ R (Itet K a) H1
theorem pi_enumT {X : Cx} {e : Expr} {ta : TA} {p pos tpos : Pos} {elts : List Expr} {kk : Nat} (hg : Gl X "enumerate") (hm : X.mg "enumerate" = none) (ha : PA X [e] ta) (hs : starEach [e] X.env = [(false, eval e X.env)] := by rfl) :
    PI X (.Tuple elts kk tpos) (.Call (.Name "enumerate" p) [e] [] pos) (iEnumT X.K ta) := by
  refine ⟨fun pins s σ H R I h => ?_⟩
  refine Call_ (ld_blt I hg hm boot_enumerate (PyProof.Rows.callWith_type1 (thn (ha.run pos pins s σ H _ I h) fun us s1 ⟨vs, H1, I1, r1, q1⟩ => ?_) hs rfl))
  obtain ⟨a, xs, ex, hq, q⟩ := q1
  subst ex
  cases r1 with
  | cons r rr =>
    cases rr
    cases r
    obtain ⟨its, rv, p', hz⟩ := I1.tuple hq
    have p'' : s1.heap.IsTuple a its.toArray := p'
    have hal : a < s1.heap.objs.size := by obtain ⟨_, q, _⟩ := id p''; exact Heap.lt_size q
    refine call_enum1 (begins_tuple a its.toArray) p'' fun h' he hit hsz hk => wpAny_pyIter_enum he ?_
    have I2 : Inv X pins σ H1 { s1 with heap := h' } := I1.kept (t' := s1.toks) hk
    refine ⟨s1.heap.objs.size + 1, [s1.heap.objs.size + 1, s1.heap.objs.size], _, _, H1, rfl, I2, turn_enumT a (s1.heap.objs.size + 1) s1.heap.objs.size, ⟨⟨.none, he⟩, ⟨_, hit, rfl, rfl⟩, Nat.succ_ne_self _, Nat.ne_of_gt (Nat.lt_succ_of_lt hal), Nat.ne_of_lt hal⟩, fun b hb => ?_, q⟩
    have e' : b = s1.heap.objs.size + 1 ∨ b = s1.heap.objs.size := by simpa using hb
    have hle : s1.heap.objs.size ≤ b := by
      rcases e' with z | z
      · rw [z]; exact Nat.le_add_right _ _
      · rw [z]; exact Nat.le_refl _
    exact I1.fpOk hle (I1.hok.fresh hle)
theorem walk_enumT {K : PySem.W.Frag} {a : Addr} {xs : List V} : Walk (Itet K a) xs.length (fun H => SqT K H a xs) (YPair (fun i => some (.int (i : Nat))) (fun i => xs[i]?)) := by
  refine ⟨fun i _ hi q => ⟨xs, xs[i], q, by simp [hi]⟩, fun _ q => ⟨xs, q, Nat.le_refl _⟩, fun i H v H' _ q y => ?_⟩
  obtain ⟨T, x, h1, h2, h3, h4⟩ := y
  exact ⟨T, .int (i : Nat), x, h1, h2, h3, rfl, h4 xs q⟩
section
variable {K : PySem.W.Frag} {a : Addr} {xs : List V} {g : TG} {tb : TS} {D : Ends} {σ : L2.St} {H : Hp}
theorem for_enumT (Pv : Nat → L2.St → Hp → Prop) (h0 : Pv 0 σ H) (hG : ∀ i σ H, i ≤ xs.length → Pv i σ H → SqT K H a xs)
    (hs : ∀ i x T σ H, xs[i]? = some x → Pv i σ H → H T = none → g (.ref T) σ (L2.upd H T (.tup [.int (i : Nat), x])) fun σ2 H2 => tb { D with nx := Pv (i + 1), ct := Pv (i + 1), bk := D.nx } σ2 H2) (hd : ∀ σ H, Pv xs.length σ H → D.nx σ H) :
    ∃ W : Nat → Nat → L2.St → Hp → Prop, (∃ m, W 0 m σ H) ∧ ∀ i m σ H, W i m σ H →
      ((Itet K a).stop i H ∧ D.nx σ H) ∨ ((Itet K a).go i H ∧ ∃ N : L2.St → Hp → Prop, (∀ σ' H', N σ' H' → ∃ m', m' < m ∧ W (i + 1) m' σ' H') ∧ ∀ x H', (Itet K a).yld i H x H' → g x σ H' fun σ2 H2 => tb { D with nx := N, ct := N, bk := D.nx } σ2 H2) := by
  refine for_it walk_enumT Pv h0 hG (fun i x σ H H' hi p y => ?_) hd
  obtain ⟨T, x, y, rfl, hT, rfl, h1, h2⟩ := y
  cases h1
  exact hs i y T σ H h2 p hT
end
end Kb

namespace Kb
open PySem PySem.Spec PyProof.Rows L2
/-! ### enumerate(tuple, start=c) -/
def Itek (K : PySem.W.Frag) (c : Int) (a : Addr) : It :=
  ⟨fun i H => ∃ (xs : List V) (x : V), SqT K H a xs ∧ xs[i]? = some x, fun i H v H' => ∃ T x, v = .ref T ∧ H T = none ∧ H' = L2.upd H T (.tup [.int (c + (i : Nat)), x]) ∧ ∀ xs, SqT K H a xs → xs[i]? = some x, fun i H => ∃ xs : List V, SqT K H a xs ∧ xs.length ≤ i⟩
theorem turn_enumK {P : Program} {w : World} {K : PySem.W.Frag} {elts : List Expr} {kk : Nat} {tpos : Pos} (c : Int) (a e it : Addr) :
    Turn P w K (.Tuple elts kk tpos) (Itek K c a) [e, it] e (fun i h => (∃ old, IsEnum h e it (c + (i : Nat)) old) ∧ h.IsTupleIter it a i ∧ e ≠ it ∧ e ≠ a ∧ a ≠ it) where
  mem := List.mem_cons_self ..
  obj := fun i h st b hb => by
    obtain ⟨⟨old, he⟩, ⟨o, ho, hc, hd⟩, _⟩ := st
    rcases List.mem_cons.mp hb with z | z
    · subst z; exact ⟨_, he, fun v q => nomatch q⟩
    · obtain rfl := List.mem_singleton.mp z
      exact ⟨o, ho, fun v q => by rw [hd] at q; cases q⟩
  keep := fun i h h' st k => ⟨st.1.imp fun _ he => k e (by simp) _ he, st.2.1.at fun o q => k it (by simp) o q, st.2.2⟩
  item := by
    intro X hP hw hK hc i pins s σ H E I hf st hg
    subst hP hw hK
    obtain ⟨⟨old, he⟩, hit, hne, hea, hai⟩ := st
    obtain ⟨xs, x, hq, hx⟩ := hg
    obtain ⟨its, rv, p, hz⟩ := I.tuple hq
    obtain ⟨u, hu, ru⟩ := rv.get hx
    have hel := Heap.lt_size he
    have hil : it < s.heap.objs.size := let ⟨_, q, _⟩ := hit; Heap.lt_size q
    have hlt : i < its.toArray.size := by have := (List.getElem?_eq_some_iff.mp hu).1; simpa using this
    have hhd : X.A.in1.handled = none := I.ok.hd hc
    refine wpAny_pyNext_enum_itemC (Draws.tuple hhd it a hai its.toArray) he ⟨hit, show s.heap.IsTuple a its.toArray from p⟩ hlt hne (fun z => (List.mem_cons.mp z).elim hne fun z => hea (List.mem_singleton.mp z)) fun x' h' tk hP ho hst' hT hsz hk => ?_
    obtain rfl : x' = u := by
      have e1 : its[i]? = some x' := by simpa using hP
      exact Option.some.inj (e1.symm.trans hu)
    refine ⟨_, rfl, wpAny_letOwnedTupleGo_enum (s := { s with heap := h', toks := tk + 1 }) ho fun h'' he' sb => ?_⟩
    have hT2 : h''.get? s.heap.objs.size = some { cls := .type "tuple", data := .seq #[.int (c + (i : Nat)) tk, x'] } := (sb.2 _ (Nat.ne_of_gt hel)).trans hT
    have new : ObjOk X.prog X.w (L2.upd H s.heap.objs.size (.tup [.int (c + (i : Nat)), x])) h'' s.heap.objs.size (.tup [.int (c + (i : Nat)), x]) :=
      ⟨show 2 ≤ sizeLine by decide, _, .cons ⟨tk, rfl⟩ (.cons ru .nil), ⟨_, hT2, rfl, _, rfl⟩⟩
    have I1 := I.turnedNew (t' := tk + 1) (ch := [e, it]) (fun b ob hb q => (sb.2 b (fun z => hb (by simp [z]))).trans (hk b ob (fun z => hb (by simp [z])) (fun z => hb (by simp [z])) q)) hf (Nat.le_refl _) new
    refine ⟨.ref s.heap.objs.size, _, I1, rfl, ⟨_, x, rfl, I.hok.fresh (Nat.le_refl _), rfl, fun ys hy => (I.tuple_inj hy hq).symm ▸ hx⟩, ⟨⟨x', ?_⟩, hst'.1.at fun o q => (sb.2 it (Ne.symm hne)).trans q, hne, hea, hai⟩, fun b hb => ?_⟩
    · rw [show c + ((i + 1 : Nat) : Int) = c + (i : Nat) + 1 by omega]; exact he'
    · have hb' : b < s.heap.objs.size := (List.mem_cons.mp hb).elim (fun z => z ▸ hel) fun z => List.mem_singleton.mp z ▸ hil
      rw [upd_ne (Nat.ne_of_lt hb')]
      exact (hf b hb).1
  done := by
    intro X hP hw hK hc i pins s σ H E I hf st hg
    subst hP hw hK
    obtain ⟨⟨old, he⟩, hit, hne, hea, hai⟩ := st
    obtain ⟨xs, hq, hx⟩ := hg
    obtain ⟨its, rv, p, hz⟩ := I.tuple hq
    obtain ⟨f0, f1, f2, f3, f4, f5⟩ := hf it (List.mem_cons_of_mem _ (List.mem_singleton.mpr rfl))
    have hl := rv.length
    have hT : s.TypeIs (.ref e) "enumerate" := ⟨_, he, rfl⟩
    unfold pyNext
    refine wpAny_bind (wpAny_attempt (wpAny_callSpecial?_slot (name := Str.ofString "__next__") hT F.slot_enumerate_next
      (wpAny_call_entry F.slot_enumerate_next hT F.entry_enumerate_next ?_ (F.args_enumerate_next_1 _))))
    show wpAny _ _ (field (.ref e) 2 >>= _) _ _ _
    refine wpAny_bind (wpAny_field he rfl (x := .ref it) rfl (wpAny_bind (wpAny_nextOf_tuple_end (I.ok.hd hc) hit (show s.heap.IsTuple a its.toArray from p) (by simp; omega) fun h' x he' hx' => ?_)))
    obtain ⟨o, ho, hcc⟩ := hx'
    exact wpAny_bind (wpAny_isInstance (T := "StopIteration") (b := true) ⟨o, ho, hcc⟩ isSubtype_stop (wpAny_pure ⟨rfl, I.turned (t' := s.toks) (fun b o hb q => he' b o hb q) f0 f1 f3 f4 f5⟩))
  self := fun A i s Q E st h => let ⟨⟨_, he⟩, _⟩ := st; wpAny_pyIter_enum he h
def iEnumK (K : PySem.W.Frag) (ta tk : TA) : TI := fun σ H R => ta σ H fun vs H1 => tk σ H1 fun zs H2 => ∃ a xs c, vs = [.ref a] ∧ zs = [.int c] ∧ -(2 ^ 63) ≤ c ∧ c < 2 ^ 63 ∧ SqT K H2 a xs ∧ R (Itek K c a) H2
theorem pi_enumK {X : Cx} {e : Expr} {ta tk : TA} {p pos tpos : Pos} {elts : List Expr} {kk : Nat} {kws : List Keyword} (hg : Gl X "enumerate") (hm : X.mg "enumerate" = none) (ha : PA X [e] ta) (hk : PK X kws tk) (hs : starEach [e] X.env = (false, eval e X.env) :: starEach [] X.env := by rfl)
    (hall : (backToKw pos (keywordEach kws X.env)).all (·.1.isSome) = true := by rfl) (hpl : ((backTo pos (starEach [e] X.env)).any (·.1) || (backToKw pos (keywordEach kws X.env)).any (·.1.isNone)) = false := by rfl)
    (hks : (backToKw pos (keywordEach kws X.env)).filterMap (·.1) = [Str.ofString "start"] := by rfl) :
    PI X (.Tuple elts kk tpos) (.Call (.Name "enumerate" p) [e] kws pos) (iEnumK X.K ta tk) := by
  refine ⟨fun pins s σ H R I h => ?_⟩
  refine wpAny_Call_Name_kw (ld_blt I hg hm boot_enumerate ?_ (by decide) (by decide))
  refine PySem.W.callWith_of (P := fun _ => True) hpl (fun h _ => ⟨.machine, .inr (.inl rfl), .now⟩) (PyProof.Rows.evalArgs_kw2 hall (thn (ha.run pos pins s σ H _ I h) fun us s1 ⟨vs, H1, I1, r1, q1⟩ => thn (hk.run pos pins s1 σ H1 _ I1 q1) fun ws s2 ⟨zs, H2, I2, r2, q2⟩ => ⟨trivial, ?_⟩) hs)
  rw [hks]
  obtain ⟨a, xs, c, rfl, rfl, k0, k1, hq, q⟩ := q2
  cases r1 with
  | cons r rr =>
    cases rr
    cases r
    cases r2 with
    | cons r rr =>
      cases rr
      obtain ⟨t, rfl⟩ := r
      obtain ⟨its, rv, p', hz⟩ := I2.tuple hq
      have p'' : s2.heap.IsTuple a its.toArray := p'
      have hal : a < s2.heap.objs.size := let ⟨_, q, _⟩ := id p''; Heap.lt_size q
      refine enum_begins_start (begins_tuple a its.toArray) p'' k0 k1 fun h' he hit hsz hk => wpAny_pyIter_enum he ?_
      have I3 : Inv X pins σ H2 { s2 with heap := h' } := I2.kept (t' := s2.toks) hk
      refine ⟨s2.heap.objs.size + 1, [s2.heap.objs.size + 1, s2.heap.objs.size], _, _, H2, rfl, I3, turn_enumK c a (s2.heap.objs.size + 1) s2.heap.objs.size, ⟨⟨.none, (Int.add_zero c).symm ▸ he⟩, ⟨_, hit, rfl, rfl⟩, Nat.succ_ne_self _, Nat.ne_of_gt (Nat.lt_succ_of_lt hal), Nat.ne_of_lt hal⟩, fun b hb => ?_, q⟩
      have hle : s2.heap.objs.size ≤ b := (List.mem_cons.mp hb).elim (fun z => z ▸ Nat.le_add_right _ _) fun z => List.mem_singleton.mp z ▸ Nat.le_refl _
      exact I2.fpOk hle (I2.hok.fresh hle)
theorem walk_enumK {K : PySem.W.Frag} {c : Int} {a : Addr} {xs : List V} : Walk (Itek K c a) xs.length (fun H => SqT K H a xs) (YPair (fun i => some (.int (c + (i : Nat)))) (fun i => xs[i]?)) :=
  ⟨fun i _ hi q => ⟨xs, xs[i], q, by simp [hi]⟩, fun _ q => ⟨xs, q, Nat.le_refl _⟩, fun i H v H' _ q ⟨T, x, h1, h2, h3, h4⟩ => ⟨T, .int (c + (i : Nat)), x, h1, h2, h3, rfl, h4 xs q⟩⟩
section
variable {K : PySem.W.Frag} {c : Int} {a : Addr} {xs : List V} {g : TG} {tb : TS} {D : Ends} {σ : L2.St} {H : Hp}
theorem for_enumK (Pv : Nat → L2.St → Hp → Prop) (h0 : Pv 0 σ H) (hG : ∀ i σ H, i ≤ xs.length → Pv i σ H → SqT K H a xs)
    (hs : ∀ i x T σ H, xs[i]? = some x → Pv i σ H → H T = none → g (.ref T) σ (L2.upd H T (.tup [.int (c + (i : Nat)), x])) fun σ2 H2 => tb { D with nx := Pv (i + 1), ct := Pv (i + 1), bk := D.nx } σ2 H2) (hd : ∀ σ H, Pv xs.length σ H → D.nx σ H) :
    ∃ W : Nat → Nat → L2.St → Hp → Prop, (∃ m, W 0 m σ H) ∧ ∀ i m σ H, W i m σ H →
      ((Itek K c a).stop i H ∧ D.nx σ H) ∨ ((Itek K c a).go i H ∧ ∃ N : L2.St → Hp → Prop, (∀ σ' H', N σ' H' → ∃ m', m' < m ∧ W (i + 1) m' σ' H') ∧ ∀ x H', (Itek K c a).yld i H x H' → g x σ H' fun σ2 H2 => tb { D with nx := N, ct := N, bk := D.nx } σ2 H2) :=
  for_it walk_enumK Pv h0 hG (fun i x σ H H' hi p ⟨T, u, y, e, hT, eH, h1, h2⟩ => by cases h1; subst e; subst eH; exact hs i y T σ H h2 p hT) hd
end
end Kb

namespace Kb
open PySem PySem.Spec PyProof.Rows L2
/-! ### a, *b = a list -/
section
variable {prog : Program} {w : World} {A : Around} {E : Value → Shared → Prop} {s : Shared}
theorem star_items {l : Addr} {its : Array Value} {n i : Nat} {Q : List Value → Shared → Prop} (hd : A.handled = none) (ls : s.heap.IsList l its) (hi : i < n) (hn : n ≤ its.size + 1) (hz : its.size ≤ 16384)
    (q : ∀ (D : Addr) (g : Heap) (tk : Nat), (∀ b o, s.heap.get? b = some o → g.get? b = some o) → s.heap.get? D = none → g.get? D = some { cls := .type "list", data := .seq ((its.toList.drop i).take (its.size + 1 - n)).toArray } →
      Q (its.toList.take i ++ [.ref D] ++ (its.toList.drop i).drop (its.size + 1 - n)) { s with heap := g, toks := tk }) :
    wpAny (model prog w) A (unpackItems (.ref l) n (some i)) Q E s := by
  have ne : l ≠ s.heap.objs.size := by
    obtain ⟨o, ho, _⟩ := ls
    exact Nat.ne_of_lt (Heap.lt_size ho)
  unfold unpackItems notIterableAtAll
  refine wpAny_bind (wpAny_bind (wpAny_specialOf ls.typeIs F.slot_list_iter.lookup (wpAny_pure ?_)))
  rw [if_neg (by simp)]
  refine wpAny_bind (wpAny_holding (wpAny_pyIter_list ls (wpAny_bind (wpAny_holding (PySem.W.kun_draw ne i 0 _ _ ⟨_, Heap.get?_push_size _ rfl, rfl, rfl⟩ (ls.push _) (by omega) fun g1 it1 sb1 => ?_)))))
  have ls1 : g1.IsList l its := (ls.push _).extBut sb1.extBut ne
  rw [Nat.zero_add] at it1
  have l1 := it1
  obtain ⟨oi, hoi, _⟩ := l1
  have l2 := ls1
  obtain ⟨ol, hol, _⟩ := l2
  have tk : (its.toList.take i).length = i := by rw [List.length_take, Array.length_toList]; omega
  have dl : (its.toList.drop i).length = its.size - i := by rw [List.length_drop, Array.length_toList]
  rw [List.drop_zero, if_neg (by rw [tk]; omega)]
  refine wpAny_bind (wpAny_holding (PySem.W.kun_collect (s := { s with heap := g1 }) (T := "list_iterator") (.inr (.inr (.inl rfl))) (Walks.list (A := A.in1) hd s.heap.objs.size l ne its) (fun j u st => st.1.typeIs) (k := i) (by omega) ⟨it1, ls1⟩ (Heap.lt_size hoi) (Heap.lt_size hol) (fun g2 tk2 hk => ?_) (Nat.le_trans hz (by decide))))
  have em : (its.toList.drop i).length - (n - 1 - i) = its.size + 1 - n := by rw [dl]; omega
  show wpAny _ _ (if (its.toList.drop i).length < n - 1 - i then _ else _) _ _ _
  rw [if_neg (by rw [dl]; omega)]
  show wpAny _ _ (newList ((its.toList.drop i).take ((its.toList.drop i).length - (n - 1 - i))) >>= fun d => pure (its.toList.take i ++ [d] ++ (its.toList.drop i).drop ((its.toList.drop i).length - (n - 1 - i)))) _ _ _
  rw [em]
  have old : ∀ b o, s.heap.get? b = some o → g2.get? b = some o := fun b o e => hk b o (Nat.ne_of_lt (Heap.lt_size e)) (sb1.extBut b o (Nat.ne_of_lt (Heap.lt_size e)) (Heap.get?_push_of_some _ e))
  have nw : s.heap.get? g2.objs.size = none := by
    cases e : s.heap.get? g2.objs.size with
    | none => rfl
    | some o => exact absurd (Heap.lt_size (old _ _ e)) (Nat.lt_irrefl _)
  refine wpAny_bind (wpAny_newList ?_ (Nat.le_trans (by rw [List.length_take, dl]; omega) (show 16384 ≤ sizeLine by decide)))
  exact wpAny_pure (q g2.objs.size _ tk2 (fun b o e => Heap.get?_push_of_some _ (old b o e)) nw (Heap.get?_push_size _ rfl))
end
/-- targets of which one, at i, is starred: the list's items, those in the middle as a new list -/
def gStar (K : PySem.W.Frag) (n i : Nat) (t : TGs) : TG := fun v σ H Q => ∃ a xs, v = .ref a ∧ SqL K H a xs ∧ n ≤ xs.length + 1 ∧ xs.length ≤ 16384 ∧
  ∀ D, H D = none → t (xs.take i ++ [.ref D] ++ (xs.drop i).drop (xs.length + 1 - n)) σ (upd H D (.lst ((xs.drop i).take (xs.length + 1 - n)))) Q
theorem vals_take {vs : List V} {us : List Value} (h : Vals vs us) : ∀ n, Vals (vs.take n) (us.take n) := by
  induction h with
  | nil => intro n; simp; exact .nil
  | cons a b ih => intro n; cases n with
    | zero => exact .nil
    | succ n => exact .cons a (ih n)
theorem vals_drop {vs : List V} {us : List Value} (h : Vals vs us) : ∀ n, Vals (vs.drop n) (us.drop n) := by
  induction h with
  | nil => intro n; simp; exact .nil
  | cons a b ih => intro n; cases n with
    | zero => exact .cons a b
    | succ n => exact ih n
theorem vals_app {vs ws : List V} {us ts : List Value} (h : Vals vs us) (g : Vals ws ts) : Vals (vs ++ ws) (us ++ ts) := by
  induction h with
  | nil => exact g
  | cons a b ih => exact .cons a ih
section
variable {X : Cx} {pos : Pos}
theorem pgs_starred {e : Expr} {p : Pos} {es : List Expr} {t : TG} {u : TGs} (h1 : PG X e t) (h2 : PGs X es u) : PGs X (.Starred e p :: es) (gCons t u) := by
  refine ⟨fun pins s σ H vs us Q I r h => ?_⟩
  obtain ⟨v, vr, e1, h⟩ := h
  subst e1
  cases r with
  | cons r rr =>
    show wpAny _ _ (assignInOrder (assign e X.env :: (assignEach es X.env).map (·.2)) _) _ _ _
    refine assignInOrder_cons (thn (h1.run pins s σ H _ _ _ I r h) fun _ s1 ⟨σ1, H1, I1, q1⟩ => ?_)
    exact h2.run pins s1 σ1 H1 _ _ Q I1 rr q1
theorem pg_star {es : List Expr} {k : Nat} {t : TGs} {n i : Nat} (hc : X.calm = true) (h : PGs X es t) (hn : (assignEach es X.env).length = n := by rfl) (hst : (assignEach es X.env).findIdx? (·.1) = some i := by rfl) (hi : i < n := by decide) : PG X (.Tuple es k pos) (gStar X.K n i t) := by
  refine ⟨fun pins s σ H v u Q I r hw => ?_⟩
  obtain ⟨a, xs, e1, hq, hl, hz, hw⟩ := hw
  subst e1
  cases r
  obtain ⟨its, rv, pl, _⟩ := I.list hq
  have el : its.length = xs.length := rv.length.symm
  rw [PyProof.Rows.assign_Tuple]
  refine wpAny_bind (wpAny_standAt ?_)
  unfold unpack
  rw [hn, hst]
  refine wpAny_bind (wpAny_holding (star_items (its := its.toArray) (I.ok.hd hc) pl.isList hi (by simpa [el] using hl) (by simpa [el] using hz) fun D g tk old nw new => ?_))
  have hD : H D = none := I.hok.gone nw
  simp only [List.size_toArray, el] at new ⊢
  have rm : Vals ((xs.drop i).take (xs.length + 1 - n)) ((its.drop i).take (xs.length + 1 - n)) := vals_take (vals_drop rv i) _
  have I1 : Inv X pins σ (upd H D (.lst ((xs.drop i).take (xs.length + 1 - n)))) { s with heap := g, toks := tk } :=
    I.laidN old nw hD ⟨Nat.le_trans (by rw [List.length_take, List.length_drop]; omega : _ ≤ 16384) (by decide), (its.drop i).take (xs.length + 1 - n), _, rm, new⟩
  exact h.run pins _ σ _ _ _ Q I1 (vals_app (vals_app (vals_take rv i) (.cons (show RelV (V.ref D) (Value.ref D) from rfl) .nil)) (vals_drop (vals_drop rv i) _)) (hw D hD)
end
/-- a def that is never called -/
def spNo : Sp := fun _ _ _ _ => False
theorem Df.okV {P : Program} {w : World} {K : PySem.W.Frag} {mg : Str → Option Value} {base : Heap} {CX : CXT} {k : Nat} {x : Str} {st : Stmt} {ps : List Str} (D : Df K mg x st ps) : Cal P w K mg base CX k x ps spNo := by
  obtain ⟨f, fd, F, m, b⟩ := D
  exact ⟨f, fd, ⟨fun _ _ _ _ h => h.elim, fun _ _ _ _ _ _ _ _ _ _ _ _ _ h => h.elim⟩, m, F.kp, .all b⟩
end Kb

namespace Kb
open PySem PySem.Spec PyProof.Rows L2 TL
/-! ### hosts as lists of signs -/
def onlyB (g l : List Nat) : Bool := (l.all fun c => decide (c ∈ g)) && decide (l ≠ [])
def digs : List Nat := [48, 49, 50, 51, 52, 53, 54, 55, 56, 57]
def lsig : List Nat := [97, 98, 99, 100, 101, 102, 103, 104, 105, 106, 107, 108, 109, 110, 111, 112, 113, 114, 115, 116, 117, 118, 119, 120, 121, 122, 48, 49, 50, 51, 52, 53, 54, 55, 56, 57, 45]
def digB (l : List Nat) : Bool := onlyB digs l
def labB (l : List Nat) : Bool := decide (l.length ≤ 20) && (onlyB lsig l && (decide (l.head? ≠ some 45) && decide (l.getLast? ≠ some 45)))
def numB (l : List Nat) : Bool := digB l && (decide (NumText.digitsVal l ≤ 255) && (decide (l = [48]) || decide (l.head? ≠ some 48)))
def lastL (L : List (List Nat)) : List Nat := L.getLast?.getD []
def hostL (L : List (List Nat)) : Bool := decide (L.length ≤ 10) && (L.all labB && (!digB (lastL L) || (L.all numB && decide (L.length = 4))))
def hostB (l : List Nat) : Bool := decide (l.length ≤ 100) && hostL (sp1 46 l)
def addrB (l : List Nat) : Bool := hostB l && digB (lastL (sp1 46 l))
def fitB (h d : List Nat) : Bool := decide (h = d) || (!addrB h && (46 :: d).isSuffixOf h)
theorem tl_dot : tl ("." : Str) = [46] := by decide +kernel
theorem dot_eq : ("." : Str) = ⟨#[46]⟩ := ext_tl tl_dot
theorem tl_lsig : tl ("abcdefghijklmnopqrstuvwxyz0123456789-" : Str) = lsig := by decide +kernel
theorem tl_digs : tl ("0123456789" : Str) = digs := by decide +kernel
theorem hostB_len {x : Str} (h : hostB (tl x) = true) : x.length ≤ 100 := by
  unfold hostB at h
  rw [Bool.and_eq_true, decide_eq_true_eq] at h
  rw [len_tl]; exact h.1
theorem digs_iff {c : Nat} : c ∈ digs ↔ 48 ≤ c ∧ c ≤ 57 := by
  simp only [digs, List.mem_cons, List.not_mem_nil, or_false]
  omega
theorem digB_iff {l : List Nat} : digB l = true ↔ NumText.AllDigits l ∧ l ≠ [] := by
  unfold digB onlyB NumText.AllDigits
  rw [Bool.and_eq_true, List.all_eq_true, decide_eq_true_eq]
  constructor
  · rintro ⟨h, n⟩; exact ⟨fun c hc => digs_iff.mp (of_decide_eq_true (h c hc)), n⟩
  · rintro ⟨h, n⟩; exact ⟨fun c hc => decide_eq_true (digs_iff.mpr (h c hc)), n⟩
theorem int_dig {x : Str} (h : digB (tl x) = true) (hl : x.length ≤ 640) : intText? x = some ((NumText.digitsVal (tl x) : Nat) : Int) :=
  intText_digits (digB_iff.mp h).1 (digB_iff.mp h).2 (by omega)
theorem lsig_lt {c : Nat} (h : c ∈ lsig) : c < 128 ∧ 45 ≤ c := by
  simp only [lsig, List.mem_cons, List.not_mem_nil, or_false] at h
  omega
theorem dot_free {l : List Nat} (h : labB l = true) : 46 ∉ l := fun hm => by
  unfold labB onlyB at h
  simp only [Bool.and_eq_true, List.all_eq_true, decide_eq_true_eq] at h
  exact absurd (h.2.1.1 46 hm) (by decide)
theorem lab_ne {l : List Nat} (h : labB l = true) : l ≠ [] := by
  unfold labB onlyB at h
  simp only [Bool.and_eq_true, List.all_eq_true, decide_eq_true_eq] at h
  exact h.2.1.2
theorem lab_len {l : List Nat} (h : labB l = true) : l.length ≤ 20 := by
  unfold labB at h
  simp only [Bool.and_eq_true, decide_eq_true_eq] at h
  exact h.1
theorem lab_sign {l : List Nat} (h : labB l = true) {c : Nat} (hc : c ∈ l) : c ∈ lsig := by
  unfold labB onlyB at h
  simp only [Bool.and_eq_true, List.all_eq_true, decide_eq_true_eq] at h
  exact h.2.1.1 c hc
theorem lastL_snoc (L : List (List Nat)) (p : List Nat) : lastL (L ++ [p]) = p := by
  unfold lastL; rw [List.getLast?_concat]; rfl
/-- joined labels are their parts -/
theorem sp1_joinL {c : Nat} : ∀ {L : List (List Nat)}, L ≠ [] → (∀ p ∈ L, c ∉ p) → sp1 c (joinL [c] L) = L
  | [], h, _ => absurd rfl h
  | [p], _, hp => sp1_of_free (hp p (List.mem_singleton.mpr rfl))
  | p :: q :: r, _, hp => by
    show sp1 c (p ++ (c :: joinL [c] (q :: r))) = _
    rw [sp1_app, sp1_of_free (hp p (List.mem_cons_self ..)), sp1_joinL (by simp) fun z hz => hp z (List.mem_cons_of_mem _ hz)]
    rfl
theorem joinL_app {c : Nat} : ∀ {L M : List (List Nat)}, L ≠ [] → M ≠ [] → joinL [c] (L ++ M) = joinL [c] L ++ c :: joinL [c] M
  | [], _, h, _ => absurd rfl h
  | [p], m :: M, _, _ => rfl
  | [p], [], _, h => absurd rfl h
  | p :: q :: r, M, _, hM => by
    show p ++ (c :: joinL [c] (q :: r ++ M)) = _
    rw [joinL_app (L := q :: r) (by simp) hM]
    simp [joinL]
/-- d's parts are the last parts exactly if it is all, or stands behind a sign -/
theorem sp1_suffix (c : Nat) (h d : List Nat) : ((sp1 c d).length ≤ (sp1 c h).length ∧ (sp1 c h).drop ((sp1 c h).length - (sp1 c d).length) = sp1 c d) ↔ (h = d ∨ (c :: d) <:+ h) := by
  constructor
  · rintro ⟨h1, h2⟩
    have e : sp1 c h = (sp1 c h).take ((sp1 c h).length - (sp1 c d).length) ++ sp1 c d := by
      conv => lhs; rw [← List.take_append_drop ((sp1 c h).length - (sp1 c d).length) (sp1 c h), h2]
    by_cases ht : (sp1 c h).take ((sp1 c h).length - (sp1 c d).length) = []
    · rw [ht, List.nil_append] at e
      exact .inl (by rw [← joinL_sp1 c h, e, joinL_sp1])
    · refine .inr ⟨joinL [c] ((sp1 c h).take ((sp1 c h).length - (sp1 c d).length)), ?_⟩
      have e2 := joinL_sp1 c h
      rw [e, joinL_app ht (sp1_ne c d), joinL_sp1] at e2
      exact e2
  · rintro (rfl | ⟨r, e⟩)
    · simp
    · rw [← e, sp1_app, List.length_append]
      refine ⟨by omega, ?_⟩
      rw [Nat.add_sub_cancel, List.drop_left]
end Kb
namespace Kb
open PySem PySem.Spec PyProof.Rows L2 TL
/-! ### drawn hosts: small labels that are no numbers -/
def wlab (l : List Nat) : Bool := labB l && (!digB l && decide (l.length ≤ 4))
def HostW (n : Nat) (x : Str) : Prop := ∃ L : List (List Nat), L ≠ [] ∧ L.length ≤ n ∧ (∀ l ∈ L, wlab l = true) ∧ tl x = joinL [46] L
theorem wlab_lab {l : List Nat} (h : wlab l = true) : labB l = true ∧ digB l = false ∧ l.length ≤ 4 := by
  unfold wlab at h
  simp only [Bool.and_eq_true, Bool.not_eq_true', decide_eq_true_eq] at h
  exact h
theorem joinL_len {c B : Nat} : ∀ L : List (List Nat), (∀ l ∈ L, l.length ≤ B) → (joinL [c] L).length ≤ L.length * (B + 1)
  | [], _ => by simp [joinL]
  | [p], h => by have := h p (List.mem_singleton.mpr rfl); simp [joinL]; omega
  | p :: q :: r, h => by
    have h1 := h p (List.mem_cons_self ..)
    have h2 := joinL_len (c := c) (q :: r) fun l hl => h l (List.mem_cons_of_mem _ hl)
    show (p ++ (c :: joinL [c] (q :: r))).length ≤ _
    rw [List.length_append, List.length_cons, List.length_cons (a := p), Nat.succ_mul]
    omega
theorem lastL_mem {L : List (List Nat)} (h : L ≠ []) : lastL L ∈ L := by
  have e : L = L.dropLast ++ [L.getLast h] := (List.dropLast_concat_getLast h).symm
  have e2 : lastL L = L.getLast h := by
    conv => lhs; rw [e]
    exact lastL_snoc _ _
  rw [e2]
  exact List.getLast_mem h
theorem HostW.parts {n : Nat} {x : Str} (h : HostW n x) : ∃ L : List (List Nat), sp1 46 (tl x) = L ∧ L ≠ [] ∧ L.length ≤ n ∧ (∀ l ∈ L, wlab l = true) ∧ tl x = joinL [46] L := by
  obtain ⟨L, h1, h2, h3, h4⟩ := h
  exact ⟨L, by rw [h4, sp1_joinL h1 fun p hp => dot_free (wlab_lab (h3 p hp)).1], h1, h2, h3, h4⟩
theorem HostW.len {n : Nat} {x : Str} (h : HostW n x) : x.length ≤ 5 * n := by
  obtain ⟨L, h1, h2, h3, h4⟩ := h
  rw [len_tl, h4]
  have := joinL_len (c := 46) (B := 4) L fun l hl => (wlab_lab (h3 l hl)).2.2
  omega
theorem HostW.host {n : Nat} {x : Str} (h : HostW n x) (hn : n ≤ 10) : hostB (tl x) = true ∧ digB (lastL (sp1 46 (tl x))) = false := by
  have hl := h.len
  obtain ⟨L, e, h1, h2, h3, h4⟩ := h.parts
  have hz : digB (lastL L) = false := (wlab_lab (h3 _ (lastL_mem h1))).2.1
  rw [e]
  refine ⟨?_, hz⟩
  unfold hostB hostL
  rw [e, hz, decide_eq_true (by rw [← len_tl]; omega), decide_eq_true (by omega), List.all_eq_true.mpr fun l hl => (wlab_lab (h3 l hl)).1]
  rfl
theorem HostW.more {n m : Nat} {x : Str} (h : HostW n x) (e : n ≤ m) : HostW m x := by
  obtain ⟨L, h1, h2, h3, h4⟩ := h
  exact ⟨L, h1, Nat.le_trans h2 e, h3, h4⟩
theorem HostW.dot {n m : Nat} {x y : Str} (h : HostW n x) (k : HostW m y) : HostW (n + m) (x ++ "." ++ y) := by
  obtain ⟨L, h1, h2, h3, h4⟩ := h
  obtain ⟨M, k1, k2, k3, k4⟩ := k
  refine ⟨L ++ M, by simp [h1], by rw [List.length_append]; omega, fun l hl => ?_, ?_⟩
  · rcases List.mem_append.mp hl with q | q
    · exact h3 l q
    · exact k3 l q
  · rw [tl_append, tl_append, tl_dot, h4, k4, joinL_app h1 k1, List.append_assoc]; rfl
/-- address hosts: four numbers -/
def AddrW (x : Str) : Prop := ∃ L : List (List Nat), L.length = 4 ∧ (∀ l ∈ L, ∃ n : Nat, n < 256 ∧ l = numL n) ∧ tl x = joinL [46] L
theorem num_ok : ∀ n : Nat, n < 256 → (labB (numL n) && (numB (numL n) && (digB (numL n) && decide ((numL n).length ≤ 3)))) = true := by decide +kernel
theorem AddrW.parts {x : Str} (h : AddrW x) : ∃ L : List (List Nat), sp1 46 (tl x) = L ∧ L.length = 4 ∧ (∀ l ∈ L, labB l = true ∧ numB l = true ∧ digB l = true ∧ l.length ≤ 3) ∧ tl x = joinL [46] L := by
  obtain ⟨L, h1, h2, h3⟩ := h
  have h4 : ∀ l ∈ L, labB l = true ∧ numB l = true ∧ digB l = true ∧ l.length ≤ 3 := fun l hl => by
    obtain ⟨n, hn, rfl⟩ := h2 l hl
    have := num_ok n hn
    simp only [Bool.and_eq_true, decide_eq_true_eq] at this
    exact this
  refine ⟨L, ?_, h1, h4, h3⟩
  rw [h3, sp1_joinL (by intro e; rw [e] at h1; cases h1) fun p hp => dot_free (h4 p hp).1]
theorem AddrW.len {x : Str} (h : AddrW x) : x.length ≤ 16 := by
  obtain ⟨L, e, h1, h2, h3⟩ := h.parts
  rw [len_tl, h3]
  have := joinL_len (c := 46) (B := 3) L fun l hl => (h2 l hl).2.2.2
  omega
theorem AddrW.host {x : Str} (h : AddrW x) : hostB (tl x) = true ∧ digB (lastL (sp1 46 (tl x))) = true := by
  have hl := h.len
  obtain ⟨L, e, h1, h2, h3⟩ := h.parts
  have hz : digB (lastL L) = true := (h2 _ (lastL_mem (by intro e; rw [e] at h1; cases h1))).2.2.1
  rw [e]
  refine ⟨?_, hz⟩
  unfold hostB hostL
  rw [e, hz, decide_eq_true (by rw [← len_tl]; omega), decide_eq_true (by omega), List.all_eq_true.mpr fun l hl => (h2 l hl).1, List.all_eq_true.mpr fun l hl => (h2 l hl).2.1, decide_eq_true h1]
  rfl
/-- what a host is, for the law's own reckoning -/
theorem fit_due {h d : List Nat} (hh : hostB h = true) : fitB h d = (if digB (lastL (sp1 46 h)) = true then decide (sp1 46 h = sp1 46 d) else decide ((sp1 46 d).length ≤ (sp1 46 h).length) && decide ((sp1 46 h).drop ((sp1 46 h).length - (sp1 46 d).length) = sp1 46 d)) := by
  unfold fitB addrB
  rw [hh, Bool.true_and]
  cases hz : digB (lastL (sp1 46 h)) with
  | true =>
    rw [if_pos rfl, Bool.not_true, Bool.false_and, Bool.or_false, Bool.eq_iff_iff, decide_eq_true_eq, decide_eq_true_eq]
    exact ⟨fun e => by rw [e], fun e => by rw [← joinL_sp1 46 h, e, joinL_sp1]⟩
  | false =>
    rw [if_neg Bool.false_ne_true, Bool.not_false, Bool.true_and, Bool.eq_iff_iff, Bool.or_eq_true, Bool.and_eq_true, decide_eq_true_eq, decide_eq_true_eq, decide_eq_true_eq, List.isSuffixOf_iff_suffix]
    exact (sp1_suffix 46 h d).symm
end Kb
namespace Kb
open PySem PySem.Spec PyProof.Rows L2 TL
theorem digit_lsig : ∀ c ∈ lsig, Unicode.isDigit c = decide (c ∈ digs) := by decide +kernel
theorem isdigit_lab {z : Str} (h : labB (tl z) = true) : Txt.isdigit z = digB (tl z) := by
  unfold Txt.isdigit digB onlyB
  have hn := lab_ne h
  have h0 : decide (z.length > 0) = true := decide_eq_true (by rw [len_tl]; exact List.length_pos_iff.mpr hn)
  rw [h0, Bool.true_and, decide_eq_true hn, Bool.and_true, Bool.eq_iff_iff, Array.all_eq_true_iff_forall_mem, List.all_eq_true]
  constructor
  · intro q c hc
    rw [← digit_lsig c (lab_sign h hc)]
    exact q c (Array.mem_toList_iff.mp hc)
  · intro q c hc
    have hc := Array.mem_toList_iff.mpr hc
    rw [digit_lsig c (lab_sign h hc)]
    exact q c hc
theorem host_labels {x : Str} (h : hostB (tl x) = true) : ∀ l ∈ sp1 46 (tl x), labB l = true := by
  unfold hostB hostL at h
  simp only [Bool.and_eq_true, List.all_eq_true] at h
  exact h.2.2.1
theorem host_lt {x : Str} (h : hostB (tl x) = true) : ∀ s ∈ tl x, s < 1114112 := fun s hs => by
  have hl := host_labels h
  rw [← joinL_sp1 46 (tl x)] at hs
  have : ∀ L : List (List Nat), (∀ l ∈ L, labB l = true) → ∀ s ∈ joinL [46] L, s = 46 ∨ s ∈ lsig := by
    intro L
    induction L with
    | nil => intro _ s hs; cases hs
    | cons p L ih =>
      intro hL s hs
      cases L with
      | nil => exact .inr (lab_sign (hL p (List.mem_cons_self ..)) hs)
      | cons q r =>
        have hs : s ∈ p ++ (46 :: joinL [46] (q :: r)) := hs
        rcases List.mem_append.mp hs with a | a
        · exact .inr (lab_sign (hL p (List.mem_cons_self ..)) a)
        · rcases List.mem_cons.mp a with a | a
          · exact .inl a
          · exact ih (fun l hl => hL l (List.mem_cons_of_mem _ hl)) s a
  rcases this _ hl s hs with rfl | q
  · decide
  · have := lsig_lt q; omega
end Kb

namespace Kb
open PySem PySem.Spec PyProof.Rows L2
/-! ### a tuple times one -/
theorem tuple_mul1 (l : Addr) (items : Array Value) (n : Nat) (dd : Option Addr) (sl : Array (Option Value)) (u : Tok) :
    Meets (Builtin.«tuple.__mul__» ⟨[.ref l, .int 1 u], []⟩) (fun _ R s => s.heap.get? l = some { cls := .type "tuple", dict := dd, data := .seq items n, slots := sl } ∧
      R (.ok (.ret (Value.ref l))) s) :=
  .of_wp fun prog w A R s h => by
    obtain ⟨hp, g, d, tk, os⟩ := s
    obtain ⟨hl, h⟩ := h
    have f1 := AutoSeq1.idx_int
    have c1 : (items.isEmpty || (1 : Int) == 1) = true := by simp
    wp_walk using wpAny_loadPart' hl
    repeat (first
      | (refine wpAny_ite_false (decide_eq_false (by decide)) ?_; wp_walk using wpAny_loadPart' hl)
      | (refine wpAny_ite_true (decide_eq_true (by exact c1)) ?_; wp_walk using wpAny_loadPart' hl))
    all_goals first | exact ⟨_, rfl, h⟩ | skip
def rRep1 (K : PySem.W.Frag) : R2 := fun x y H Q => ∃ l xs, x = .ref l ∧ y = .int 1 ∧ SqT K H l xs ∧ Q (.ref l) H
section
variable {X : Cx}
theorem op_rep1 : OpR X (binaryOp .Mult) (rRep1 X.K) := by
  intro pins s σ H x y v u Q I rx ry h
  obtain ⟨l, xs, rfl, rfl, hT, q⟩ := h
  cases rx
  obtain ⟨t, rfl⟩ := ry
  obtain ⟨its, r, ⟨⟨cls, dd, data, sl⟩, ho, hc, n, hd⟩, hs⟩ := I.tuple hT
  simp only at hc hd
  subst hc hd
  refine wpAny_binaryOp_repeat_ref (T := "tuple") (U := "int") (by decide) ⟨_, ho, rfl⟩ (fun s' => typeIs_int s' 1 t) noFill_tuple_mul F.fills_int_mul F.slot_int_rmul repeat_tuple F.slot_int_index.lookup
    (call_meets F.slot_int_rmul (typeIs_int s 1 t) F.entry_int_rmul (F.args_int_rmul_2 _ _) (int_rmul_tuple 1 t l its.toArray n dd sl)
      ⟨ho, rfl, ⟨_, ho, rfl⟩, call_meets F.slot_tuple_mul ⟨_, ho, rfl⟩ F.entry_tuple_mul (F.args_tuple_mul_2 _ _) (tuple_mul1 l its.toArray n dd sl t) ⟨ho, ?_⟩⟩)
  exact ⟨.ref l, H, I, rfl, q⟩
end
end Kb

namespace Kb
open PySem PySem.Spec PyProof.Rows L2 TL PySem.StrLaws Builtin.Str
/-! ### partition, removeprefix, count -/
theorem partition_behind {x : Str} {c : Nat} {a b : List Nat} (e : tl x = a ++ c :: b) (ha : c ∉ a) : tl (Txt.partition x ⟨#[c]⟩).2.2 = b := by
  have hy : tl (⟨#[c]⟩ : Str) ≠ [] := by simp [tl]
  have at' : ∀ i, At x ⟨#[c]⟩ x.length i ↔ (tl x)[i]? = some c := fun i => by
    rw [at_iff hy]
    show (((tl x).drop i).take 1 == [c]) = true ↔ _
    exact take1_drop
  have hit : At x ⟨#[c]⟩ x.length a.length := (at' _).mpr (by rw [e]; simp)
  have key : ∀ i, At x ⟨#[c]⟩ x.length i → (∀ k, k < i → ¬ At x ⟨#[c]⟩ x.length k) → i = a.length := fun i h1 h2 => by
    rcases Nat.lt_trichotomy i a.length with q | q | q
    · have g := (at' i).mp h1
      rw [e, List.getElem?_append_left q] at g
      exact absurd (List.mem_of_getElem? g) ha
    · exact q
    · exact absurd hit (h2 _ q)
  have fw := find_whole x ⟨#[c]⟩
  unfold Txt.find at fw
  unfold Txt.partition
  cases ho : occurrences x ⟨#[c]⟩ 0 x.length 1 with
  | nil =>
    rw [ho] at fw
    rcases fw with ⟨_, h⟩ | ⟨i, e1, _⟩
    · exact absurd hit (h _)
    · simp only at e1; omega
  | cons j r =>
    rw [ho] at fw
    rcases fw with ⟨e1, _⟩ | ⟨i, e1, h1, h2⟩
    · simp only at e1; omega
    · simp only at e1
      have hj : j = a.length := (Int.ofNat_inj.mp e1) ▸ key i h1 h2
      show tl (strSub x (j + 1) x.length) = b
      rw [tl_strSub, hj, e, len_tl, e]
      rw [show a ++ c :: b = (a ++ [c]) ++ b by simp, List.drop_left' (by simp)]
      rw [List.take_of_length_le (by simp; omega)]
theorem partition_none {x : Str} {c : Nat} (h : c ∉ tl x) : tl (Txt.partition x ⟨#[c]⟩).2.2 = [] := by
  have hy : tl (⟨#[c]⟩ : Str) ≠ [] := by simp [tl]
  have at' : ∀ i, At x ⟨#[c]⟩ x.length i ↔ (tl x)[i]? = some c := fun i => by
    rw [at_iff hy]
    show (((tl x).drop i).take 1 == [c]) = true ↔ _
    exact take1_drop
  have fw := find_whole x ⟨#[c]⟩
  unfold Txt.find at fw
  unfold Txt.partition
  cases ho : occurrences x ⟨#[c]⟩ 0 x.length 1 with
  | nil => rfl
  | cons j r =>
    rw [ho] at fw
    rcases fw with ⟨e1, _⟩ | ⟨i, e1, h1, h2⟩
    · simp only at e1; omega
    · exact absurd (List.mem_of_getElem? ((at' i).mp h1)) h
theorem removeprefix_hit {x y : Str} {b : List Nat} (e : tl x = tl y ++ b) : tl (Txt.removeprefix x y) = b := by
  unfold Txt.removeprefix
  have hs : subAt x y 0 = true := by
    rw [subAt_eq, List.drop_zero]
    show (List.take y.length (tl x) == tl y) = true
    rw [e, len_tl, List.take_left, beq_iff_eq]
  rw [if_pos hs]
  show tl (if x.length - y.length == x.length then x else strSub x y.length x.length) = b
  by_cases h0 : y.length = 0
  · rw [if_pos (by simp [h0])]
    rw [len_tl] at h0
    rw [e, List.eq_nil_of_length_eq_zero h0, List.nil_append]
  · have hx : x.length = y.length + b.length := by rw [len_tl, e, List.length_append, ← len_tl]
    rw [if_neg (by simp; omega), tl_strSub_end, e, len_tl, List.drop_left]
theorem removeprefix_miss {x y : Str} (h : ¬ tl y <+: tl x) : Txt.removeprefix x y = x := by
  unfold Txt.removeprefix
  rw [if_neg]
  · rfl
  · intro hs
    rw [subAt_eq, List.drop_zero] at hs
    have hs : (List.take y.length (tl x) == tl y) = true := hs
    exact h ((beq_iff_eq.mp hs) ▸ List.take_prefix _ _)
theorem count_sp1 (x : Str) (c : Nat) : Txt.count x ⟨#[c]⟩ + 1 = ((sp1 c (tl x)).length : Int) := by
  rw [count_cnt]
  show cnt c (tl x) + 1 = _
  generalize tl x = l
  induction l with
  | nil => rfl
  | cons y l ih =>
    rw [cnt_cons]
    by_cases h : y = c
    · subst h
      rw [sp1_hit, if_pos rfl, List.length_cons]
      push_cast
      omega
    · obtain ⟨p, r, e⟩ := sp1_cons c l
      rw [sp1_miss h e, if_neg h]
      rw [e] at ih
      rw [List.length_cons] at ih ⊢
      omega
end Kb
namespace Kb
open PySem PySem.Spec PyProof.Rows L2 TL
/-! ### rules, and the suffixes that they give, by labels -/
def excT (t : List Nat) : Bool := decide (t.head? = some 33)
def patT (t : List Nat) : List Nat := if excT t then t.tail else t
def ruleB (t : List Nat) : Bool :=
  if excT t then decide (1 < (sp1 46 t.tail).length) && (sp1 46 t.tail).all labB
  else (sp1 46 (if [42, 46].isPrefixOf t then t.drop 2 else t)).all labB
def patL (t : List Nat) : List (List Nat) := sp1 46 (patT t)
def lastN {α : Type} (n : Nat) (w : List α) : List α := w.drop (w.length - n)
def mtL (P w : List (List Nat)) : Bool := decide (P.length ≤ w.length) && (if P.head? = some [42] then decide ((lastN P.length w).tail = P.tail) else decide (lastN P.length w = P))
def bigN (b : Nat) (q : List Nat → Bool) : List (List Nat) → Nat
  | [] => b
  | t :: rs => bigN (if q t then max b (patL t).length else b) q rs
def excN (rs w : List (List Nat)) : Nat := bigN 0 (fun t => excT t && mtL (patL t) w) rs
def lonN (rs w : List (List Nat)) : Nat := bigN 1 (fun t => !excT t && mtL (patL t) w) rs
def sufN (rs w : List (List Nat)) : Nat := if 0 < excN rs w then excN rs w - 1 else lonN rs w
def famL (rs w : List (List Nat)) : List (List Nat) := lastN ((lastN (sufN rs w) w).length + 1) w
section
variable {α : Type}
theorem lastN_len (n : Nat) (w : List α) : (lastN n w).length = min n w.length := by
  unfold lastN; rw [List.length_drop]; omega
theorem lastN_all {n : Nat} {w : List α} (h : w.length ≤ n) : lastN n w = w := by
  unfold lastN; rw [show w.length - n = 0 by omega, List.drop_zero]
theorem lastN_lastN {n m : Nat} {w : List α} (h : n ≤ m) : lastN n (lastN m w) = lastN n w := by
  unfold lastN; rw [List.drop_drop, List.length_drop]; congr 1; omega
theorem lastN_cons {n : Nat} {x : α} {w : List α} (h : n ≤ w.length) : lastN n (x :: w) = lastN n w := by
  unfold lastN
  rw [List.length_cons, show w.length + 1 - n = (w.length - n) + 1 by omega, List.drop_succ_cons]
theorem lastN_mem {n : Nat} {w : List α} {x : α} (h : x ∈ lastN n w) : x ∈ w := List.mem_of_mem_drop h
theorem lastN_min {n : Nat} {w : List α} : lastN (min n w.length) w = lastN n w := by
  unfold lastN; congr 1; omega
end
theorem cutV_last (xs : List V) {n : Nat} (h : 1 ≤ n) : cutV xs (some (-(n : Int))) none = lastN n xs := by
  show (xs.drop (HT.sIx xs.length 0 (some (-(n : Int))))).take (HT.sIx xs.length xs.length none - HT.sIx xs.length 0 (some (-(n : Int)))) = _
  have e : HT.sIx xs.length 0 (some (-(n : Int))) = xs.length - n := by
    show (if (-(n : Int)) < 0 then ((-(n : Int)) + (xs.length : Int)).toNat else min (-(n : Int)).toNat xs.length) = _
    rw [if_pos (by omega)]
    omega
  rw [e, HT.sIx_none]
  exact List.take_of_length_le (by rw [List.length_drop] <;> omega)
/-! #### the greatest of sizes -/
theorem bigN_ge (q : List Nat → Bool) : ∀ (rs : List (List Nat)) (b : Nat), b ≤ bigN b q rs
  | [], b => Nat.le_refl _
  | t :: rs, b => by
    show b ≤ bigN _ q rs
    refine Nat.le_trans ?_ (bigN_ge q rs _)
    split <;> omega
theorem bigN_mem (q : List Nat → Bool) : ∀ (rs : List (List Nat)) (b : Nat) (t : List Nat), t ∈ rs → q t = true → (patL t).length ≤ bigN b q rs
  | r :: rs, b, t, h, hq => by
    show _ ≤ bigN _ q rs
    rcases List.mem_cons.mp h with e | e
    · subst e
      have := bigN_ge q rs (if q t then max b (patL t).length else b)
      rw [if_pos hq] at this ⊢
      omega
    · exact bigN_mem q rs _ t e hq
theorem bigN_cases (q : List Nat → Bool) : ∀ (rs : List (List Nat)) (b : Nat), bigN b q rs = b ∨ ∃ t ∈ rs, q t = true ∧ bigN b q rs = (patL t).length
  | [], b => .inl rfl
  | r :: rs, b => by
    show bigN _ q rs = b ∨ _
    by_cases hq : q r = true
    · rcases bigN_cases q rs (max b (patL r).length) with e | ⟨t, h1, h2, h3⟩
      · rcases Nat.le_total (patL r).length b with g | g
        · left; rw [if_pos hq, e]; omega
        · right; exact ⟨r, List.mem_cons_self .., hq, by show bigN _ q rs = _; rw [if_pos hq, e]; omega⟩
      · right; exact ⟨t, List.mem_cons_of_mem _ h1, h2, by show bigN _ q rs = _; rw [if_pos hq, h3]⟩
    · rw [if_neg hq]
      rcases bigN_cases q rs b with e | ⟨t, h1, h2, h3⟩
      · exact .inl e
      · right; exact ⟨t, List.mem_cons_of_mem _ h1, h2, by show bigN _ q rs = _; rw [if_neg hq, h3]⟩
theorem bigN_congr {q q' : List Nat → Bool} : ∀ {rs : List (List Nat)} {b : Nat}, (∀ t ∈ rs, q t = q' t) → bigN b q rs = bigN b q' rs
  | [], b, _ => rfl
  | r :: rs, b, h => by
    show bigN _ q rs = bigN _ q' rs
    rw [h r (List.mem_cons_self ..)]
    exact bigN_congr fun t ht => h t (List.mem_cons_of_mem _ ht)
theorem bigN_snoc (q : List Nat → Bool) : ∀ (rs : List (List Nat)) (b : Nat) (t : List Nat), bigN b q (rs ++ [t]) = if q t then max (bigN b q rs) (patL t).length else bigN b q rs
  | [], b, t => rfl
  | r :: rs, b, t => by
    show bigN _ q (rs ++ [t]) = _
    rw [bigN_snoc q rs]
    rfl
/-! #### what a match tells -/
theorem mtL_len {P w : List (List Nat)} (h : mtL P w = true) : P.length ≤ w.length := by
  unfold mtL at h
  rw [Bool.and_eq_true, decide_eq_true_eq] at h
  exact h.1
theorem mtL_lastN {P w : List (List Nat)} {k : Nat} (hk : k ≤ w.length) : mtL P (lastN k w) = (decide (P.length ≤ k) && mtL P w) := by
  unfold mtL
  rw [lastN_len, Nat.min_eq_left hk]
  by_cases h : P.length ≤ k
  · rw [lastN_lastN h, decide_eq_true h, decide_eq_true (Nat.le_trans h hk)]
    rfl
  · rw [decide_eq_false h]; rfl
theorem excT_len {t : List Nat} (hr : ruleB t = true) (h : excT t = true) : 2 ≤ (patL t).length := by
  unfold ruleB at hr
  rw [if_pos h, Bool.and_eq_true, decide_eq_true_eq] at hr
  unfold patL patT
  rw [if_pos h]
  exact hr.1
theorem excN_ge {rs w : List (List Nat)} (hr : ∀ t ∈ rs, ruleB t = true) (h : 0 < excN rs w) : 2 ≤ excN rs w ∧ excN rs w ≤ w.length := by
  unfold excN at h ⊢
  rcases bigN_cases (fun t => excT t && mtL (patL t) w) rs 0 with e | ⟨t, h1, h2, h3⟩
  · omega
  · rw [h3]
    simp only [Bool.and_eq_true] at h2
    exact ⟨excT_len (hr t h1) h2.1, mtL_len h2.2⟩
theorem lonN_ge {rs w : List (List Nat)} (hw : w ≠ []) : 1 ≤ lonN rs w ∧ lonN rs w ≤ w.length := by
  have h0 : 0 < w.length := List.length_pos_iff.mpr hw
  unfold lonN
  refine ⟨bigN_ge _ _ _, ?_⟩
  rcases bigN_cases (fun t => !excT t && mtL (patL t) w) rs 1 with e | ⟨t, h1, h2, h3⟩
  · omega
  · rw [h3]
    simp only [Bool.and_eq_true] at h2
    exact mtL_len h2.2
theorem sufN_ge {rs w : List (List Nat)} (hr : ∀ t ∈ rs, ruleB t = true) (hw : w ≠ []) : 1 ≤ sufN rs w ∧ sufN rs w ≤ w.length := by
  unfold sufN
  split
  · next h => have := excN_ge hr h; omega
  · exact lonN_ge hw
theorem famL_eq {rs w : List (List Nat)} (hr : ∀ t ∈ rs, ruleB t = true) (hw : w ≠ []) : famL rs w = lastN (sufN rs w + 1) w := by
  unfold famL
  have := sufN_ge hr hw
  rw [lastN_len, Nat.min_eq_left this.2]
/-- the last labels, if they are no fewer than the family's, have the same suffix -/
theorem sufN_lastN {rs w : List (List Nat)} {k : Nat} (hr : ∀ t ∈ rs, ruleB t = true) (hw : w ≠ []) (hk : k ≤ w.length) (h : min (sufN rs w + 1) w.length ≤ k) : sufN rs (lastN k w) = sufN rs w := by
  have e1 : excN rs (lastN k w) = excN rs w := by
    unfold excN
    refine bigN_congr fun t ht => ?_
    rw [mtL_lastN hk]
    cases hx : excT t <;> cases hm : mtL (patL t) w
    · rfl
    · rfl
    · rw [Bool.and_false]
    · have g : (patL t).length ≤ excN rs w := bigN_mem _ rs 0 t ht (by simp [hx, hm])
      have g0 := excT_len (hr t ht) hx
      have g1 := excN_ge hr (w := w) (rs := rs) (by omega)
      have g2 : sufN rs w = excN rs w - 1 := by unfold sufN; rw [if_pos (by omega)]
      rw [decide_eq_true (by omega)]; rfl
  unfold sufN
  rw [e1]
  by_cases h0 : 0 < excN rs w
  · rw [if_pos h0, if_pos h0]
  · rw [if_neg h0, if_neg h0]
    unfold lonN
    refine bigN_congr fun t ht => ?_
    rw [mtL_lastN hk]
    cases hx : excT t <;> cases hm : mtL (patL t) w
    · rw [Bool.and_false]
    · have g : (patL t).length ≤ lonN rs w := bigN_mem _ rs 1 t ht (by simp [hx, hm])
      have g2 : sufN rs w = lonN rs w := by unfold sufN; rw [if_neg h0]
      have := mtL_len hm
      rw [decide_eq_true (by omega)]; rfl
    · rfl
    · rfl
/-- hosts that hold the family have this family, others have another one -/
theorem famL_part {rs w : List (List Nat)} {k : Nat} (hr : ∀ t ∈ rs, ruleB t = true) (hw : w ≠ []) (hk0 : 1 ≤ k) (hk : k ≤ w.length) : decide (famL rs (lastN k w) = famL rs w) = decide ((famL rs w).length ≤ k) := by
  have hn : lastN k w ≠ [] := fun e => by have := lastN_len k w; rw [e] at this; simp at this; omega
  rw [famL_eq hr hn, famL_eq hr hw, lastN_len]
  rw [Bool.eq_iff_iff, decide_eq_true_eq, decide_eq_true_eq]
  constructor
  · intro e
    have := congrArg List.length e
    rw [lastN_len, lastN_len, lastN_len] at this
    omega
  · intro h
    rw [sufN_lastN hr hw hk h]
    by_cases g : sufN rs w + 1 ≤ k
    · exact lastN_lastN g
    · rw [lastN_all (n := k) (by omega)]
theorem famL_idem {rs w : List (List Nat)} (hr : ∀ t ∈ rs, ruleB t = true) (hw : w ≠ []) : famL rs (famL rs w) = famL rs w := by
  have h1 := sufN_ge hr hw
  have h0 : 0 < w.length := List.length_pos_iff.mpr hw
  have e : famL rs w = lastN (min (sufN rs w + 1) w.length) w := by rw [lastN_min]; exact famL_eq hr hw
  have := famL_part (k := min (sufN rs w + 1) w.length) hr hw (by omega) (by omega)
  rw [← e] at this
  rw [← decide_eq_true_iff (p := famL rs (famL rs w) = famL rs w), this, decide_eq_true_iff, e, lastN_len]
  omega
/-- a rule that does not match changes nothing -/
theorem sufN_snoc {rs w : List (List Nat)} {t : List Nat} (h : mtL (patL t) w = false) : sufN (rs ++ [t]) w = sufN rs w := by
  unfold sufN excN lonN
  rw [bigN_snoc, bigN_snoc]
  simp only [h, Bool.and_false, Bool.false_eq_true, if_false]
end Kb
namespace Kb
open PySem PySem.Spec PyProof.Rows L2 TL
/-! #### a label in front -/
theorem mtL_cons {P w : List (List Nat)} {y : List Nat} (h : P.length ≤ w.length) : mtL P (y :: w) = mtL P w := by
  unfold mtL
  rw [lastN_cons h, decide_eq_true h, List.length_cons, decide_eq_true (by omega)]
theorem lonN_below (rs w : List (List Nat)) (y : List Nat) : lonN rs (y :: w) = lonN rs w ∨ lonN rs (y :: w) = w.length + 1 := by
  have up : lonN rs w ≤ lonN rs (y :: w) := by
    unfold lonN
    rcases bigN_cases (fun t => !excT t && mtL (patL t) w) rs 1 with e | ⟨t, h1, h2, h3⟩
    · rw [e]; exact bigN_ge _ _ _
    · rw [h3]
      simp only [Bool.and_eq_true] at h2
      exact bigN_mem _ rs 1 t h1 (by simp only [Bool.and_eq_true]; exact ⟨h2.1, by rw [mtL_cons (mtL_len h2.2)]; exact h2.2⟩)
  have lo : 1 ≤ lonN rs w := bigN_ge _ _ _
  rcases bigN_cases (fun t => !excT t && mtL (patL t) (y :: w)) rs 1 with e | ⟨t, h1, h2, h3⟩
  · left
    have e : lonN rs (y :: w) = 1 := e
    omega
  · simp only [Bool.and_eq_true] at h2
    have h3 : lonN rs (y :: w) = (patL t).length := h3
    have hl := mtL_len h2.2
    rw [List.length_cons] at hl
    by_cases g : (patL t).length ≤ w.length
    · left
      have : (patL t).length ≤ lonN rs w := bigN_mem _ rs 1 t h1 (by simp only [Bool.and_eq_true]; exact ⟨h2.1, by rw [← mtL_cons (y := y) g]; exact h2.2⟩)
      omega
    · right; omega
theorem excN_below {rs w : List (List Nat)} {y : List Nat} (h : ∀ t ∈ rs, excT t = true → (patL t).head? ≠ some [42] ∧ y ∉ patL t) : excN rs (y :: w) = excN rs w := by
  unfold excN
  refine bigN_congr fun t ht => ?_
  cases hx : excT t
  · rfl
  · obtain ⟨h1, h2⟩ := h t ht hx
    by_cases g : (patL t).length ≤ w.length
    · rw [mtL_cons g]
    · have e : mtL (patL t) w = false := by unfold mtL; rw [decide_eq_false g]; rfl
      rw [e]
      unfold mtL
      rw [if_neg h1]
      by_cases g2 : (patL t).length ≤ (y :: w).length
      · rw [List.length_cons] at g2
        rw [lastN_all (by rw [List.length_cons]; omega), decide_eq_false (p := y :: w = patL t) fun e => h2 (e ▸ List.mem_cons_self ..), Bool.and_false]
      · rw [decide_eq_false g2]; rfl
theorem famL_below {rs w : List (List Nat)} {y : List Nat} (hr : ∀ t ∈ rs, ruleB t = true) (hw : w ≠ []) (h : ∀ t ∈ rs, excT t = true → (patL t).head? ≠ some [42] ∧ y ∉ patL t) :
    (famL rs (y :: w) = famL rs w ∨ famL rs (y :: w) = y :: w) ∧ (sufN rs w = w.length → famL rs (y :: w) = y :: w) := by
  have e1 := excN_below (w := w) h
  have n1 := sufN_ge hr hw
  rw [famL_eq hr hw, famL_eq hr (List.cons_ne_nil y w)]
  by_cases h0 : 0 < excN rs w
  · have g := excN_ge hr h0
    have e2 : sufN rs w = excN rs w - 1 := by unfold sufN; rw [if_pos h0]
    have e3 : sufN rs (y :: w) = excN rs w - 1 := by unfold sufN; rw [e1, if_pos h0]
    rw [e2, e3, lastN_cons (by omega)]
    exact ⟨.inl rfl, fun q => by omega⟩
  · have e2 : sufN rs w = lonN rs w := by unfold sufN; rw [if_neg h0]
    have e3 : sufN rs (y :: w) = lonN rs (y :: w) := by unfold sufN; rw [e1, if_neg h0]
    rw [e3]
    rcases lonN_below rs w y with e | e
    · rw [e, ← e2]
      by_cases g : sufN rs w + 1 ≤ w.length
      · rw [lastN_cons g]
        exact ⟨.inl rfl, fun q => by omega⟩
      · rw [lastN_all (w := y :: w) (by rw [List.length_cons]; omega)]
        exact ⟨.inr rfl, fun _ => rfl⟩
    · rw [e, lastN_all (w := y :: w) (by rw [List.length_cons]; omega)]
      exact ⟨.inr rfl, fun _ => rfl⟩
end Kb
namespace Kb
open PySem PySem.Spec PyProof.Rows L2 TL
/-! ### drawn rules over a, b and c -/
def abc (l : List Nat) : Prop := l = [97] ∨ l = [98] ∨ l = [99]
def GenR (t : List Nat) : Prop := ∃ L : List (List Nat), L ≠ [] ∧ L.length ≤ 4 ∧ (∀ l ∈ L, abc l) ∧ (t = joinL [46] L ∨ t = 42 :: 46 :: joinL [46] L ∨ (2 ≤ L.length ∧ t = 33 :: joinL [46] L))
theorem abc_wlab {l : List Nat} (h : abc l) : wlab l = true := by rcases h with rfl | rfl | rfl <;> decide
theorem abc_lab {l : List Nat} (h : abc l) : labB l = true := (wlab_lab (abc_wlab h)).1
theorem abc_len {l : List Nat} (h : abc l) : l.length ≤ 1 := by rcases h with rfl | rfl | rfl <;> decide
theorem abc_head {L : List (List Nat)} (hL : L ≠ []) (h : ∀ l ∈ L, abc l) : ∃ a r, joinL [46] L = a :: r ∧ a ≠ 33 ∧ a ≠ 42 := by
  obtain ⟨l, r, rfl⟩ := List.exists_cons_of_ne_nil hL
  have h1 := h l (List.mem_cons_self ..)
  have e : ∀ z, ∃ s, joinL [46] ([z] :: r) = z :: s := fun z => by
    cases r with
    | nil => exact ⟨[], rfl⟩
    | cons q r => exact ⟨_, rfl⟩
  rcases h1 with rfl | rfl | rfl
  · obtain ⟨s, e⟩ := e 97; exact ⟨97, s, e, by decide, by decide⟩
  · obtain ⟨s, e⟩ := e 98; exact ⟨98, s, e, by decide, by decide⟩
  · obtain ⟨s, e⟩ := e 99; exact ⟨99, s, e, by decide, by decide⟩
theorem abc_sp1 {L : List (List Nat)} (hL : L ≠ []) (h : ∀ l ∈ L, abc l) : sp1 46 (joinL [46] L) = L := sp1_joinL hL fun l hl => dot_free (abc_lab (h l hl))
theorem GenR.cases {t : List Nat} (h : GenR t) : ∃ L : List (List Nat), L ≠ [] ∧ L.length ≤ 4 ∧ (∀ l ∈ L, abc l) ∧ ((excT t = false ∧ t = joinL [46] L ∧ patL t = L) ∨ (excT t = false ∧ t = 42 :: 46 :: joinL [46] L ∧ patL t = [42] :: L) ∨ (excT t = true ∧ 2 ≤ L.length ∧ t = 33 :: joinL [46] L ∧ patL t = L)) := by
  obtain ⟨L, h1, h2, h3, h4⟩ := h
  refine ⟨L, h1, h2, h3, ?_⟩
  rcases h4 with rfl | rfl | ⟨h4, rfl⟩
  · left
    obtain ⟨a, r, e, e1, e2⟩ := abc_head h1 h3
    have hx : excT (joinL [46] L) = false := by unfold excT; rw [e]; exact decide_eq_false (by simpa using e1)
    refine ⟨hx, rfl, ?_⟩
    unfold patL patT
    rw [hx]
    exact abc_sp1 h1 h3
  · right; left
    refine ⟨rfl, rfl, ?_⟩
    show sp1 46 ([42] ++ 46 :: joinL [46] L) = _
    rw [sp1_app, abc_sp1 h1 h3]
    rfl
  · right; right
    refine ⟨rfl, h4, rfl, ?_⟩
    exact abc_sp1 h1 h3
theorem GenR.rule {t : List Nat} (h : GenR t) : ruleB t = true := by
  obtain ⟨L, h1, h2, h3, h4⟩ := h.cases
  have all : L.all labB = true := List.all_eq_true.mpr fun l hl => abc_lab (h3 l hl)
  unfold ruleB
  rcases h4 with ⟨hx, e, hp⟩ | ⟨hx, e, hp⟩ | ⟨hx, h5, e, hp⟩
  · rw [hx, e]
    obtain ⟨a, r, ea, e1, e2⟩ := abc_head h1 h3
    have : [42, 46].isPrefixOf (joinL [46] L) = false := by
      rw [ea]
      show ((42 == a) && _) = false
      rw [beq_eq_false_iff_ne.mpr (Ne.symm e2), Bool.false_and]
    rw [this]
    simp only [Bool.false_eq_true, if_false]
    rw [abc_sp1 h1 h3]
    exact all
  · rw [hx, e]
    have : [42, 46].isPrefixOf (42 :: 46 :: joinL [46] L) = true := by simp [List.isPrefixOf]
    rw [this]
    simp only [Bool.false_eq_true, if_false, if_true, List.drop_succ_cons, List.drop_zero]
    rw [abc_sp1 h1 h3]
    exact all
  · rw [hx, e, if_pos rfl]
    show (decide (1 < (sp1 46 (joinL [46] L)).length) && (sp1 46 (joinL [46] L)).all labB) = true
    rw [abc_sp1 h1 h3, all, decide_eq_true (by omega)]
    rfl
theorem GenR.exc {t : List Nat} (h : GenR t) (hx : excT t = true) : (patL t).head? ≠ some [42] ∧ ∀ l ∈ patL t, abc l := by
  obtain ⟨L, h1, h2, h3, h4⟩ := h.cases
  rcases h4 with ⟨e0, e, hp⟩ | ⟨e0, e, hp⟩ | ⟨e0, h5, e, hp⟩
  · rw [e0] at hx; cases hx
  · rw [e0] at hx; cases hx
  · rw [hp]
    refine ⟨fun q => ?_, h3⟩
    have := h3 [42] (List.mem_of_mem_head? q)
    rcases this with q | q | q <;> simp at q
theorem GenR.head {t : List Nat} (h : GenR t) : t.head? ≠ some 122 := by
  obtain ⟨L, h1, h2, h3, rfl | rfl | ⟨_, rfl⟩⟩ := h
  · obtain ⟨l, r, rfl⟩ := List.exists_cons_of_ne_nil h1
    have hq := h3 l (List.mem_cons_self ..)
    have e : ∀ z, (joinL [46] ([z] :: r)).head? = some z := fun z => by cases r <;> rfl
    rcases hq with rfl | rfl | rfl <;> rw [e] <;> decide
  · simp
  · simp
theorem GenR.len {t : List Nat} (h : GenR t) : t.length ≤ 12 := by
  obtain ⟨L, h1, h2, h3, h4⟩ := h
  have := joinL_len (c := 46) (B := 1) L fun l hl => abc_len (h3 l hl)
  rcases h4 with rfl | rfl | ⟨_, rfl⟩
  · omega
  · simp only [List.length_cons]; omega
  · simp only [List.length_cons]; omega
end Kb
namespace Kb
open PySem PySem.Spec PyProof.Rows L2
theorem Same.seqT {K : PySem.W.Frag} {a : Addr} {H H' : Hp} {xs : List V} (k : Same H H') (h : SqT K H a xs) : SqT K H' a xs := by
  rcases h with (h | ⟨o, h⟩) | h
  · exact .inl (.inl (k _ _ h))
  · exact .inl (.inr ⟨o, k _ _ h⟩)
  · exact .inr h
theorem Keep.seqT {K : PySem.W.Frag} {d a : Addr} {H H' : Hp} {xs : List V} (k : Keep d H H') (n : a ≠ d) (h : SqT K H a xs) : SqT K H' a xs := by
  rcases h with (h | ⟨o, h⟩) | h
  · exact .inl (.inl (k _ _ h n))
  · exact .inl (.inr ⟨o, k _ _ h n⟩)
  · exact .inr h
end Kb
namespace Kb
open PySem PySem.Spec PyProof.Rows L2 TL PySem.StrLaws Builtin.Str
theorem cutS_from (z : Str) {i : Int} (h : 0 ≤ i) : tl (cutS z (some i) none) = (tl z).drop i.toNat := by
  obtain ⟨k, rfl⟩ : ∃ k : Nat, i = (k : Int) := ⟨i.toNat, by omega⟩
  show ((tl z).drop (HT.sIx z.length 0 (some (k : Int)))).take (HT.sIx z.length z.length none - HT.sIx z.length 0 (some (k : Int))) = _
  rw [HT.sIx_none, HT.sIx_nat, Int.toNat_natCast, len_tl]
  rw [List.take_of_length_le (by rw [List.length_drop] <;> omega)]
  rcases Nat.le_total k (tl z).length with g | g
  · rw [Nat.min_eq_left g]
  · rw [Nat.min_eq_right g, List.drop_of_length_le (Nat.le_refl _), List.drop_of_length_le g]
end Kb
namespace Kb
open PySem PySem.Spec PyProof.Rows L2 TL
def RulesOK (rs : List Str) : Prop := rs.Nodup ∧ ∀ r ∈ rs, ruleB (tl r) = true ∧ r.length ≤ 1000
end Kb
namespace Kb
open PySem PySem.Spec PyProof.Rows L2 TL
theorem abc_at {r : Int} (h0 : 0 ≤ r) (h1 : r < 3) : ∃ c : Nat, atI ("abc" : Str).cps.toList r = some c ∧ abc (tl (⟨#[c]⟩ : Str)) := by
  rcases (by omega : r = 0 ∨ r = 1 ∨ r = 2) with rfl | rfl | rfl
  · exact ⟨97, by decide +kernel, .inl rfl⟩
  · exact ⟨98, by decide +kernel, .inr (.inl rfl)⟩
  · exact ⟨99, by decide +kernel, .inr (.inr rfl)⟩
theorem words_join (W : List Str) : tl (Txt.join ("." : Str) W) = joinL [46] (W.map tl) := by rw [join_tl, tl_dot]
theorem words_len {W : List Str} {B : Nat} (h : ∀ x ∈ W, (tl x).length ≤ B) : (W.map (·.length)).sum ≤ W.length * B :=
  PySem.StrLaws.sumLen_le (B := B) W fun w hw => by rw [len_tl]; exact h w hw
end Kb
namespace Kb
open PySem PySem.Spec PyProof.Rows L2 TL
theorem Keep.newer {d L : Addr} {H H' : Hp} (k : Keep d H H') (n : L ≠ d) (h : H' L = none) : H L = none := by
  cases e : H L with
  | none => rfl
  | some o => rw [k _ _ e n] at h; cases h
theorem Same.newer {L : Addr} {H H' : Hp} (k : Same H H') (h : H' L = none) : H L = none := by
  cases e : H L with
  | none => rfl
  | some o => rw [k _ _ e] at h; cases h
theorem in_strs {r : Str} {L : List Str} : inV (.str r) (L.map V.str) = decide (r ∈ L) := by
  unfold inV
  rw [Bool.eq_iff_iff, List.any_eq_true, decide_eq_true_eq]
  constructor
  · rintro ⟨v, hv, q⟩
    obtain ⟨x, hx, rfl⟩ := List.mem_map.mp hv
    have : x = r := by simpa [eqV] using q
    exact this ▸ hx
  · intro h
    exact ⟨.str r, List.mem_map.mpr ⟨r, h, rfl⟩, by simp [eqV]⟩
theorem flat_strs (L : List Str) : (L.map V.str).all flatV = true := by
  rw [List.all_eq_true]
  intro v hv
  obtain ⟨x, _, rfl⟩ := List.mem_map.mp hv
  rfl
end Kb
namespace Kb
open PySem PySem.Spec PyProof.Rows L2 TL
/-! ### hosts of small labels -/
theorem host_facts {w : List (List Nat)} {t : Str} (hw : w ≠ []) (hl : w.length ≤ 10) (ha : ∀ l ∈ w, wlab l = true) (e : tl t = joinL [46] w) :
    hostB (tl t) = true ∧ addrB (tl t) = false ∧ sp1 46 (tl t) = w ∧ t.length ≤ 50 := by
  have h : HostW 10 t := ⟨w, hw, hl, ha, e⟩
  have h1 := h.host (Nat.le_refl 10)
  have h2 := h.len
  refine ⟨h1.1, ?_, by rw [e, sp1_joinL hw fun p hp => dot_free (wlab_lab (ha p hp)).1], by omega⟩
  unfold addrB
  rw [h1.2, Bool.and_false]
theorem fit_last {w : List (List Nat)} {k : Nat} {h d : List Nat} (e1 : sp1 46 h = w) (e2 : sp1 46 d = lastN k w) (hk : k ≤ w.length) (ha : addrB h = false) : fitB h d = true := by
  have hd : (sp1 46 d).length = k := by rw [e2, lastN_len, Nat.min_eq_left hk]
  have := (sp1_suffix 46 h d).mp ⟨by rw [hd, e1]; exact hk, by rw [e1, hd, e2]; rfl⟩
  unfold fitB
  rw [ha]
  rcases this with q | q
  · rw [decide_eq_true q]; rfl
  · rw [List.isSuffixOf_iff_suffix.mpr q]; simp
theorem famL_len {rs w : List (List Nat)} (hr : ∀ t ∈ rs, ruleB t = true) (hw : w ≠ []) : famL rs w = lastN (famL rs w).length w ∧ 1 ≤ (famL rs w).length ∧ (famL rs w).length ≤ w.length := by
  have h0 : 0 < w.length := List.length_pos_iff.mpr hw
  have := sufN_ge hr hw
  have e := famL_eq hr hw
  have el : (famL rs w).length = min (sufN rs w + 1) w.length := by rw [e, lastN_len]
  refine ⟨?_, by omega, by omega⟩
  rw [el, lastN_min]; exact e
theorem lastN_ne {α : Type} {k : Nat} {w : List α} (h1 : 1 ≤ k) (h2 : w ≠ []) : lastN k w ≠ [] := fun q => by
  have := lastN_len k w
  have h0 : 0 < w.length := List.length_pos_iff.mpr h2
  rw [q, List.length_nil] at this
  omega
theorem lastN_map {α β : Type} (f : α → β) (k : Nat) (w : List α) : (lastN k w).map f = lastN k (w.map f) := by
  unfold lastN; rw [List.map_drop, List.length_map]
/-- a rule that asks a label before the host -/
theorem zrule {w : List (List Nat)} {t : List Nat} {rs : List (List Nat)} (hw : w ≠ []) (ha : ∀ l ∈ w, abc l) (e : t = 122 :: 46 :: joinL [46] w) (u : List (List Nat)) (hu : u.length ≤ w.length) :
    ruleB t = true ∧ sufN (rs ++ [t]) u = sufN rs u := by
  have hx : excT t = false := by rw [e]; rfl
  have hp : patL t = [122] :: w := by
    unfold patL patT
    rw [hx, e]
    show sp1 46 ([122] ++ 46 :: joinL [46] w) = _
    rw [sp1_app, abc_sp1 hw ha]; rfl
  constructor
  · unfold ruleB
    rw [hx, e]
    have : [42, 46].isPrefixOf (122 :: 46 :: joinL [46] w) = false := rfl
    rw [this]
    simp only [Bool.false_eq_true, if_false]
    show (sp1 46 ([122] ++ 46 :: joinL [46] w)).all labB = true
    rw [sp1_app, abc_sp1 hw ha, List.all_append, Bool.and_eq_true]
    exact ⟨by decide +kernel, List.all_eq_true.mpr fun l hl => abc_lab (ha l hl)⟩
  · refine sufN_snoc ?_
    rw [hp]
    unfold mtL
    rw [decide_eq_false (by rw [List.length_cons]; omega)]; rfl
theorem below_ok {rs : List (List Nat)} (h : ∀ t ∈ rs, GenR t) : ∀ t ∈ rs, excT t = true → (patL t).head? ≠ some [42] ∧ [121] ∉ patL t := fun t ht hx => by
  obtain ⟨h1, h2⟩ := (h t ht).exc hx
  exact ⟨h1, fun q => by rcases h2 _ q with r | r | r <;> simp at r⟩
end Kb

namespace Kb
open PySem PySem.Spec PyProof.Rows L2 TL PySem.Builtin PySem.Builtin.Str
/-! ### what is stripped away of a text at both ends -/
theorem strip_none (x g : Str) : (Txt.stripChars x g = ("" : Str)) ↔ ∀ c ∈ tl x, c ∈ tl g := by
  unfold Txt.stripChars
  rw [stripBy_eq]
  have hc : ∀ c, g.cps.contains c = true ↔ c ∈ tl g := fun c => by
    unfold tl
    rw [← Array.contains_toList, List.contains_iff_mem]
  obtain ⟨l1, l2, l3⟩ := lo_facts g.cps.contains x
  obtain ⟨h1, h2, h3, h4⟩ := hi_facts g.cps.contains x _ l1
  generalize stripLo g.cps.contains true x = lo at *
  generalize stripHi g.cps.contains true x lo = hi at *
  have hx : x.length = (tl x).length := len_tl x
  have e0 : (strSub x lo hi = ("" : Str)) ↔ hi = lo := by
    constructor
    · intro e
      have : (strSub x lo hi).length = 0 := by rw [e]; decide +kernel
      simp [strSub, Str.length] at this
      have hx' : x.length = x.cps.size := rfl
      omega
    · intro e
      subst e
      apply ext_tl
      simp [strSub, tl]
      decide +kernel
  rw [e0]
  have gd : ∀ k, k < x.length → ∃ c, (tl x)[k]? = some c ∧ x.cps.getD k 0 = c := fun k hk => by
    refine ⟨x.cps.getD k 0, ?_, rfl⟩
    have hk' : k < x.cps.size := hk
    simp [tl, Array.getD, hk']
  constructor
  · intro e c hm
    obtain ⟨k, hk⟩ := List.mem_iff_getElem?.mp hm
    have hl : k < (tl x).length := by
      rw [List.getElem?_eq_some_iff] at hk
      exact hk.1
    rw [← hx] at hl
    obtain ⟨c', e1, e2⟩ := gd k hl
    rw [hk] at e1
    cases e1
    rw [← hc]
    by_cases q : k < lo
    · have := l2 k q; rw [e2] at this; exact this
    · have := h3 k (by omega) hl; rw [e2] at this; exact this
  · intro al
    have al' : ∀ k, k < x.length → g.cps.contains (x.cps.getD k 0) = true := fun k hk => by
      obtain ⟨c, e1, e2⟩ := gd k hk
      rw [e2, hc]
      exact al c (List.mem_of_getElem? e1)
    by_cases q : lo = x.length
    · omega
    · have := l3.resolve_left q
      rw [al' lo (by omega)] at this
      cases this
theorem strip_only (x g : Str) : (!decide (V.str x = V.str ("" : Str)) && decide (V.str (Txt.stripChars x g) = V.str ("" : Str))) = onlyB (tl g) (tl x) := by
  unfold onlyB
  rw [Bool.eq_iff_iff, Bool.and_eq_true, Bool.and_eq_true, Bool.not_eq_true', decide_eq_true_eq, decide_eq_true_eq, decide_eq_false_iff_not, List.all_eq_true]
  have e1 : (V.str x = V.str ("" : Str)) ↔ tl x = [] := ⟨fun q => by rw [V.str.inj q]; decide +kernel, fun q => by rw [show x = ("" : Str) from ext_tl (by rw [q]; decide +kernel)]⟩
  have e2 : (V.str (Txt.stripChars x g) = V.str ("" : Str)) ↔ ∀ c ∈ tl x, c ∈ tl g := by
    rw [← strip_none]
    exact ⟨fun q => V.str.inj q, fun q => by rw [q]⟩
  rw [e1, e2]
  constructor
  · rintro ⟨a, b⟩; exact ⟨fun c hc => decide_eq_true (b c hc), a⟩
  · rintro ⟨a, b⟩; exact ⟨b, fun c hc => of_decide_eq_true (a c hc)⟩
end Kb

namespace Kb
open PySem PySem.Spec PyProof.Rows L2 TL PySem.StrLaws PySem.Builtin PySem.Builtin.Str
/-! ### both ends trimmed, a text cut at a sign: the whole answers -/
def trimF (f : Nat → Bool) (l : List Nat) : List Nat := ((l.dropWhile f).reverse.dropWhile f).reverse
theorem dropWhile_all {f : Nat → Bool} : ∀ {p : List Nat} (s : List Nat), (∀ c ∈ p, f c = true) → (p ++ s).dropWhile f = s.dropWhile f
  | [], _, _ => rfl
  | x :: p, s, h => by
    rw [List.cons_append, List.dropWhile_cons, if_pos (h x (List.mem_cons_self ..)), dropWhile_all s fun c hc => h c (List.mem_cons_of_mem _ hc)]
theorem dropWhile_stop {f : Nat → Bool} {x : Nat} {l : List Nat} (h : f x = false) : (x :: l).dropWhile f = x :: l := by rw [List.dropWhile_cons, if_neg (by rw [h]; exact Bool.false_ne_true)]
theorem trim_nil {f : Nat → Bool} {p : List Nat} (h : ∀ c ∈ p, f c = true) : trimF f p = [] := by
  unfold trimF
  have : p.dropWhile f = [] := by have := dropWhile_all [] h; rw [List.append_nil] at this; rw [this]; rfl
  rw [this]; rfl
/-- blanks, a middle with other ends, blanks -/
theorem trim_mid {f : Nat → Bool} {p m s : List Nat} {a b : Nat} (hp : ∀ c ∈ p, f c = true) (hs : ∀ c ∈ s, f c = true) (ha : m.head? = some a) (fa : f a = false) (hb : m.getLast? = some b) (fb : f b = false) : trimF f (p ++ m ++ s) = m := by
  unfold trimF
  rw [List.append_assoc, dropWhile_all _ hp]
  obtain ⟨m', rfl⟩ : ∃ m', m = a :: m' := by
    cases m with
    | nil => cases ha
    | cons x m => cases ha; exact ⟨m, rfl⟩
  rw [List.cons_append, dropWhile_stop fa, ← List.cons_append, List.reverse_append, dropWhile_all _ (fun c hc => hs c (List.mem_reverse.mp hc))]
  obtain ⟨m2, e⟩ : ∃ m2, (a :: m').reverse = b :: m2 := by
    rw [List.getLast?_eq_head?_reverse] at hb
    cases h : (a :: m').reverse with
    | nil => rw [h] at hb; cases hb
    | cons x r => rw [h] at hb; cases hb; exact ⟨r, rfl⟩
  rw [e, dropWhile_stop fb, ← e, List.reverse_reverse]
/-- told by the two places -/
theorem trim_at {f : Nat → Bool} {l : List Nat} {a b : Nat} (hab : a ≤ b) (hb : b ≤ l.length) (h1 : ∀ k, k < a → ∃ c, l[k]? = some c ∧ f c = true) (h2 : ∀ k, b ≤ k → k < l.length → ∃ c, l[k]? = some c ∧ f c = true)
    (h3 : a = l.length ∨ ∃ c, l[a]? = some c ∧ f c = false) (h4 : b = a ∨ ∃ c, l[b - 1]? = some c ∧ f c = false) : trimF f l = (l.drop a).take (b - a) := by
  have hp : ∀ c ∈ l.take a, f c = true := fun c hc => by
    obtain ⟨k, hk⟩ := List.mem_iff_getElem?.mp hc
    have h := (List.getElem?_eq_some_iff.mp hk).1
    rw [List.length_take] at h
    rw [List.getElem?_take, if_pos (by omega)] at hk
    obtain ⟨c', e, g⟩ := h1 k (by omega)
    rw [hk] at e; cases e; exact g
  have hs : ∀ c ∈ l.drop b, f c = true := fun c hc => by
    obtain ⟨k, hk⟩ := List.mem_iff_getElem?.mp hc
    have h := (List.getElem?_eq_some_iff.mp hk).1
    rw [List.length_drop] at h
    rw [List.getElem?_drop] at hk
    obtain ⟨c', e, g⟩ := h2 (b + k) (by omega) (by omega)
    rw [hk] at e; cases e; exact g
  have el : l = l.take a ++ (l.drop a).take (b - a) ++ l.drop b := by
    rw [List.append_assoc]
    have : (l.drop a).take (b - a) ++ l.drop b = l.drop a := by
      conv => rhs; rw [← List.take_append_drop (b - a) (l.drop a)]
      rw [List.drop_drop, show a + (b - a) = b by omega]
    rw [this, List.take_append_drop]
  by_cases hm : b = a
  · subst hm
    rw [Nat.sub_self, List.take_zero]
    refine trim_nil fun c hc => ?_
    rw [el, Nat.sub_self, List.take_zero, List.append_nil] at hc
    rcases List.mem_append.mp hc with q | q
    · exact hp c q
    · exact hs c q
  · obtain ⟨x, e1, g1⟩ : ∃ c, l[a]? = some c ∧ f c = false := by
      rcases h3 with h | h
      · omega
      · exact h
    obtain ⟨y, e2, g2⟩ := h4.resolve_left hm
    conv => lhs; rw [el]
    refine trim_mid hp hs (a := x) (b := y) ?_ g1 ?_ g2
    · rw [List.head?_take, if_neg (by omega), List.head?_drop]; exact e1
    · have hlen : ((l.drop a).take (b - a)).length = b - a := by rw [List.length_take, List.length_drop]; omega
      rw [List.getLast?_eq_getElem?, hlen, List.getElem?_take, if_pos (by omega), List.getElem?_drop, show a + (b - a - 1) = b - 1 by omega]
      exact e2
theorem strip_trim (x g : Str) : tl (Txt.stripChars x g) = trimF (fun c => decide (c ∈ tl g)) (tl x) := by
  unfold Txt.stripChars
  rw [stripBy_eq]
  have hc : ∀ c, g.cps.contains c = decide (c ∈ tl g) := fun c => by
    unfold tl
    rw [Bool.eq_iff_iff, decide_eq_true_eq, ← Array.contains_toList, List.contains_iff_mem]
  obtain ⟨l1, l2, l3⟩ := lo_facts g.cps.contains x
  obtain ⟨h1, h2, h3, h4⟩ := hi_facts g.cps.contains x _ l1
  show tl (strSub x (stripLo g.cps.contains true x) (stripHi g.cps.contains true x (stripLo g.cps.contains true x))) = _
  generalize stripLo g.cps.contains true x = lo at *
  generalize stripHi g.cps.contains true x lo = hi at *
  have hx : x.length = (tl x).length := len_tl x
  have gd : ∀ k, k < x.length → ∃ c, (tl x)[k]? = some c ∧ x.cps.getD k 0 = c := fun k hk => by
    refine ⟨x.cps.getD k 0, ?_, rfl⟩
    have hk' : k < x.cps.size := hk
    simp [tl, Array.getD, hk']
  have pos : ∀ k, k < x.length → g.cps.contains (x.cps.getD k 0) = true → ∃ c, (tl x)[k]? = some c ∧ decide (c ∈ tl g) = true := fun k hk h => by
    obtain ⟨c, e1, e2⟩ := gd k hk
    exact ⟨c, e1, by rw [← hc, ← e2]; exact h⟩
  have neg : ∀ k, k < x.length → g.cps.contains (x.cps.getD k 0) = false → ∃ c, (tl x)[k]? = some c ∧ decide (c ∈ tl g) = false := fun k hk h => by
    obtain ⟨c, e1, e2⟩ := gd k hk
    exact ⟨c, e1, by rw [← hc, ← e2]; exact h⟩
  rw [tl_strSub]
  refine (trim_at h1 (by omega) (fun k hk => pos k (by omega) (l2 k hk)) (fun k hk hk2 => pos k (by omega) (h3 k hk (by omega))) ?_ ?_).symm
  · by_cases q : lo = x.length
    · exact .inl (by omega)
    · exact .inr (neg lo (by omega) (l3.resolve_left q))
  · by_cases q : hi = lo
    · exact .inl q
    · exact .inr (neg (hi - 1) (by omega) (h4.resolve_left q))
/-- a text at its first c -/
theorem find_sign (x : Str) (c : Nat) : Txt.find x ⟨#[c]⟩ = (if c ∈ tl x then (((tl x).takeWhile fun s => !decide (s = c)).length : Int) else -1) := by
  have hy : tl (⟨#[c]⟩ : Str) ≠ [] := by simp [tl]
  have at' : ∀ i, At x ⟨#[c]⟩ x.length i ↔ (tl x)[i]? = some c := fun i => by
    rw [at_iff hy]
    show (((tl x).drop i).take 1 == [c]) = true ↔ _
    exact take1_drop
  rcases find_whole x ⟨#[c]⟩ with ⟨e, h⟩ | ⟨i, e, h1, h2⟩
  · rw [e, if_neg]
    intro hm
    obtain ⟨k, hk⟩ := List.mem_iff_getElem?.mp hm
    exact h k ((at' k).mpr hk)
  · have g := (at' i).mp h1
    rw [e, if_pos (List.mem_of_getElem? g)]
    congr 1
    have hlt := (List.getElem?_eq_some_iff.mp g).1
    have no : ∀ k, k < i → (tl x)[k]? ≠ some c := fun k hk q => h2 k hk ((at' k).mpr q)
    have : ∀ (l : List Nat) (i : Nat), l[i]? = some c → (∀ k, k < i → l[k]? ≠ some c) → i = (l.takeWhile fun s => !decide (s = c)).length := by
      intro l
      induction l with
      | nil => intro i h; simp at h
      | cons a l ih =>
        intro i h n
        cases i with
        | zero => simp at h; rw [h]; simp
        | succ i =>
          have ha : a ≠ c := fun q => n 0 (by omega) (by rw [q]; rfl)
          rw [List.takeWhile_cons, if_pos (by simp [ha]), List.length_cons, ih i (by simpa using h) fun k hk => by simpa using n (k + 1) (by omega)]
    exact this _ _ g no
theorem partition_full (x : Str) (c : Nat) : (c ∈ tl x → tl (Txt.partition x ⟨#[c]⟩).1 = (tl x).takeWhile (fun s => !decide (s = c)) ∧ (Txt.partition x ⟨#[c]⟩).2.1 = ⟨#[c]⟩ ∧ tl (Txt.partition x ⟨#[c]⟩).2.2 = (tl x).drop (((tl x).takeWhile (fun s => !decide (s = c))).length + 1)) ∧
    (c ∉ tl x → (Txt.partition x ⟨#[c]⟩).1 = x ∧ (Txt.partition x ⟨#[c]⟩).2.1 = "" ∧ (Txt.partition x ⟨#[c]⟩).2.2 = "") := by
  have fs := find_sign x c
  unfold Txt.find at fs
  unfold Txt.partition
  cases ho : occurrences x ⟨#[c]⟩ 0 x.length 1 with
  | nil =>
    rw [ho] at fs
    refine ⟨fun h => ?_, fun h => ⟨rfl, rfl, rfl⟩⟩
    rw [if_pos h] at fs
    simp only at fs; omega
  | cons j r =>
    rw [ho] at fs
    refine ⟨fun h => ?_, fun h => ?_⟩
    · rw [if_pos h] at fs
      have hj : j = ((tl x).takeWhile (fun s => !decide (s = c))).length := Int.ofNat_inj.mp fs
      refine ⟨?_, rfl, ?_⟩
      · show tl (strSub x 0 j) = _
        rw [tl_strSub, hj, List.drop_zero, Nat.sub_zero]
        conv => lhs; rw [← List.takeWhile_append_dropWhile (p := fun s => !decide (s = c)) (l := tl x), List.take_left' (by rw [List.takeWhile_append_dropWhile])]
      · show tl (strSub x (j + 1) x.length) = _
        rw [tl_strSub, hj, len_tl, List.take_of_length_le (by rw [List.length_drop]; exact Nat.le_refl _)]
    · rw [if_neg h] at fs
      simp only at fs; omega
end Kb

namespace Kb
open PySem PySem.Spec PyProof.Rows L2 TL PySem.Calls PySem.NumText
/-! ### int(text) up to 4,300 signs: the setting is read in the written part -/
theorem nodigits_of {K : PySem.W.Frag} {h : Heap} (X : K.In h) (hl : h.NoLimit) (e : PySem.W.nsIn K cStatics "sys.int_max_str_digits" = some none) : h.NoDigits := by
  obtain ⟨mc, ns, _⟩ := hl
  refine ⟨mc, ns, ?_⟩
  obtain ⟨o, es, ep, ho, hd, _, hf⟩ := ns
  unfold PySem.W.nsIn at e
  split at e
  rotate_left
  · cases e
  · next q =>
    have z := X _ _ q
    rw [ho] at z
    cases z
    cases hd
    split at e
    · cases e
    · next g =>
      have g2 : nsFind es "sys.int_max_str_digits" = none := by unfold nsFind findBy; rw [← Array.find?_toList, g]; rfl
      exact (hf _).symm.trans g2
theorem wp_digitsMax {M : Model} {A : Around} {E : Value → Shared → Prop} {s : Shared} {Q : Nat → Shared → Prop} (hn : s.heap.NoDigits) (h : Q 4300 s) : wpAny M A PySem.Builtin.intMaxStrDigits Q E s := by
  obtain ⟨mc, ns, e⟩ := hn
  unfold PySem.Builtin.intMaxStrDigits
  refine wpAny_bind (wpAny_nsGet ns ?_)
  rw [e]
  exact wpAny_pure h
theorem wp_longText {M : Model} {A : Around} {E : Value → Shared → Prop} {s : Shared} {Q : Value → Shared → Prop} {v : Value} {t : List Nat} {n : Int} (hn : s.heap.NoDigits)
    (hs : ¬ (t.takeWhile (· != 0)).length ≤ 640) (hr : (int_private% "readNumeral") 4300 10 (t.takeWhile (· != 0)) = (int_private% "Numeral.value") n)
    (ha : ((t.takeWhile (· != 0)).length == t.length) = true) (h : Q (.int n s.toks) { s with toks := s.toks + 1 }) :
    wpAny M A ((int_private% "intFromText") v t 10) Q E s := by
  obtain ⟨hp, g, d, tk, os⟩ := s
  repeat (any_goals (first | assumption | (with_reducible refine wpAny_ite_false (decide_eq_false hs) ?_) | (with_reducible refine wp_digitsMax hn ?_) | wp_step))
  all_goals (try rw [hr])
  all_goals (try dsimp only)
  repeat (any_goals (first | assumption | (with_reducible refine wpAny_ite_true (decide_eq_true ha) ?_) | wp_step))
theorem meets_longText {x : Str} {u : Tok} {n : Int} (hl : ¬ (numSeenOf x).length ≤ 640) (hz : x.length ≤ sizeLine) (hn : PySem.intText? x = some n) :
    Meets (PySem.Builtin.«int.__new__» ⟨[.type "int", .str x u], []⟩) (fun _ R s => s.heap.NoDigits ∧ R (.ok (.ret (.int n s.toks))) { s with toks := s.toks + 1 }) := by
  intro prog w A R s ⟨hd, h⟩
  have hr : (int_private% "readNumeral") 4300 10 (numSeenOf x) = (int_private% "Numeral.value") n ∧ ((numSeenOf x).length == (numTextOf x).length) = true := by
    rcases read4300 x hz with ⟨m, h1, h2, h3⟩ | ⟨h1, _⟩
    · rw [hn] at h1
      cases h1
      exact ⟨h3, h2⟩
    · rw [hn] at h1; cases h1
  have hk := PySem.W.KIN.Hid.mk (And.intro hl hr)
  obtain ⟨hp, g, d, tk, os⟩ := s
  have f1 := F.conv_sub_int
  have f2 := F.madeHere_int
  have f3 := PySem.W.KIN.str_int
  have f4 := PySem.W.KIN.str_idx
  have f5 := PySem.W.KIN.str_trunc
  have f6 : typeOf (.str x u) = pure (.type "str") := rfl
  clear hl hr hn hz
  repeat (any_goals (first | assumption | ((with_reducible show wpAny _ _ ((int_private% "intFromText") _ _ _) _ _ _); refine wp_longText hd hk.out.1 hk.out.2.1 hk.out.2.2 ?_) | wp_step))
section
variable {X : Cx}
/-- int(text), up to 4,300 signs -/
theorem call_int_strL (hd : PySem.W.nsIn X.K cStatics "sys.int_max_str_digits" = some none) : CallR X (.type "int") (fun xs H Q => ∃ a n, xs = [.str a] ∧ PySem.intText? a = some n ∧ a.length ≤ sizeLine ∧ (a.length ≤ 640 ∨ ¬ (numSeenOf a).length ≤ 640) ∧ Q (.int n) H) := by
  intro pins s σ H xs us Q I rs h
  obtain ⟨a, n, rfl, hn, hl, q, h⟩ := h
  cases rs with
  | cons r1 rs =>
    cases rs
    obtain ⟨t, rfl⟩ := r1
    rcases q with q | q
    · exact PySem.W.KIN.call_text hn q ⟨.int n, H, I.tok _, ⟨_, rfl⟩, h⟩
    · exact call_int_1 (meets_longText q hl hn) ⟨nodigits_of I.kIn I.nolimit hd, show _ ∧ _ from ⟨rfl, ⟨.int n, H, I.tok _, ⟨_, rfl⟩, h⟩⟩⟩
end
/-! ### the number of a text of digits, with a sign perhaps -/
theorem int_dig4 {x : Str} (h : digB (tl x) = true) (hl : x.length ≤ 4300) : intText? x = some ((NumText.digitsVal (tl x) : Nat) : Int) := intText_digits (digB_iff.mp h).1 (digB_iff.mp h).2 hl
theorem int_neg4 {x : Str} {l : List Nat} (e : tl x = 45 :: l) (h : digB l = true) (hl : x.length ≤ 4300) : intText? x = some (-((NumText.digitsVal l : Nat) : Int)) := intText_neg e (digB_iff.mp h).1 (digB_iff.mp h).2 hl
theorem seen_signs {x : Str} (h : ∀ c ∈ tl x, c = 45 ∨ (48 ≤ c ∧ c ≤ 57)) : (numSeenOf x).length = x.length := by
  rw [(numText_signs h).2]; exact (len_tl x).symm
end Kb

namespace Kb
open PySem PySem.Spec PyProof.Rows L2 TL
/-! ### a table of the module: text keys, values that a reading knows -/
def lookL : List (Str × V) → Str → Option V
  | [], _ => none
  | p :: r, z => if p.1 = z then some p.2 else lookL r z
def KeysAre : List DictEntry → List (Str × V) → Prop
  | [], [] => True
  | e :: r, p :: l => (∃ t, e.key = .str p.1 t) ∧ RelV p.2 e.val ∧ KeysAre r l
  | _, _ => False
theorem refKey_str {e : DictEntry} {x : Str} {t : Tok} (h : e.key = .str x t) : e.refKey = false := by
  unfold DictEntry.refKey; rw [h]
theorem keysAre_ref : ∀ {es : List DictEntry} {l : List (Str × V)}, KeysAre es l → es.any (·.refKey) = false
  | [], [], _ => rfl
  | e :: r, p :: l, ⟨⟨t, h1⟩, _, h3⟩ => by rw [List.any_cons, refKey_str h1, keysAre_ref h3]; rfl
theorem keysAre_find (z : Str) : ∀ {es : List DictEntry} {l : List (Str × V)}, KeysAre es l → (lookL l z = none ∧ es.find? (·.key.isStr z) = none) ∨ ∃ v e, lookL l z = some v ∧ es.find? (·.key.isStr z) = some e ∧ RelV v e.val
  | [], [], _ => .inl ⟨rfl, rfl⟩
  | e :: r, p :: l, ⟨⟨t, h1⟩, h2, h3⟩ => by
    by_cases hz : p.1 = z
    · refine .inr ⟨p.2, e, ?_, ?_, h2⟩
      · simp [lookL, hz]
      · rw [List.find?_cons]; simp [h1, Value.isStr, hz]
    · have e1 : lookL (p :: l) z = lookL l z := by simp [lookL, hz]
      have e2 : (e :: r).find? (·.key.isStr z) = r.find? (·.key.isStr z) := by
        have hb : e.key.isStr z = false := by rw [h1]; show (p.1 == z) = false; exact beq_eq_false_iff_ne.mpr hz
        rw [List.find?_cons]; simp only [hb]
      rw [e1, e2]; exact keysAre_find z h3
def Tabl (K : PySem.W.Frag) (w : World) (l : List (Str × V)) (d : Addr) : Prop := ∃ es n, KDict K w d es n ∧ KeysAre es.toList l
theorem Tabl.look {K : PySem.W.Frag} {w : World} {l : List (Str × V)} {d : Addr} {es : Array DictEntry} {n : Nat} (D : KDict K w d es n) (h : KeysAre es.toList l) (z : Str) :
    (lookL l z = none ∧ PySem.W.nsIn K d z = some none) ∨ ∃ v u, lookL l z = some v ∧ PySem.W.nsIn K d z = some (some u) ∧ RelV v u := by
  have hr := keysAre_ref h
  unfold PySem.W.nsIn
  rw [D.at_]
  rcases keysAre_find z h with ⟨h1, h2⟩ | ⟨v, e, h1, h2, h3⟩
  · refine .inl ⟨h1, ?_⟩
    simp only [h2, hr]; rfl
  · refine .inr ⟨v, e.val, h1, ?_, h3⟩
    simp only [h2]
def Tab (K : PySem.W.Frag) (w : World) (mg : Str → Option Value) (x : Str) (l : List (Str × V)) : Prop := ∃ d, mg x = some (.ref d) ∧ Tabl K w l d
theorem Tab.mk' {K : PySem.W.Frag} {w : World} {mg : Str → Option Value} {h : Heap} {x : Str} {l : List (Str × V)} {d : Addr} {es : Array DictEntry} {n : Nat} (X : K.In h) (G : h.Ns PySem.mainGlobals mg) (a : PySem.W.nsIn K PySem.mainGlobals x = some (some (.ref d)))
    (at_ : K.lookup d = some ⟨.type "dict", none, .dict es n, #[]⟩) (lit : PySem.W.KeysLit w.params es.toList) (low : (d == sysModules) = false) (ka : KeysAre es.toList l) : Tab K w mg x l :=
  ⟨d, PySem.W.mg_of X G a, es, n, ⟨at_, lit, low⟩, ka⟩
theorem tupIdx_mk {K : PySem.W.Frag} {mg : Str → Option Value} {x : Str} {a : Addr} {its : Array Value} {n : Nat} {sl : Array (Option Value)} (h : mg x = some (.ref a)) (l : K.lookup a = some ⟨.type "tuple", none, .seq its n, sl⟩) :
    ∃ a o, mg x = some (.ref a) ∧ K.lookup a = some o ∧ o.cls = .type "tuple" ∧ o.dict = none := ⟨a, _, h, l, rfl, rfl⟩
def rInTab (l : List (Str × V)) (d : Addr) (neg : Bool) : R2 := fun x y H Q => ∃ z, x = .str z ∧ y = .ref d ∧ Q (.bl ((lookL l z).isSome != neg)) H
section
variable {X : Cx} {d : Addr} {l : List (Str × V)}
theorem op_inTab (T : Tabl X.K X.w l d) : OpR X (compareOp .In) (rInTab l d false) := by
  obtain ⟨es, n, D, ka⟩ := T
  intro pins s σ H x y v u Q I rx ry h
  obtain ⟨z, rfl, rfl, q⟩ := h
  refine op_in_kd D pins s σ H _ _ v u Q I rx ry ?_
  rcases Tabl.look D ka z with ⟨h1, h2⟩ | ⟨v, u, h1, h2, _⟩
  · rw [h1] at q; exact ⟨z, none, rfl, rfl, h2, q⟩
  · rw [h1] at q; exact ⟨z, some u, rfl, rfl, h2, q⟩
theorem op_notInTab (T : Tabl X.K X.w l d) : OpR X (compareOp .NotIn) (rInTab l d true) := by
  obtain ⟨es, n, D, ka⟩ := T
  intro pins s σ H x y v u Q I rx ry h
  obtain ⟨z, rfl, rfl, q⟩ := h
  refine op_notIn_kd D pins s σ H _ _ v u Q I rx ry ?_
  rcases Tabl.look D ka z with ⟨h1, h2⟩ | ⟨v, u, h1, h2, _⟩
  · rw [h1] at q; exact ⟨z, none, rfl, rfl, h2, q⟩
  · rw [h1] at q; exact ⟨z, some u, rfl, rfl, h2, q⟩
def rIxTab (l : List (Str × V)) (d : Addr) : R2 := fun x y H Q => ∃ z v, x = .ref d ∧ y = .str z ∧ lookL l z = some v ∧ Q v H
theorem ix_tab (T : Tabl X.K X.w l d) : IxR X (rIxTab l d) := by
  obtain ⟨es, n, D, ka⟩ := T
  intro value slice pins s σ H x y v u Q I rx ry h hs
  obtain ⟨z, r, rfl, rfl, hl, q⟩ := h
  refine ix_kdict value slice pins s σ H _ _ v u Q I rx ry ?_ hs
  rcases Tabl.look D ka z with ⟨h1, _⟩ | ⟨v, u, h1, h2, h3⟩
  · rw [h1] at hl; cases hl
  · obtain rfl : v = r := Option.some.inj (h1.symm.trans hl)
    exact ⟨d, z, v, rfl, rfl, ⟨es, n, u, D.at_, D.lit, h2, h3⟩, q⟩
end
end Kb

namespace Kb
open PySem PySem.Spec PyProof.Rows L2 TL
/-! ### paths as lists of signs -/
/-- a sign that a path may have -/
def psign (c : Nat) : Bool := decide (33 ≤ c) && decide (c ≤ 126) && (decide (c ≠ 59) && decide (c ≠ 63) && decide (c ≠ 35)) && decide (c ≠ 37)
def pathB (l : List Nat) : Bool := decide (l.length ≤ 200) && ([47].isPrefixOf l && l.all psign)
def pfB (p q : List Nat) : Bool := decide (p = q) || (q.isPrefixOf p && ([47].isSuffixOf q || p[q.length]? == some 47))
/-- all in front of the last slash, or a slash -/
def dflt (l : List Nat) : List Nat := if joinL [47] (sp1 47 l).dropLast = [] then [47] else joinL [47] (sp1 47 l).dropLast
theorem tl_slash : tl ("/" : Str) = [47] := by decide +kernel
theorem slash_eq : ("/" : Str) = ⟨#[47]⟩ := ext_tl tl_slash
theorem dflt_cut {l a b : List Nat} (e : l = a ++ 47 :: b) (hb : 47 ∉ b) : dflt l = if a = [] then [47] else a := by
  unfold dflt
  have : (sp1 47 l).dropLast = sp1 47 a := by
    rw [e, sp1_app, sp1_of_free hb, List.dropLast_concat]
  rw [this, joinL_sp1]
theorem pathB_len {x : Str} (h : pathB (tl x) = true) : x.length ≤ 200 := by
  unfold pathB at h
  rw [Bool.and_eq_true, decide_eq_true_eq] at h
  rw [len_tl]; exact h.1
theorem pathB_head {x : Str} (h : pathB (tl x) = true) : ∃ r, tl x = 47 :: r := by
  unfold pathB at h
  rw [Bool.and_eq_true, Bool.and_eq_true, List.isPrefixOf_iff_prefix] at h
  obtain ⟨r, e⟩ := h.2.1
  exact ⟨r, e.symm⟩
/-- the signs a, b, the dot and the slash -/
def sgn4 (z : Str) : Bool := (tl z).all fun c => c == 47 || c == 97 || c == 98 || c == 46
def PathQ (m : Nat) (x : Str) : Prop := (∃ r, tl x = 47 :: r) ∧ sgn4 x = true ∧ x.length ≤ m
theorem sgn4_app {x y : Str} (h1 : sgn4 x = true) (h2 : sgn4 y = true) : sgn4 (x ++ y) = true := by
  unfold sgn4 at *
  rw [tl_append, List.all_append, h1, h2]; rfl
theorem PathQ.app {m k : Nat} {x y : Str} (h : PathQ m x) (h2 : sgn4 y = true) (h3 : y.length ≤ k) : PathQ (m + k) (x ++ y) := by
  obtain ⟨⟨r, e⟩, h1, h4⟩ := h
  refine ⟨⟨r ++ tl y, by rw [tl_append, e]; rfl⟩, sgn4_app h1 h2, ?_⟩
  rw [Str.length_append]; omega
theorem PathQ.more {m k : Nat} {x : Str} (h : PathQ m x) (e : m ≤ k) : PathQ k x := ⟨h.1, h.2.1, Nat.le_trans h.2.2 e⟩
theorem PathQ.path {m : Nat} {x : Str} (h : PathQ m x) (e : m ≤ 200) : pathB (tl x) = true := by
  obtain ⟨⟨r, e1⟩, h2, h3⟩ := h
  unfold pathB
  rw [decide_eq_true (by rw [len_tl] at h3; omega), Bool.true_and]
  have a : [47].isPrefixOf (tl x) = true := List.isPrefixOf_iff_prefix.mpr ⟨r, e1.symm⟩
  rw [a, Bool.true_and, List.all_eq_true]
  intro s hs
  unfold sgn4 at h2
  rw [List.all_eq_true] at h2
  have := h2 s hs
  simp only [Bool.or_eq_true, beq_iff_eq] at this
  rcases this with ((rfl | rfl) | rfl) | rfl <;> decide
/-- the default path: a part of it -/
theorem dflt_cases {l r : List Nat} (e : l = 47 :: r) : ∃ a b, l = a ++ 47 :: b ∧ 47 ∉ b ∧ ((a = [] ∧ dflt l = [47]) ∨ (a ≠ [] ∧ dflt l = a)) := by
  obtain ⟨a, b, e2, hb⟩ := last_cut (c := 47) (l := l) (by rw [e]; exact List.mem_cons_self ..)
  refine ⟨a, b, e2, hb, ?_⟩
  by_cases ha : a = []
  · exact .inl ⟨ha, by rw [dflt_cut e2 hb, if_pos ha]⟩
  · exact .inr ⟨ha, by rw [dflt_cut e2 hb, if_neg ha]⟩
theorem dflt_head {l r : List Nat} (e : l = 47 :: r) : ∃ r2, dflt l = 47 :: r2 := by
  obtain ⟨a, b, e2, hb, (⟨ha, h⟩ | ⟨ha, h⟩)⟩ := dflt_cases e
  · exact ⟨[], h⟩
  · rw [h]
    obtain ⟨x, a2, rfl⟩ := List.exists_cons_of_ne_nil ha
    rw [e] at e2
    simp only [List.cons_append, List.cons.injEq] at e2
    exact ⟨a2, by rw [← e2.1]⟩
theorem dflt_sub {l r : List Nat} (e : l = 47 :: r) : (dflt l).length ≤ l.length ∧ ∀ c ∈ dflt l, c ∈ l := by
  obtain ⟨a, b, e2, hb, (⟨ha, h⟩ | ⟨ha, h⟩)⟩ := dflt_cases e
  · rw [h, e]
    exact ⟨by simp, fun c hc => by rw [List.mem_singleton.mp hc]; exact List.mem_cons_self ..⟩
  · rw [h, e2]
    exact ⟨by simp, fun c hc => List.mem_append_left _ hc⟩
theorem dflt_less {l r : List Nat} (e : l = 47 :: r) (h0 : l ≠ [47]) : (dflt l).length < l.length := by
  obtain ⟨a, b, e2, hb, (⟨ha, h⟩ | ⟨ha, h⟩)⟩ := dflt_cases e
  · rw [h, e2, ha]
    cases b with
    | nil => exact absurd (by rw [e2, ha]; rfl) h0
    | cons x b => simp
  · rw [h, e2]; simp
theorem PathQ.dflt {m : Nat} {x y : Str} (h : PathQ m x) (e : tl y = dflt (tl x)) : PathQ m y := by
  obtain ⟨⟨r, e1⟩, h2, h3⟩ := h
  obtain ⟨h4, h5⟩ := dflt_sub e1
  obtain ⟨r2, e2⟩ := dflt_head e1
  refine ⟨⟨r2, by rw [e, e2]⟩, ?_, ?_⟩
  · unfold sgn4 at *
    rw [List.all_eq_true] at *
    intro c hc
    rw [e] at hc
    exact h2 c (h5 c hc)
  · rw [len_tl, e]
    rw [len_tl] at h3
    omega
/-! ### to fit is an order -/
theorem pf_iff {p q : List Nat} : pfB p q = true ↔ p = q ∨ (q <+: p ∧ ((∃ r, q = r ++ [47]) ∨ p[q.length]? = some 47)) := by
  unfold pfB
  rw [Bool.or_eq_true, Bool.and_eq_true, Bool.or_eq_true, decide_eq_true_eq, List.isPrefixOf_iff_prefix, List.isSuffixOf_iff_suffix, beq_iff_eq]
  constructor
  · rintro (h | ⟨h, (⟨r, e⟩ | h2)⟩)
    · exact .inl h
    · exact .inr ⟨h, .inl ⟨r, e.symm⟩⟩
    · exact .inr ⟨h, .inr h2⟩
  · rintro (h | ⟨h, (⟨r, e⟩ | h2)⟩)
    · exact .inl h
    · exact .inr ⟨h, .inl ⟨r, e.symm⟩⟩
    · exact .inr ⟨h, .inr h2⟩
theorem pf_self (p : List Nat) : pfB p p = true := pf_iff.mpr (.inl rfl)
theorem pf_slash {p r : List Nat} (e : p = 47 :: r) : pfB p [47] = true := pf_iff.mpr (.inr ⟨⟨r, e.symm⟩, .inl ⟨[], rfl⟩⟩)
theorem pf_pre {p q : List Nat} (h : pfB p q = true) : q <+: p := by
  rcases pf_iff.mp h with rfl | h
  · exact List.prefix_refl _
  · exact h.1
theorem pf_anti {p q : List Nat} (h : pfB p q = true) (k : pfB q p = true) : p = q := by
  have a := pf_pre h
  have b := pf_pre k
  exact b.eq_of_length (Nat.le_antisymm b.length_le a.length_le)
theorem pre_at {p q : List Nat} (h : q <+: p) {i : Nat} (hi : i < q.length) : p[i]? = q[i]? := by
  obtain ⟨r, rfl⟩ := h
  rw [List.getElem?_append_left hi]
theorem pf_trans {p q r : List Nat} (h : pfB p q = true) (k : pfB q r = true) : pfB p r = true := by
  rcases pf_iff.mp k with rfl | ⟨k1, k2⟩
  · exact h
  have a := pf_pre h
  refine pf_iff.mpr (.inr ⟨k1.trans a, ?_⟩)
  rcases k2 with k2 | k2
  · exact .inl k2
  · have : r.length < q.length := by
      have := (List.getElem?_eq_some_iff.mp k2).1
      exact this
    exact .inr (by rw [pre_at a this]; exact k2)
theorem pf_comp {p q r : List Nat} (h : pfB p q = true) (k : pfB p r = true) (hl : q.length ≤ r.length) : pfB r q = true := by
  have a := pf_pre h
  have b := pf_pre k
  have c : q <+: r := List.prefix_of_prefix_length_le a b hl
  rcases Nat.lt_or_ge q.length r.length with g | g
  · rcases pf_iff.mp h with rfl | ⟨_, h2⟩
    · have := b.length_le
      omega
    · refine pf_iff.mpr (.inr ⟨c, ?_⟩)
      rcases h2 with h2 | h2
      · exact .inl h2
      · exact .inr (by rw [← pre_at b g]; exact h2)
  · exact pf_iff.mpr (.inl (c.eq_of_length (Nat.le_antisymm hl g)).symm)
theorem pf_dflt {p r : List Nat} (e : p = 47 :: r) : pfB p (dflt p) = true := by
  obtain ⟨a, b, e2, hb, (⟨ha, h⟩ | ⟨ha, h⟩)⟩ := dflt_cases e
  · rw [h]; exact pf_slash e
  · rw [h]
    exact pf_iff.mpr (.inr ⟨⟨47 :: b, e2.symm⟩, .inr (by rw [e2]; simp)⟩)
end Kb

namespace Kb
open PySem PySem.Spec PyProof.Rows L2
/-! ### own errors with one field -/
def spInit (K : PySem.W.Frag) (C : Addr) (f : Str) : Sp := fun vs H Q _ => ∃ (a : Addr) (v : V), vs = [.ref a, v] ∧ H a = some (exo a C none) ∧ OexC K C ∧ PySem.W.findIn K (.ref C) f = some none ∧
  ∀ dx, H dx = none → dx ≠ a → Q .non (L2.upd (L2.upd H dx (exd dx [(f, v)])) a (exo a C (some dx)))
/-- what the top has written of such a class -/
structure Err (K : PySem.W.Frag) (mg : Str → Option Value) (cn f : Str) (C : Addr) : Prop where
  T : OexC K C
  X : XfC K C
  g : mg cn = some (.ref C)
  no : PySem.W.findIn K (.ref C) f = some none
  te : PySem.W.exmOne K (.ref C) (.ref C) = some true
  ini : ∃ (fI : Addr) (fd : FuncData), PySem.W.findIn K (.ref C) "__init__" = some (some (.ref fI)) ∧ PySem.W.typeIn K (.ref fI) = some (.type "function") ∧ Binds K fd ["self", f] [] ∧
    ∀ (P : Program) (w : World) (base : Heap), FnOk P w K mg base CX0 1 fI fd ["self", f] (spInit K C f)
/-- C(e) -/
def tErr (C : Addr) (f : Str) (ta : TA) : L2.St → Hp → XK → Prop := fun σ H Q => ta σ H fun vs H1 => ∃ v, vs = [v] ∧ ∀ d, H1 d = none → Q (.ref C) (some d) (L2.upd H1 d (.xd [(f, v)]))
def taMono (t : TA) : TA := fun σ H Q => ∃ Q0 : List V → Hp → Prop, t σ H Q0 ∧ ∀ x H1, Q0 x H1 → Q x H1
theorem pa_mono {X : Cx} {es : List Expr} {t : TA} (h : PA X es t) : PA X es (taMono t) :=
  ⟨fun pos pins s σ H Q I ⟨Q0, h0, m⟩ => thn (h.run pos pins s σ H Q0 I h0) fun us s1 ⟨vs, H1, I1, r1, q1⟩ => ⟨vs, H1, I1, r1, m _ _ q1⟩⟩
theorem upd_del {H : Hp} {a d : Addr} {o1 o2 o3 o4 : HO} (ha : H a = none) (hd : d ≠ a) : L2.upd (del (L2.upd (L2.upd (L2.upd H a o1) d o2) a o3) a) d o4 = L2.upd H d o4 := by
  funext b
  by_cases h1 : b = d
  · subst h1; rw [upd_same, upd_same]
  · rw [upd_ne h1, upd_ne h1]
    by_cases h2 : b = a
    · subst h2; rw [del_same, ha]
    · rw [del_ne h2, upd_ne h2, upd_ne h1, upd_ne h2]
section
variable {X : Cx}
theorem pmk_err {cn f : Str} {C : Addr} {e : Expr} {ta : TA} {p pos : Pos} {k : Nat} (T : Err X.K X.mg cn f C) (hr : Room k X.A) (hk : 2 ≤ k) (hx : Passes CX0 X (fun _ _ _ => False)) (ha : PA X [e] ta) (hg : Gl X cn)
    (hdb : (cn == ("__debug__" : Str)) = false := by decide) (he : starEach (e :: []) X.env = (false, eval e X.env) :: starEach [] X.env := by rfl) (hpl : (backTo pos (starEach [] X.env)).any (·.1) = false := by rfl) :
    PMk X (.Call (.Name cn p) [e] [] pos) (tErr C f ta) := by
  intro pins s σ H Q I h
  obtain ⟨fI, fd, iC, tI, hb, F⟩ := T.ini
  refine pmk_oex (dvs := []) (ds := []) T.T iC tI (F X.prog X.w X.base) (hr.mono hk) hb .nil hx hg T.g (pa_mono ha) hdb he hpl pins s σ H Q I ?_
  refine ⟨_, h, ?_⟩
  rintro vs H1 ⟨v, rfl, hq⟩
  refine ⟨by show 1 ≤ 1000; decide, fun a hn => ⟨a, v, rfl, upd_same, T.T, T.no, fun dx hdx hne => ⟨rfl, dx, [(f, v)], upd_same, ?_, ?_, ?_⟩⟩⟩
  · rw [upd_ne hne, upd_same]
  · rw [upd_ne hne] at hdx; exact hdx
  · rw [upd_ne hne] at hdx
    rw [upd_del hn hne]
    exact hq dx hdx
/-- raise C(e) -/
def tRaise (C : Addr) (f : Str) (W : WX) (ta : TA) : TS := fun _ σ H => tErr C f ta σ H fun cls d H' => W cls d σ H'
theorem ps_raiseE {cn f : Str} {C : Addr} {e : Expr} {ta : TA} {W : WX} {p pos pos2 : Pos} {k : Nat} (hc : X.calm = true) (T : Err X.K X.mg cn f C) (hr : Room k X.A) (hk : 2 ≤ k) (hx : Passes CX0 X (fun _ _ _ => False)) (tk : Takes X W) (ha : PA X [e] ta) (hg : Gl X cn)
    (hdb : (cn == ("__debug__" : Str)) = false := by decide) (he : starEach (e :: []) X.env = (false, eval e X.env) :: starEach [] X.env := by rfl) (hpl : (backTo pos (starEach [] X.env)).any (·.1) = false := by rfl) :
    PS X (.Raise (some (.Call (.Name cn p) [e] [] pos)) none pos2) (tRaise C f W ta) := ps_raise hc tk (pmk_err T hr hk hx ha hg hdb he hpl)
theorem pe_cX {W : WX} {j k : Nat} {x : Str} {ps : List Str} {sp : Sp} {p pos : Pos} {e : Expr} {es : List Expr} {t : TA} (c : Cal X.prog X.w X.K X.mg X.base (L2.CX X.prog X.w) j x ps sp) (hr : Room k X.A) (hjk : j ≤ k) (hg : Gl X x) (tk : Takes X W)
    (ha : PA X (e :: es) t) (hdb : (x == ("__debug__" : Str)) = false := by decide) (he : starEach (e :: es) X.env = (false, eval e X.env) :: starEach es X.env := by rfl) (hpl : (backTo pos (starEach es X.env)).any (·.1) = false := by rfl) :
    PE X (.Call (.Name x p) (e :: es) [] pos) (tCallS sp (WE W) t) := by
  obtain ⟨f, fd, F, m, kp, b⟩ := c
  exact pe_callS F (hr.mono hjk) hg m kp b (fun σ => passAt tk σ) ha hdb he hpl
end
section
variable {P : Program} {w : World} {K : PySem.W.Frag} {mg : Str → Option Value} {base : Heap}
theorem Df.okX {x : Str} {st : Stmt} {N ps : List Str} {k : Nat} {sp : Sp} (D : Df K mg x st ps) (S : FnScope N ps (defScope st)) (len : ∀ vs H Q E, sp vs H Q E → vs.length = ps.length)
    (hbody : ∀ (f : Addr) (cdv : Value) (A : Around) (outer : List Env) (s : Shared) (H : Hp) (vs : List V) (Q : VK) (E : XK), Room k (A.deeper (envOfC x (defScope st) s.heap.objs.size f cdv)) → sp vs H Q E →
      ∃ t, PSs (cxOf (L2.CX P w) P w K mg base N x (defScope st) f cdv A outer s H E) (defBody st) t ∧ t { nx := fun _ H' => Q .non H', rt := Q } (start N vs) H) : Cal P w K mg base (L2.CX P w) (k + 1) x ps sp := by
  obtain ⟨f, fd, F, m, b⟩ := D
  exact ⟨f, fd, F.okX S len (hbody f), m, F.kp, .all b⟩
end
/-! ### such a class, from the written part -/
theorem exm_own {K : PySem.W.Frag} {S : Addr} (h1 : PySem.W.subIn K (.ref S) (.type "BaseException") = some true) (h2 : PySem.W.isClsIn K S = true) (h3 : PySem.W.typeIn K (.ref S) = some (.type "type")) (h4 : PySem.W.subIn K (.ref S) (.ref S) = some true) :
    PySem.W.exmOne K (.ref S) (.ref S) = some true := by
  unfold PySem.W.isClsIn at h2
  unfold PySem.W.exmOne
  simp only [h1, h2, h3, h4]
  unfold PySem.W.kitCls
  simp [h2, h3, h4]
theorem Err.mk' {K : PySem.W.Frag} {mg : Str → Option Value} {h : Heap} {cn f q0 : Str} {C fI : Addr} {st : Stmt} {nm q : Str} {N : Addr} {bs bm : List Value} {sn : List Str} {sub : List Value} {ab : Bool} {col : Option Bool} {dd : Option Addr} {m0 m1 m2 m3 m5 : Option Value}
    {oc : Value} {od an : Option Addr} {sl : Array (Option Value)} {kV doc pm cd ct : Value} (X : K.In h) (G : h.Ns PySem.mainGlobals mg)
    (b : ∀ (kV doc pm : Value) (an : Option Addr) (cdv ct : Value) (us : List Value), us.length = (["self", f] : List Str).length → bindArgs (PySem.W.fnOf "__init__" q0 (defArgs st) (defBody st) (defScope st) .none kV doc pm an cdv ct) ⟨us, []⟩ = pure ((["self", f] : List Str).zip us))
    (ok : ∀ {fI : Addr} {fd : FuncData} (P : Program) (w : World) (base : Heap), Fun K "__init__" q0 st fI fd → FnOk P w K mg base CX0 1 fI fd ["self", f] (spInit K C f))
    (aC : PySem.W.nsIn K PySem.mainGlobals cn = some (some (.ref C)))
    (xL : K.lookup C = some (excClassObj nm q C N bs bm true sn sub ab col dd m0 m1 m2 m3 m5 "ValueError.__new__")) (rv : PySem.HandSPX.refsVE bm = true)
    (sa : PySem.W.findIn K (.ref C) "__setattr__" = some (some (.builtin "object.__setattr__"))) (ga : PySem.W.findIn K (.ref C) "__getattribute__" = some (some (.builtin "BaseException.__getattribute__"))) (gg : PySem.W.findIn K (.ref C) "__getattr__" = some none) (nb : PySem.W.findIn K (.ref C) f = some none)
    (a1 : PySem.W.findIn K (.ref C) "__init__" = some (some (.ref fI))) (t1 : PySem.W.typeIn K (.ref fI) = some (.type "function"))
    (l1 : K.lookup fI = some ⟨oc, od, .func (PySem.W.fnOf "__init__" q0 (defArgs st) (defBody st) (defScope st) .none kV doc pm an cd ct), sl⟩) (c1 : PySem.W.codeIn K cd q0 = true) (k1 : PySem.W.keepIn K (.ref fI) = true)
    (kC : PySem.W.keepIn K (.ref C) = true) (eC : PySem.W.subIn K (.ref C) (.type "BaseException") = some true) (tC : PySem.W.typeIn K (.ref C) = some (.type "type")) (hC : PySem.W.hasDictIn K C = true) (iC : PySem.W.isClsIn K C = true) (sC : PySem.W.subIn K (.ref C) (.ref C) = some true) : Err K mg cn f C where
  T := ⟨⟨nm, q, N, bs, bm, sn, sub, ab, col, dd, m0, m1, m2, m3, m5, xL, rv⟩, sa, eC, tC, kC⟩
  X := ⟨ga, gg, eC, hC⟩
  g := PySem.W.mg_of X G aC
  no := nb
  te := exm_own eC iC tC sC
  ini := ⟨fI, _, a1, t1, .all (b kV doc pm an cd ct), fun P w base => ok P w base (fun_mk l1 c1 k1)⟩
end Kb
namespace Kb
open PySem PySem.Spec PyProof.Rows L2
/-- nothing is let out -/
theorem passF {P : Program} {w : World} {X : Cx} : Passes (L2.CX P w) X (fun _ _ _ => False) := fun _ _ _ _ _ _ _ h => by
  obtain ⟨_, _, _, _, _, _, _, _, _, _, _, _, q⟩ := h
  exact q.elim
end Kb
namespace Kb
open PySem PySem.Spec PyProof.Rows L2
/-- a tuple of the written part -/
theorem sqT_of_lookup {K : PySem.W.Frag} {a : Addr} {dd : Option Addr} {its : Array Value} {n : Nat} {sl : Array (Option Value)} {xs : List V} (l : K.lookup a = some ⟨.type "tuple", dd, .seq its n, sl⟩) (z : its.size ≤ sizeLine) (v : Vals xs its.toList) : ∀ H : Hp, SqT K H a xs :=
  fun _ => .inr ⟨_, its, n, l, rfl, rfl, z, v⟩
theorem pe_gt {X : Cx} {x : Str} {pos : Pos} {a : Addr} (hg : Gl X x) (h : X.mg x = some (.ref a)) (hd : (x == ("__debug__" : Str)) = false := by decide) : PE X (.Name x pos) (tC (.ref a)) := pe_glob hg h rfl hd
end Kb

namespace Kb
open PySem PySem.Spec PyProof.Rows L2
/-! ### defs that are called while no repr is under way -/
structure FnG (P : Program) (w : World) (K : PySem.W.Frag) (mg : Str → Option Value) (base : Heap) (CX : CXT) (k : Nat) (f : Addr) (fd : FuncData) (ps : List Str) (sp : Sp) : Prop where
  len : ∀ vs H Q E, sp vs H Q E → vs.length = ps.length
  run : ∀ (A : Around) (outer : List Env) (s : Shared) (H : Hp) (args : Args) (us : List Value) (vs : List V) (Q : VK) (E : XK), A.guards = some [] → Room k A → Env0 P w K mg base A outer s H → BindsTo s fd args (ps.zip us) → Vals vs us → sp vs H Q E →
    codeAny (model P w) A (.call (.ref f) args) (CR CX outer P w H s Q E) s
section
variable {P : Program} {w : World} {K : PySem.W.Frag} {mg : Str → Option Value} {base : Heap} {CX : CXT}
theorem FnG.mono {j k : Nat} {f : Addr} {fd : FuncData} {ps : List Str} {sp : Sp} (F : FnG P w K mg base CX j f fd ps sp) (h : j ≤ k) : FnG P w K mg base CX k f fd ps sp :=
  ⟨F.len, fun A outer s H args us vs Q E hg hr => F.run A outer s H args us vs Q E hg (hr.mono h)⟩
theorem fnG_of {k : Nat} {f : Addr} {x qual : Str} {st : Stmt} {fd : FuncData} {N ps : List Str} {sp : Sp} (F : Fun K x qual st f fd) (S : FnScope N ps (defScope st)) (len : ∀ vs H Q E, sp vs H Q E → vs.length = ps.length)
    (hbody : ∀ (cdv : Value) (A : Around) (outer : List Env) (s : Shared) (H : Hp) (vs : List V) (Q : VK) (E : XK), A.guards = some [] → Room k (A.deeper (envOfC qual (defScope st) s.heap.objs.size f cdv)) → sp vs H Q E →
      ∃ t, PSs (cxOf CX P w K mg base N qual (defScope st) f cdv A outer s H E) (defBody st) t ∧ t { nx := fun _ H' => Q .non H', rt := Q } (start N vs) H) : FnG P w K mg base CX (k + 1) f fd ps sp := by
  obtain ⟨oc, od, kV, doc, pm, an, cdv, ct, osl, rfl, lk, hcd⟩ := F.ex
  refine ⟨len, fun A outer s H args us vs Q E hgd hr e0 hb r hsp => ?_⟩
  have KX : K.In s.heap := e0.mod.kin.keeps fun b o e => (e0.bs b o e).1
  have hkind : ∀ y ∈ ps.zip us, (defScope st).names.lookup y.1 = some .local ∨ ((defScope st).names.lookup y.1 = some .cell ∧ ((cellsFrom (s.heap.objs.size + 1) (defScope st).names []).lookup y.1).isSome = true) := fun ⟨n, v⟩ hy =>
    (S.par n (List.of_mem_zip hy).1).elim .inl fun q => .inr ⟨q, PySem.W.cellsFrom_some _ _ _ (.inl q)⟩
  refine codeAny_call_function hr.depth (KX _ _ lk) rfl S.co S.gen rfl (PySem.W.codeRec_of KX hcd) (hb _ _ _ _ (wpAny_newFunctionEnv_cells S.kind hkind fun env he s1 x => ?_))
  subst he
  refine ⟨(e0.mod.nolimit.keeps fun b o e => (e0.bs b o e).1).keeps x.toInCall.keep, codeAny_func ?_⟩
  obtain ⟨t, ht, hq⟩ := hbody cdv A outer s H vs Q E hgd (hr.deeper _) hsp
  refine wpAny_mono (ht.run [] s1 (start N vs) H _ (inv_start S hr.hd e0 (len _ _ _ _ hsp) r x) hq) (fun fl s' hs => ?_) fun e s' hs => hs
  cases fl with
  | ret u => obtain ⟨v, σ', H', J, rv, q⟩ := hs; exact ⟨v, H', J.os, J.bare, J.base, J.hok, rv, q⟩
  | next => obtain ⟨σ', H', J, q⟩ := hs; exact ⟨V.non, H', J.os, J.bare, J.base, J.hok, rfl, q⟩
  | brk => obtain ⟨_, _, _, q⟩ := hs; exact q.elim
  | cont => obtain ⟨_, _, _, q⟩ := hs; exact q.elim
end
/-! ### repr -/
section
variable {X : Cx}
/-- repr of what is no dict -/
def rRepr (K : PySem.W.Frag) : List V → Hp → VK → Prop := fun xs H Q => ∃ x d, xs = [x] ∧ Dp K H x d ∧ d.showable = true ∧ d.hasDict = false ∧ d.shown.length ≤ sizeLine ∧ d.depth ≤ 64 ∧ Q (.str d.shown) H
theorem call_reprD (hu : X.A.units + 65 < cLine) (hg : X.A.guards = some []) : CallR X (.builtin "repr") (rRepr X.K) := by
  intro pins s σ H xs us Q I r h
  obtain ⟨x, d, rfl, hd, hs, hn, hz, hp, q⟩ := h
  obtain ⟨u, rfl, r1⟩ := vals1 r
  obtain ⟨as, rd⟩ := Dp.reads I d x u hd r1
  have ref : ∀ a : Addr, u = .ref a → wpAny (model X.prog X.w) X.A (call (Value.builtin "repr") [u]) (EP X pins σ Q) X.xe s := fun a e => by
    subst e
    exact repr_of_reads' rd hs (fun q => by rw [hn] at q; cases q) hg (by omega) (fun _ _ e => e) (fun h' t tk k => ⟨.str d.shown, H, I.kept (t' := tk) k, ⟨t, rfl⟩, q⟩) hz
  cases rd with
  | none => simp only [PyData.shown] at q; exact PySem.P.repr_of_none ⟨.str "None", H, I.tok _, ⟨_, rfl⟩, q⟩
  | bool b => simp only [PyData.shown] at q; exact PySem.P.repr_of_bool ⟨.str (if b then "True" else "False"), H, I.tok _, ⟨_, rfl⟩, q⟩
  | int i t => simp only [PyData.shown] at q; exact PySem.P.repr_of_int (by simpa [PyData.showable] using hs) ⟨.str (toString i), H, I.tok _, ⟨_, rfl⟩, q⟩
  | str y t => simp only [PyData.shown] at q; exact PySem.P.repr_of_str ⟨.str (reprText y), H, I.tok _, ⟨_, rfl⟩, q⟩ (by simpa only [PyData.shown] using hz)
  | list h1 h2 h3 h4 => exact ref _ rfl
  | tuple h1 h2 h3 h4 => exact ref _ rfl
  | dict h1 h2 h3 h4 h5 => exact ref _ rfl
end
end Kb
namespace Kb
open PySem PySem.Spec PyProof.Rows L2
/-! ### the law's call, by such a promise: nothing but the script is tracked -/
theorem law_callG {P : Program} {w : World} {K : PySem.W.Frag} {mg mb : Str → Option Value} {CX : CXT} {k : Nat} {fa a : Addr} {fd : FuncData} {x : Str} {sp : Sp} {s₁ : Shared} {vs : List Value} {ns : List Int}
    (KX : K.In s₁.heap) (hns : s₁.heap.Ns PySem.mainGlobals mg) (hb : s₁.heap.Ns builtinsNs mb) (hbb : ∀ x : Str, x ≠ "__name__" → mb x = bootBuiltins x) (hlim : s₁.heap.NoLimit) (hg : s₁.gens = #[])
    (ha : s₁.heap.get? a = some { cls := .type "list", data := .seq vs.toArray }) (hi : IntsAre vs ns) (hl : ns.length ≤ sizeLine) (hr : Room k callerA)
    (F : ∀ base : Heap, K.In base → base.Ns PySem.mainGlobals mg → FnG P w K mg base CX k fa fd [x] sp) (hbind : ∀ (s : Shared) (u : Value), BindsTo s fd ⟨[u], []⟩ [(x, u)])
    (hsp : ∀ H : Hp, Only H → SqL K H a (ns.map V.int) → sp [.ref a] H (fun v _ => v = .bl true) fun _ _ _ => False)
    (hCX : ∀ H e s', CX [] H s₁ (fun _ _ _ => False) e s' → False) :
    codeAny (model P w) callerA (.call (.ref fa) ⟨[.ref a], []⟩) (fun r s' => r = .ok (.ret (.bool true)) ∧ OldK s₁.heap s'.heap ∧ s'.os = s₁.os ∧ AllBare s'.gens) s₁ := by
  have rv := vals_ints hi
  have core : ∀ H : Hp, Only H → SqL K H a (ns.map V.int) → HOk P w H s₁.heap → (∀ b, H b ≠ none → b = a) → (H a ≠ none → K.lookup a = none) →
      codeAny (model P w) callerA (.call (.ref fa) ⟨[.ref a], []⟩) (fun r s' => r = .ok (.ret (.bool true)) ∧ OldK s₁.heap s'.heap ∧ s'.os = s₁.os ∧ AllBare s'.gens) s₁ := by
    intro H hO hS hok hA hK
    have one : ∀ b, b ≠ a → H b = none := fun b n => Classical.byContradiction fun q => n (hA b q)
    have dicts : ∀ {b : Addr} {o : Obj} {es : Array DictEntry} {ep : Nat}, s₁.heap.get? b = some o → o.data = .dict es ep → b ≠ a := fun {b o es ep} e d q => by
      subst q
      rw [ha] at e
      cases e
      cases (show Data.seq vs.toArray _ = Data.dict es ep from d)
    have spaces : ∀ {b : Addr} {m : Str → Option Value}, s₁.heap.Ns b m → (hidT s₁.heap H).Ns b m := fun ⟨o, es, ep, e, d, r⟩ => ⟨o, es, ep, hidT_get e (one _ (dicts e d)), d, r⟩
    have kin : K.In (hidT s₁.heap H) := fun b o e => hidT_get (KX b o e) (Classical.byContradiction fun q => by
      have e2 : b = a := hA b q
      subst e2
      rw [hK q] at e
      cases e)
    obtain ⟨mc, l1, l2⟩ := hlim
    refine codeAny_mono ((F _ kin (spaces hns)).run callerA [] s₁ H ⟨[.ref a], []⟩ [.ref a] [.ref a] _ _ rfl hr
      ⟨rfl, ⟨kin, spaces hns, ⟨mb, spaces hb, hbb⟩, ⟨mc, spaces l1, l2⟩⟩, fun b o e => of_hidT e, Nat.le_of_eq (hidT_size _ _), trivial, fun b hb => absurd (show b ∈ ([] : List Addr) from hb) (by simp), hok, .of_eq hg⟩
      (hbind s₁ (.ref a)) (.cons rfl .nil) (hsp H hO hS)) fun r s' h => ?_
    match r, h with
    | .error e, h => exact (hCX H e s' h).elim
    | .ok (.ret u), ⟨v, H', os, bare, un, hok', r', q⟩ =>
      cases (show v = .bl true from q)
      cases (show u = Value.bool true from r')
      refine ⟨rfl, OldK.of_keep fun b o e => ?_, os, bare⟩
      rcases hO b with z | ⟨ob, xs, z⟩
      · exact un.keep b o e z (fun y => absurd (show b ∈ ([] : List Addr) from y) (by simp)) (by simp)
      · obtain ⟨e1, _⟩ := hok b _ z
        obtain ⟨e2, _⟩ := hok' b _ (un.frzs b ob _ z)
        rw [e] at e1
        cases e1
        exact e2
  cases hk : K.lookup a with
  | some o =>
    have e := KX a o hk
    rw [ha] at e
    cases e
    exact core (fun _ => none) (fun _ => .inl rfl) (.inr ⟨_, vs.toArray, _, hk, rfl, rfl, rfl, by rw [List.size_toArray, hi.length]; exact hl, by simpa using rv⟩) (fun b u z => nomatch (show (none : Option HO) = some u from z)) (fun b z => absurd rfl z) fun z => absurd rfl z
  | none =>
    have at' : ∀ b, b ≠ a → (if b = a then some (HO.frz { cls := .type "list", data := .seq vs.toArray } (.lst (ns.map V.int))) else none) = none := fun b n => if_neg n
    refine core (fun b => if b = a then some (.frz { cls := .type "list", data := .seq vs.toArray } (.lst (ns.map V.int))) else none) (fun b => ?_) (.inl (.inr ⟨{ cls := .type "list", data := .seq vs.toArray }, if_pos rfl⟩)) (fun b u z => ?_) (fun b z => Classical.byContradiction fun n => z (at' b n)) fun _ => hk
    · by_cases hb : b = a
      · exact .inr ⟨_, _, if_pos hb⟩
      · exact .inl (at' b hb)
    · by_cases hb : b = a
      · subst hb
        cases (if_pos rfl).symm.trans z
        exact ⟨ha, by rw [List.length_map]; exact hl, vs, _, rv, ha⟩
      · cases (at' b hb).symm.trans z
theorem walkG {l : PySem.W.OpenLaw} {n k : Nat} {q : Program} {loose : List Str} {XP : (Str → Option Value) → Heap → Prop} {YP : World → Heap → Prop} {d : DefRec} {K : Params → PySem.W.Frag} {CX : World → CXT} {sp : World → Sp} {x : Str}
    (hn : l.most = some n) (hn2 : n ≤ sizeLine) (hdf : d.params.defaults = []) (hr : Room k callerA) (hY : ∀ (w : World) (h : Heap), YP w h → (K w.params).In h)
    (F : ∀ (w : World) (mg : Str → Option Value) (fa : Addr) (h : Heap), (K w.params).In h → h.Ns PySem.mainGlobals mg → mg d.name = some (.ref fa) →
      ∃ fd : FuncData, (∀ (s : Shared) (u : Value), BindsTo s fd ⟨[u], []⟩ [(x, u)]) ∧
        ∀ base : Heap, (K w.params).In base → base.Ns PySem.mainGlobals mg → FnG l.prog w (K w.params) mg base (CX w) k fa fd [x] (sp w))
    (hsp : ∀ (w : World) (H : Hp) (a : Addr) (ns : List Int), ns.length ≤ n → Only H → SqL (K w.params) H a (ns.map V.int) → sp w [.ref a] H (fun v _ => v = .bl true) fun _ _ _ => False)
    (hCX : ∀ (w : World) (H : Hp) (s : Shared) (e : Value) (s' : Shared), CX w [] H s (fun _ _ _ => False) e s' → False) :
    PySem.W.WalkO q loose XP YP l.row.toRowW d [] (fun f vs => PySem.call f vs) := by
  refine Att.attach_call hn hdf fun w s₀ s₁ mg mb fa o pm cd doc a vs ns G Y ho hd hcd hmg hobj hints hlen hg => ?_
  have KX := hY w _ Y
  obtain ⟨fd, hb, hF⟩ := F w mg fa _ KX G.T.g hmg
  exact law_callG KX G.T.g G.T.b G.T.builtins G.T.nolimit hg hobj hints (Nat.le_trans hlen hn2) hr hF hb (fun H hO hS => hsp w H a ns hlen hO hS) fun H e s' => hCX w H s₁ e s'
end Kb
namespace Kb
open PySem PySem.Spec PyProof.Rows L2
theorem repr_u {k : Nat} {A : Around} (hr : Room k A) : A.units + 65 < cLine := by have := hr.un; omega
theorem Fun.okG {P : Program} {w : World} {K : PySem.W.Frag} {mg : Str → Option Value} {base : Heap} {k : Nat} {f : Addr} {x qual : Str} {st : Stmt} {fd : FuncData} {N ps : List Str} {sp : Sp} (F : Fun K x qual st f fd) (S : FnScope N ps (defScope st)) (len : ∀ vs H Q E, sp vs H Q E → vs.length = ps.length)
    (hbody : ∀ (cdv : Value) (A : Around) (outer : List Env) (s : Shared) (H : Hp) (vs : List V) (Q : VK) (E : XK), A.guards = some [] → Room k (A.deeper (envOfC qual (defScope st) s.heap.objs.size f cdv)) → sp vs H Q E →
      ∃ t, PSs (cxOf CX0 P w K mg base N qual (defScope st) f cdv A outer s H E).nox (defBody st) t ∧ t { nx := fun _ H' => Q .non H', rt := Q } (start N vs) H) : FnG P w K mg base CX0 (k + 1) f fd ps sp :=
  fnG_of F S len fun cdv A outer s H vs Q E hg hr h => let ⟨t, a, q⟩ := hbody cdv A outer s H vs Q E hg hr h; ⟨t, a.nox, q⟩
end Kb
namespace Kb
open PySem PySem.Spec PyProof.Rows L2 TL
/-! ### a text times a number -/
def rMulS : R2 := fun x y H Q => ∃ (a : Str) (n : Int), x = .str a ∧ y = .int n ∧ n ≤ 4000 ∧ 0 ≤ n ∧ a.length ≤ 4000 ∧ ∀ z : Str, tl z = (List.replicate n.toNat (tl a)).flatten → Q (.str z) H
theorem foldl_app (c : Array Nat) : ∀ (m : Nat) (acc : Array Nat), ((List.replicate m c).foldl (· ++ ·) acc).toList = acc.toList ++ (List.replicate m c.toList).flatten
  | 0, acc => by simp
  | m + 1, acc => by
    rw [List.replicate_succ, List.foldl_cons, foldl_app c m, List.replicate_succ, List.flatten_cons, Array.toList_append, List.append_assoc]
theorem op_mulS {X : Cx} : OpR X (binaryOp .Mult) rMulS := by
  intro pins s σ H x y v u Q I rx ry h
  obtain ⟨a, n, rfl, rfl, h1, h2, h3, q⟩ := h
  obtain ⟨t, rfl⟩ := rx
  obtain ⟨t2, rfl⟩ := ry
  have hz : a.length * n.toNat ≤ 4000 * 4000 := Nat.mul_le_mul h3 (by omega)
  have hline : sizeLine = 16777216 := sizeLine_eq
  refine PySem.P.mul_str (by rw [decide_eq_false (by omega), decide_eq_false (by omega)]; rfl) (fun h4 _ h5 => ?_) (fun _ _ => ?_) ?_
  · have h6 : (4000 : Int) ≤ (2 ^ 63 - 1) / n := Int.le_ediv_of_mul_le (by omega) (by omega)
    omega
  · unfold Builtin.Str.tooLong
    rw [hline]
    exact decide_eq_false (by omega)
  · by_cases hn : n < 1
    · rw [if_pos hn]
      have e : n = 0 := by omega
      subst e
      exact ⟨by decide, .str Str.empty, H, I.tok _, ⟨_, rfl⟩, q Str.empty rfl⟩
    · rw [if_neg hn]
      by_cases h5 : (n == 1 || a.length == 0) = true
      · rw [if_pos h5]
        refine ⟨.str a, H, I, ⟨_, rfl⟩, q a ?_⟩
        rw [Bool.or_eq_true, beq_iff_eq, beq_iff_eq] at h5
        rcases h5 with rfl | h5
        · simp
        · rw [len_tl] at h5
          rw [List.eq_nil_of_length_eq_zero h5]; simp
      · rw [if_neg h5]
        refine ⟨?_, .str ⟨(List.replicate n.toNat a.cps).foldl (· ++ ·) #[]⟩, H, I.tok _, ⟨_, rfl⟩, q _ ?_⟩
        · rw [hline, len_tl]
          show (((List.replicate n.toNat a.cps).foldl (· ++ ·) #[]).toList).length ≤ _
          rw [foldl_app]
          have : ((List.replicate n.toNat a.cps.toList).flatten).length = n.toNat * a.length := by
            rw [PyProof.Rows.lm_len_rep_flat]; rfl
          simp only [Array.toList_empty, List.nil_append]
          rw [this, Nat.mul_comm]
          omega
        · show (((List.replicate n.toNat a.cps).foldl (· ++ ·) #[]).toList) = _
          rw [foldl_app]
          rfl
end Kb

namespace Kb
open PySem PySem.Spec PyProof.Rows L2 TL
/-! ### texts of plain signs -/
def ascii (x : Str) : Prop := ∀ s ∈ tl x, s < 128
theorem ascii.app {x y : Str} (a : ascii x) (b : ascii y) : ascii (x ++ y) := fun s hs => by
  rw [tl_append] at hs
  rcases List.mem_append.mp hs with q | q
  · exact a s q
  · exact b s q
theorem joinE : ∀ L : List (List Nat), joinL [] L = L.flatten
  | [] => rfl
  | [p] => by simp [joinL]
  | p :: q :: r => by
    show p ++ ([] ++ joinL [] (q :: r)) = _
    rw [joinE (q :: r)]
    rfl
theorem ascii.join {c : Str} {W : List Str} (hc : ascii c) (h : ∀ x ∈ W, ascii x) : ascii (Txt.join c W) := fun s hs => by
  rw [join_tl] at hs
  induction W with
  | nil => simp [joinL] at hs
  | cons p W ih =>
    cases W with
    | nil => exact h p (List.mem_cons_self ..) s (by simpa [joinL] using hs)
    | cons q r =>
      have hs : s ∈ tl p ++ (tl c ++ joinL (tl c) ((q :: r).map tl)) := hs
      rcases List.mem_append.mp hs with g | g
      · exact h p (List.mem_cons_self ..) s g
      · rcases List.mem_append.mp g with g | g
        · exact hc s g
        · exact ih (fun x hx => h x (List.mem_cons_of_mem _ hx)) g
theorem ascii.cut {x : Str} {lo hi : Option Int} (h : ascii x) : ascii (cutS x lo hi) := fun s hs => by
  have hs : s ∈ ((tl x).drop (HT.sIx x.length 0 lo)).take (HT.sIx x.length x.length hi - HT.sIx x.length 0 lo) := hs
  exact h s (List.mem_of_mem_drop (List.mem_of_mem_take hs))
theorem cut_len {x : Str} {lo hi : Option Int} : (cutS x lo hi).length ≤ x.length := by
  rw [len_tl, len_tl]
  show (((tl x).drop (HT.sIx x.length 0 lo)).take (HT.sIx x.length x.length hi - HT.sIx x.length 0 lo)).length ≤ _
  rw [List.length_take, List.length_drop]
  omega
theorem ascii.rep {x y : Str} {n : Nat} (h : ascii x) (e : tl y = (List.replicate n (tl x)).flatten) : ascii y := fun s hs => by
  rw [e, List.mem_flatten] at hs
  obtain ⟨l, hl, hs⟩ := hs
  rw [List.eq_of_mem_replicate hl] at hs
  exact h s hs
theorem ascii.up {x : Str} (h : ascii x) : ascii (Txt.upper x) ∧ (Txt.upper x).length = x.length := by
  have e : tl (Txt.upper x) = (tl x).map up1 := by rw [upper_ascii h]; simp [tl]
  refine ⟨fun s hs => ?_, by rw [len_tl, e, List.length_map, ← len_tl]⟩
  rw [e] at hs
  obtain ⟨c, hc, rfl⟩ := List.mem_map.mp hs
  have : ∀ c, c < 128 → up1 c < 128 := by decide +kernel
  exact this c (h c hc)
theorem lower_tl {x : Str} (h : ascii x) : tl (Txt.lower x) = (tl x).map lo1 := by rw [lower_ascii h]; simp [tl]
theorem ascii.low {x : Str} (h : ascii x) : ascii (Txt.lower x) ∧ (Txt.lower x).length = x.length := by
  refine ⟨fun s hs => ?_, by rw [len_tl, lower_tl h, List.length_map, ← len_tl]⟩
  rw [lower_tl h] at hs
  obtain ⟨c, hc, rfl⟩ := List.mem_map.mp hs
  have : ∀ c, c < 128 → lo1 c < 128 := by decide +kernel
  exact this c (h c hc)
/-- a sign of a written text -/
theorem sign_at {z : Str} {r : Int} (h0 : 0 ≤ r) (h1 : r < (z.length : Int)) (ha : ascii z) : ∃ c : Nat, atI z.cps.toList r = some c ∧ ascii (⟨#[c]⟩ : Str) := by
  obtain ⟨n, rfl⟩ : ∃ n : Nat, r = (n : Int) := ⟨r.toNat, by omega⟩
  have hn : n < (tl z).length := by rw [← len_tl]; omega
  refine ⟨(tl z)[n], atI_nat (List.getElem?_eq_getElem hn), fun s hs => ?_⟩
  have : s = (tl z)[n] := by simpa [tl] using hs
  rw [this]
  exact ha _ (List.getElem_mem hn)
end Kb
namespace Kb
open PySem PySem.Spec PyProof.Rows L2 TL
theorem ends_at {x : Str} (h : 1 ≤ x.length) : ∃ a z : Nat, atI x.cps.toList 0 = some a ∧ atI x.cps.toList (-1) = some z ∧ (tl x).head? = some a ∧ (tl x).getLast? = some z := by
  have hne : tl x ≠ [] := fun e => by rw [len_tl, e] at h; simp at h
  obtain ⟨r, d, er⟩ := snoc_of_ne hne
  obtain ⟨a, r2, ea⟩ : ∃ a r2, tl x = a :: r2 := List.exists_cons_of_ne_nil hne
  refine ⟨a, d, ?_, ?_, by rw [ea]; rfl, by rw [er, List.getLast?_concat]⟩
  · show atI (tl x) ((0 : Nat) : Int) = _; rw [ea]; exact atI_nat rfl
  · show atI (tl x) (-1) = _; rw [er]; exact atI_last r d
theorem ascii_lit {x : Str} (h : (tl x).all (· < 128) = true) : ascii x := fun s hs => by
  have := List.all_eq_true.mp h s hs
  simpa using this
end Kb
namespace Kb
open PySem PySem.Spec PyProof.Rows L2 TL
/-- a comprehension over a text -/
theorem lc_str {z : Str} {g : TG} {tt : TT} {te : TE} {vs : List Nat} {σ : L2.St} {H1 : Hp} {D : Addr} {Qd : Hp → Prop} (Pv : Nat → Hp → Prop) (h0 : Pv 0 (L2.upd H1 D (.lst [])))
    (hs : ∀ i c H, (tl z)[i]? = some c → Pv i H → g (.str ⟨#[c]⟩) (wipe σ vs) H fun σ2 H2 => wipe σ2 vs = wipe σ vs ∧ tt σ2 H2 fun b H3 =>
      if b = true then te σ2 H3 fun y H4 => ∃ acc, H4 D = some (.lst acc) ∧ acc.length < sizeLine ∧ Pv (i + 1) (L2.upd H4 D (.lst (acc ++ [y]))) else Pv (i + 1) H3) (hd : ∀ H, Pv (tl z).length H → Qd H) :
    ∃ W : Nat → Nat → Hp → Prop, (∃ m, W 0 m (L2.upd H1 D (.lst []))) ∧ ∀ i m H, W i m H →
      ((Its z).stop i H ∧ Qd H) ∨ ((Its z).go i H ∧ ∃ Nx : Hp → Prop, (∀ H', Nx H' → ∃ m', m' < m ∧ W (i + 1) m' H') ∧ ∀ x H', (Its z).yld i H x H' → g x (wipe σ vs) H' fun σ2 H2 => wipe σ2 vs = wipe σ vs ∧ tt σ2 H2 fun b H3 =>
        if b = true then te σ2 H3 fun y H4 => ∃ acc, H4 D = some (.lst acc) ∧ acc.length < sizeLine ∧ Nx (L2.upd H4 D (.lst (acc ++ [y]))) else Nx H3) := by
  refine lc_it walk_str Pv h0 (fun _ _ _ _ => trivial) (fun i x H H' hi p y => ?_) (fun H p => hd H (by rw [show (tl z).length = z.cps.size by simp [tl]]; exact p))
  obtain ⟨rfl, c, hc, rfl⟩ := y
  exact hs i c _ (by rw [← hc]; simp [tl]) p
/-- the last part of a text -/
def smallS (x : Str) : Prop := x.length ≤ 1000 ∧ ascii x
theorem lay_str {x : Str} (h : ascii x) : PyData.canLay0 (.str x) = true := by
  rw [PyData.canLay0]
  show x.cps.all _ = true
  rw [Array.all_eq_true_iff_forall_mem]
  intro s hs
  have := h s (Array.mem_toList_iff.mpr hs)
  exact decide_eq_true (by omega)
end Kb
namespace Kb
open PySem PySem.Spec PyProof.Rows L2 TL
theorem Same.put {H H1 : Hp} {L : Addr} {o : HO} (s : Same H H1) (h : H L = none) : Same H (L2.upd H1 L o) := fun b u e => by
  rw [upd_ne (ne_of_none e h)]
  exact s b u e
theorem all_take1 {α : Type} {p : α → Bool} {l : List α} {i : Nat} {c : α} (h : l[i]? = some c) : (l.take (i + 1)).all p = ((l.take i).all p && p c) := by
  rw [List.take_succ, h, List.all_append]
  simp
theorem eq_nil_snoc {α : Type} {W : List α} {x : α} : (W ++ [x] = []) ↔ False := by simp
theorem lay_strs {W : List Str} (h : ∀ w ∈ W, ascii w) : SeqAt.shaped (.list (W.map PyData.str)) = true := shaped_strs fun w hw => lay_str (h w hw)
theorem eqv_nil (W : List Str) : PyData.eqv (.list (W.map PyData.str)) (.list (([] : List Str).map PyData.str)) = decide (W = []) := by rw [PyData.eqv, eqvAll_strs]
theorem tl_lsig2 : ("abcdefghijklmnopqrstuvwxyz0123456789-" : Str).cps.toList = lsig := tl_lsig
theorem tl_digs2 : ("0123456789" : Str).cps.toList = digs := tl_digs
theorem ascii_mem {x : Str} {i c : Nat} (h : ascii x) (hi : (tl x)[i]? = some c) : ascii (⟨#[c]⟩ : Str) := fun s hs => by
  have : s = c := by simpa [tl] using hs
  rw [this]
  exact h c (List.mem_of_getElem? hi)
end Kb
namespace Kb
open PySem PySem.Spec PyProof.Rows L2 TL
theorem numB_iff {l : List Nat} : numB l = true ↔ ∃ j, j < 256 ∧ l = numL j := by
  constructor
  · intro h
    unfold numB at h
    rw [Bool.and_eq_true, Bool.and_eq_true, Bool.or_eq_true, decide_eq_true_eq, decide_eq_true_eq, decide_eq_true_eq] at h
    obtain ⟨hd, hv, hz⟩ := h
    obtain ⟨had, hne⟩ := digB_iff.mp hd
    refine ⟨NumText.digitsVal l, by omega, ?_⟩
    obtain ⟨n, hn⟩ : ∃ n, l.length = n + 1 := ⟨l.length - 1, by have := List.length_pos_iff.mpr hne; omega⟩
    have e := NumText.toDigits_digitsVal n l hn had (by
      rcases hz with rfl | hz
      · left; simp at hn; omega
      · right
        obtain ⟨c, r, rfl⟩ := List.exists_cons_of_ne_nil hne
        refine ⟨c, r, rfl, ?_⟩
        have := had c (List.mem_cons_self ..)
        have hc : c ≠ 48 := fun q => hz (by rw [q]; rfl)
        omega)
    show l = (Nat.toDigits 10 (NumText.digitsVal l)).map Char.toNat
    rw [e, List.map_map]
    refine (List.map_id l).symm.trans (List.map_congr_left fun c hc => ?_)
    have h1 := had c hc
    have : ∀ c, c < 58 → c = (Char.ofNat c).toNat := by decide +kernel
    exact this c (by omega)
  · rintro ⟨j, hj, rfl⟩
    have : ∀ j, j < 256 → numB (numL j) = true := by decide +kernel
    exact this j hj
end Kb
namespace Kb
open PySem PySem.Spec PyProof.Rows L2 TL PySem.StrLaws Builtin.Str
/-! ### texts that tell hosts -/
def stripDot (l : List Nat) : List Nat := if l.getLast? = some 46 then l.dropLast else l
def tellsL (l : List Nat) : Bool := hostB (stripDot l)
def beginsB (l : List Nat) : Bool := hostB l || (hostB (l ++ [97]) || hostB (l ++ [46, 97]))
def goodL (l : List Nat) : Bool := tellsL l || beginsB l
def PlaceIs (m : List Nat) (k : Nat) : Prop := (k = m.length + 1 ∧ ∀ j, j < m.length → goodL (m.take (j + 1)) = true) ∨ (1 ≤ k ∧ k ≤ m.length ∧ goodL (m.take k) = false ∧ ∀ j, j + 1 < k → goodL (m.take (j + 1)) = true)
theorem PlaceIs.uniq {m : List Nat} {k k' : Nat} (a : PlaceIs m k) (b : PlaceIs m k') : k = k' := by
  rcases a with ⟨a1, a2⟩ | ⟨a0, a1, a2, a3⟩ <;> rcases b with ⟨b1, b2⟩ | ⟨b0, b1, b2, b3⟩
  · omega
  · have := a2 (k' - 1) (by omega)
    rw [show k' - 1 + 1 = k' by omega, b2] at this
    cases this
  · have := b2 (k - 1) (by omega)
    rw [show k - 1 + 1 = k by omega, a2] at this
    cases this
  · rcases Nat.lt_trichotomy k k' with q | q | q
    · have := b3 (k - 1) (by omega)
      rw [show k - 1 + 1 = k by omega, a2] at this
      cases this
    · exact q
    · have := a3 (k' - 1) (by omega)
      rw [show k' - 1 + 1 = k' by omega, b2] at this
      cases this
theorem host_dot {l : List Nat} (h : l.getLast? = some 46) : hostB l = false := by
  have hne : l ≠ [] := fun e => by rw [e] at h; cases h
  obtain ⟨r, d, er⟩ := snoc_of_ne hne
  rw [er, List.getLast?_concat] at h
  have hd : d = 46 := Option.some.inj h
  subst hd
  have e : sp1 46 l = sp1 46 r ++ [[]] := by rw [er, sp1_app]; rfl
  unfold hostB hostL
  have : (sp1 46 l).all labB = false := by
    rw [e, List.all_append]
    have : [([] : List Nat)].all labB = false := by decide +kernel
    rw [this, Bool.and_false]
  rw [this, Bool.false_and, Bool.and_false, Bool.and_false]
theorem strip_other {l : List Nat} (h : l.getLast? ≠ some 46) : stripDot l = l := if_neg h
theorem strip_dot {l : List Nat} : stripDot (l ++ [46]) = l := by
  unfold stripDot
  rw [if_pos (by rw [List.getLast?_concat]), List.dropLast_concat]
theorem tellsL_or (l : List Nat) : tellsL l = (hostB l || (decide (l.getLast? = some 46) && hostB l.dropLast)) := by
  unfold tellsL stripDot
  by_cases h : l.getLast? = some 46
  · rw [if_pos h, host_dot h, decide_eq_true h]; rfl
  · rw [if_neg h, decide_eq_false h, Bool.false_and, Bool.or_false]
theorem law_begins (l : List Nat) : (tellsL l || (tellsL (l ++ [97]) || (tellsL (l ++ [46, 97]) || tellsL (l ++ [46])))) = goodL l := by
  have e1 : tellsL (l ++ [97]) = hostB (l ++ [97]) := by unfold tellsL; rw [strip_other (by rw [List.getLast?_concat]; decide)]
  have e2 : tellsL (l ++ [46, 97]) = hostB (l ++ [46, 97]) := by
    unfold tellsL
    rw [strip_other]
    rw [show l ++ [46, 97] = (l ++ [46]) ++ [97] by simp, List.getLast?_concat]; decide
  have e3 : tellsL (l ++ [46]) = hostB l := by unfold tellsL; rw [strip_dot]
  rw [e1, e2, e3]
  unfold goodL beginsB
  cases tellsL l <;> cases hostB l <;> cases hostB (l ++ [97]) <;> cases hostB (l ++ [46, 97]) <;> rfl
theorem removesuffix_dot (x : Str) : tl (Txt.removesuffix x ("." : Str)) = stripDot (tl x) := by
  unfold Txt.removesuffix
  have d1 : ("." : Str).length = 1 := by decide +kernel
  by_cases h : (tl x).getLast? = some 46
  · have hne : tl x ≠ [] := fun e => by rw [e] at h; cases h
    obtain ⟨r, d, er⟩ := snoc_of_ne hne
    rw [er, List.getLast?_concat] at h
    have hd : d = 46 := Option.some.inj h
    subst hd
    have hl : x.length = r.length + 1 := by rw [len_tl, er]; simp
    have hs : subAt x ("." : Str) (x.length - ("." : Str).length) = true := by
      rw [subAt_eq, d1, hl]
      show (List.take 1 (List.drop (r.length + 1 - 1) (tl x)) == tl ("." : Str)) = true
      rw [er, tl_dot, Nat.add_sub_cancel, List.drop_left]
      rfl
    rw [if_pos (by rw [hs, d1, hl]; simp), er, strip_dot]
    show tl (if x.length - ("." : Str).length - 0 == x.length then x else strSub x 0 (x.length - ("." : Str).length)) = r
    rw [if_neg (by rw [d1, hl]; simp), tl_strSub, er, d1, hl]
    simp
  · rw [strip_other h, if_neg]
    · rfl
    · intro g
      rw [Bool.and_eq_true] at g
      obtain ⟨g1, g2⟩ := g
      have g1 : ("." : Str).length ≤ x.length := of_decide_eq_true g1
      rw [d1] at g1
      rw [subAt_eq, d1] at g2
      have g2 : (List.take 1 (List.drop (x.length - 1) (tl x)) == tl ("." : Str)) = true := g2
      rw [tl_dot] at g2
      have hne : tl x ≠ [] := fun e => by rw [len_tl, e] at g1; simp at g1
      obtain ⟨r, d, er⟩ := snoc_of_ne hne
      have hl : x.length = r.length + 1 := by rw [len_tl, er]; simp
      rw [hl, Nat.add_sub_cancel, er, List.drop_left] at g2
      have : d = 46 := by simpa using g2
      rw [er, List.getLast?_concat, this] at h
      exact h rfl
theorem strip_low {l : List Nat} (h : ∀ s ∈ l, s < 128) : (stripDot l).map lo1 = stripDot (l.map lo1) := by
  by_cases hne : l = []
  · rw [hne]; rfl
  obtain ⟨r, d, rfl⟩ := snoc_of_ne hne
  have hd := h d (List.mem_append_right _ (List.mem_singleton.mpr rfl))
  have key : ∀ c, c < 128 → (lo1 c = 46 ↔ c = 46) := by decide +kernel
  rw [List.map_append, List.map_cons, List.map_nil]
  by_cases q : d = 46
  · subst q
    rw [strip_dot, show lo1 46 = 46 by decide, strip_dot]
  · rw [strip_other (by rw [List.getLast?_concat]; simpa using q), strip_other (by rw [List.getLast?_concat]; simpa using fun e => q ((key d hd).mp e)), List.map_append]
    rfl
def lowL (x : Str) : List Nat := (tl x).map lo1
theorem lowT_tl {x : Str} (h : ascii x) : tl (Txt.lower (Txt.removesuffix x ("." : Str))) = stripDot (lowL x) := by
  have e := removesuffix_dot x
  have a : ascii (Txt.removesuffix x ("." : Str)) := fun s hs => by
    rw [e] at hs
    unfold stripDot at hs
    split at hs
    · exact h s ((List.dropLast_sublist _).subset hs)
    · exact h s hs
  rw [lower_tl a, e]
  exact strip_low h
end Kb
namespace Kb
open PySem PySem.Spec PyProof.Rows L2 TL PySem.StrLaws Builtin.Str
theorem cutS_m1 (z : Str) : tl (cutS z none (some (-1))) = (tl z).dropLast := by
  show ((tl z).drop (HT.sIx z.length 0 none)).take (HT.sIx z.length z.length (some (-1)) - HT.sIx z.length 0 none) = _
  rw [HT.sIx_none, List.drop_zero, Nat.sub_zero, List.dropLast_eq_take, len_tl]
  have e : HT.sIx (tl z).length (tl z).length (some (-1)) = (tl z).length - 1 := by
    show (if (-1 : Int) < 0 then ((-1 : Int) + ((tl z).length : Int)).toNat else min (-1 : Int).toNat (tl z).length) = _
    rw [if_pos (by decide)]
    omega
  rw [e]
theorem cutS_l1 (z : Str) : tl (cutS z (some (-1)) none) = lastN 1 (tl z) := by
  show ((tl z).drop (HT.sIx z.length 0 (some (-1)))).take (HT.sIx z.length z.length none - HT.sIx z.length 0 (some (-1))) = _
  rw [HT.sIx_none, len_tl]
  have e : HT.sIx (tl z).length 0 (some (-1)) = (tl z).length - 1 := by
    show (if (-1 : Int) < 0 then ((-1 : Int) + ((tl z).length : Int)).toNat else min (-1 : Int).toNat (tl z).length) = _
    rw [if_pos (by decide)]
    omega
  rw [e]
  exact List.take_of_length_le (by rw [List.length_drop] <;> omega)
theorem last_dot (z : Str) : decide (V.str (cutS z (some (-1)) none) = V.str ("." : Str)) = decide ((tl z).getLast? = some 46) := by
  rw [Bool.eq_iff_iff, decide_eq_true_eq, decide_eq_true_eq, V.str.injEq, str_eq_iff, cutS_l1, tl_dot]
  by_cases h : tl z = []
  · rw [h]; simp [lastN]
  · obtain ⟨r, d, er⟩ := snoc_of_ne h
    rw [er, List.getLast?_concat]
    unfold lastN
    rw [List.length_append, List.length_singleton, Nat.add_sub_cancel, List.drop_left]
    simp
end Kb
namespace Kb
open PySem PySem.Spec PyProof.Rows L2 TL
def Ans03 (H' : Hp) (m : List Nat) (v : V) : Prop := (tellsL m = true ∧ ∃ (p : Addr) (y : Str), v = .ref p ∧ H' p = some (.lst [.str y]) ∧ tl y = stripDot m) ∨ (tellsL m = false ∧ ∃ k : Nat, v = .int (k : Nat) ∧ PlaceIs m k)
theorem strip_len {l : List Nat} : (stripDot l).length ≤ l.length := by
  unfold stripDot
  split
  · rw [List.length_dropLast]; omega
  · exact Nat.le_refl _
theorem rs_len (x : Str) : (Txt.removesuffix x ("." : Str)).length ≤ x.length := by
  rw [len_tl, removesuffix_dot, len_tl]; exact strip_len
end Kb
namespace Kb
open PySem PySem.Spec PyProof.Rows L2 TL
/-- the first place at which a text begins no host -/
def PlaceB (m : List Nat) (k : Nat) : Prop := (k = m.length + 1 ∧ ∀ j, j < m.length → beginsB (m.take (j + 1)) = true) ∨ (1 ≤ k ∧ k ≤ m.length ∧ beginsB (m.take k) = false ∧ ∀ j, j + 1 < k → beginsB (m.take (j + 1)) = true)
theorem PlaceB.uniq {m : List Nat} {k k' : Nat} (a : PlaceB m k) (b : PlaceB m k') : k = k' := by
  rcases a with ⟨a1, a2⟩ | ⟨a0, a1, a2, a3⟩ <;> rcases b with ⟨b1, b2⟩ | ⟨b0, b1, b2, b3⟩
  · omega
  · have := a2 (k' - 1) (by omega)
    rw [show k' - 1 + 1 = k' by omega, b2] at this
    cases this
  · have := b2 (k - 1) (by omega)
    rw [show k - 1 + 1 = k by omega, a2] at this
    cases this
  · rcases Nat.lt_trichotomy k k' with q | q | q
    · have := b3 (k - 1) (by omega)
      rw [show k - 1 + 1 = k by omega, a2] at this
      cases this
    · exact q
    · have := a3 (k' - 1) (by omega)
      rw [show k' - 1 + 1 = k' by omega, b2] at this
      cases this
end Kb
namespace Kb
open PySem PySem.Spec PyProof.Rows L2
theorem ty_same {K : PySem.W.Frag} {H H' : Hp} {v : V} {t : Value} (s : Same H H') (h : TyX K H v t) : TyX K H' v t := by
  cases h with
  | base h =>
    refine .base ?_
    cases h with
    | non => exact .non
    | bl x => exact .bl x
    | int i => exact .int i
    | str x => exact .str x
    | flt x => exact .flt x
    | lst e => exact .lst (s _ _ e)
    | frz e => exact .frz (s _ _ e)
    | tup e => exact .tup (s _ _ e)
    | dK e => exact .dK (s _ _ e)
    | dT e => exact .dT (s _ _ e)
    | ins e cl ha hn htk hm => exact .ins (s _ _ e) cl ha hn htk hm
  | byt b => exact .byt b
  | set e => exact .set (s _ _ e)
  | kList e c => exact .kList e c
  | kTuple e c => exact .kTuple e c
  | kDict e c => exact .kDict e c
  | fTuple e => exact .fTuple (s _ _ e)
  | fDict e => exact .fDict (s _ _ e)
end Kb

namespace Kb
open PySem PySem.Spec PyProof.Rows L2 TL
/-! ### texts of addresses -/
/-- the first beginning that is not good -/
def Bad1 (g : List Nat → Bool) (m : List Nat) (k : Nat) : Prop := (k = m.length + 1 ∧ ∀ j, j < m.length → g (m.take (j + 1)) = true) ∨ (1 ≤ k ∧ k ≤ m.length ∧ g (m.take k) = false ∧ ∀ j, j + 1 < k → g (m.take (j + 1)) = true)
theorem Bad1.uniq {g : List Nat → Bool} {m : List Nat} {k k' : Nat} (a : Bad1 g m k) (b : Bad1 g m k') : k = k' := by
  rcases a with ⟨a1, a2⟩ | ⟨a0, a1, a2, a3⟩ <;> rcases b with ⟨b1, b2⟩ | ⟨b0, b1, b2, b3⟩
  · omega
  · have := a2 (k' - 1) (by omega)
    rw [show k' - 1 + 1 = k' by omega, b2] at this
    cases this
  · have := b2 (k - 1) (by omega)
    rw [show k - 1 + 1 = k by omega, a2] at this
    cases this
  · rcases Nat.lt_trichotomy k k' with q | q | q
    · have := b3 (k - 1) (by omega)
      rw [show k - 1 + 1 = k by omega, a2] at this
      cases this
    · exact q
    · have := a3 (k' - 1) (by omega)
      rw [show k' - 1 + 1 = k' by omega, b2] at this
      cases this
theorem Bad1.le {g : List Nat → Bool} {m : List Nat} {k : Nat} (a : Bad1 g m k) : 1 ≤ k ∧ k ≤ m.length + 1 := by
  rcases a with ⟨a1, a2⟩ | ⟨a0, a1, a2, a3⟩ <;> omega
def hS : List Nat := [104, 116, 116, 112, 58, 47, 47]
def sS : List Nat := [104, 116, 116, 112, 115, 58, 47, 47]
def schB (m : List Nat) : Bool := m.isPrefixOf hS || m.isPrefixOf sS
def schN (m : List Nat) : Option (List Nat × Nat) := if hS.isPrefixOf m = true then some ([104, 116, 116, 112], 7) else if sS.isPrefixOf m = true then some ([104, 116, 116, 112, 115], 8) else none
def stop3 (c : Nat) : Bool := decide (c = 47) || (decide (c = 63) || decide (c = 35))
def stop2 (c : Nat) : Bool := decide (c = 63) || decide (c = 35)
def hEnd (l : List Nat) : Nat := (l.takeWhile fun c => !stop3 c).length
inductive PR where
  | ok (n : Nat)
  | bad (n : Nat)
def pathR (r : List Nat) : PR := if 200 < (r.takeWhile psign).length then .bad 200 else match r[(r.takeWhile psign).length]? with
  | none => .ok (r.takeWhile psign).length
  | some c => if stop2 c = true then .ok (r.takeWhile psign).length else .bad (r.takeWhile psign).length
theorem tw_at {p : Nat → Bool} : ∀ {l : List Nat} {i : Nat}, (l.take i).all p = true → i ≤ l.length → (∀ c, l[i]? = some c → p c = false) → (l.takeWhile p).length = i
  | [], i, _, h, _ => by have : i = 0 := by simpa using h
                         subst this; rfl
  | x :: l, 0, _, _, h => by rw [List.takeWhile_cons_of_neg (by rw [h x rfl]; exact Bool.false_ne_true)]; rfl
  | x :: l, i + 1, ha, hl, h => by
    rw [List.take_succ_cons, List.all_cons, Bool.and_eq_true] at ha
    rw [List.takeWhile_cons_of_pos ha.1, List.length_cons, tw_at ha.2 (by simpa using hl) fun c hc => h c (by simpa using hc)]
theorem tw_ge {p : Nat → Bool} : ∀ {l : List Nat} {i : Nat}, (l.take i).all p = true → i ≤ l.length → i ≤ (l.takeWhile p).length
  | _, 0, _, _ => Nat.zero_le _
  | [], i + 1, _, h => by simp at h
  | x :: l, i + 1, ha, hl => by
    rw [List.take_succ_cons, List.all_cons, Bool.and_eq_true] at ha
    rw [List.takeWhile_cons_of_pos ha.1, List.length_cons]
    have := tw_ge ha.2 (by simpa using hl)
    omega
theorem hEnd_at {l : List Nat} {i c : Nat} (h : (l.take i).all (fun c => !stop3 c) = true) (hc : l[i]? = some c) (hs : stop3 c = true) : hEnd l = i :=
  tw_at h (Nat.le_of_lt (List.getElem?_eq_some_iff.mp hc).1) fun d hd => by rw [hc] at hd; cases hd; rw [hs]; rfl
theorem hEnd_all {l : List Nat} (h : l.all (fun c => !stop3 c) = true) : hEnd l = l.length :=
  tw_at (by rw [List.take_length]; exact h) (Nat.le_refl _) fun c hc => by rw [List.getElem?_eq_none (Nat.le_refl _)] at hc; cases hc
theorem psign_stop {c : Nat} (h : stop2 c = true) : psign c = false := by
  unfold stop2 at h
  rw [Bool.or_eq_true, decide_eq_true_eq, decide_eq_true_eq] at h
  rcases h with rfl | rfl <;> decide
theorem pathR_stop {r : List Nat} {i c : Nat} (h : (r.take i).all psign = true) (hi : i ≤ 200) (hc : r[i]? = some c) (hs : stop2 c = true) : pathR r = .ok i := by
  have e := tw_at h (Nat.le_of_lt (List.getElem?_eq_some_iff.mp hc).1) fun d hd => by rw [hc] at hd; cases hd; exact psign_stop hs
  unfold pathR
  rw [e, if_neg (by omega), hc]
  exact if_pos hs
theorem pathR_sign {r : List Nat} {i c : Nat} (h : (r.take i).all psign = true) (hi : i ≤ 200) (hc : r[i]? = some c) (hs : stop2 c = false) (hp : psign c = false) : pathR r = .bad i := by
  have e := tw_at h (Nat.le_of_lt (List.getElem?_eq_some_iff.mp hc).1) fun d hd => by rw [hc] at hd; cases hd; exact hp
  unfold pathR
  rw [e, if_neg (by omega), hc]
  exact if_neg (by rw [hs]; exact Bool.false_ne_true)
theorem pathR_long {r : List Nat} {c : Nat} (h : (r.take 200).all psign = true) (hc : r[200]? = some c) (hp : psign c = true) : pathR r = .bad 200 := by
  have := tw_ge (p := psign) (l := r) (i := 201) (by rw [all_at hc, h, hp]; rfl) (List.getElem?_eq_some_iff.mp hc).1
  unfold pathR
  rw [if_pos (by omega)]
theorem pathR_end {r : List Nat} (h : r.all psign = true) (hl : r.length ≤ 200) : pathR r = .ok r.length := by
  have e := tw_at (p := psign) (l := r) (i := r.length) (by rw [List.take_length]; exact h) (Nat.le_refl _) fun c hc => by rw [List.getElem?_eq_none (Nat.le_refl _)] at hc; cases hc
  unfold pathR
  rw [e, if_neg (by omega), List.getElem?_eq_none (Nat.le_refl _)]
def lows (l : List Nat) : List Nat := l.map lo1
def AddrOk (L sc ho pa : List Nat) : Prop := ∃ n k, schN (lows L) = some (sc, n) ∧ tellsL (lows ((L.drop n).take (hEnd (L.drop n)))) = true ∧ ho = stripDot (lows ((L.drop n).take (hEnd (L.drop n)))) ∧
  pathR ((L.drop n).drop (hEnd (L.drop n))) = .ok k ∧ pa = if k = 0 then [47] else ((L.drop n).drop (hEnd (L.drop n))).take k
def AddrBad (L : List Nat) (m : Nat) : Prop := (schN (lows L) = none ∧ Bad1 schB (lows L) m) ∨ ∃ sc n, schN (lows L) = some (sc, n) ∧
  ((tellsL (lows ((L.drop n).take (hEnd (L.drop n)))) = false ∧ ∃ j, Bad1 goodL (lows ((L.drop n).take (hEnd (L.drop n)))) j ∧ m = n + j) ∨
   (tellsL (lows ((L.drop n).take (hEnd (L.drop n)))) = true ∧ ∃ j, pathR ((L.drop n).drop (hEnd (L.drop n))) = .bad j ∧ m = n + hEnd (L.drop n) + j + 1))
theorem AddrOk.uniq {L a b c a' b' c' : List Nat} (h : AddrOk L a b c) (h' : AddrOk L a' b' c') : a = a' ∧ b = b' ∧ c = c' := by
  obtain ⟨n, k, h1, h2, h3, h4, h5⟩ := h
  obtain ⟨n', k', g1, g2, g3, g4, g5⟩ := h'
  rw [h1] at g1
  cases g1
  rw [h4] at g4
  cases g4
  exact ⟨rfl, h3.trans g3.symm, h5.trans g5.symm⟩
theorem AddrBad.uniq {L : List Nat} {m m' : Nat} (h : AddrBad L m) (h' : AddrBad L m') : m = m' := by
  rcases h with ⟨h1, h2⟩ | ⟨sc, n, h1, h2⟩ <;> rcases h' with ⟨g1, g2⟩ | ⟨sc', n', g1, g2⟩
  · exact h2.uniq g2
  · rw [h1] at g1; cases g1
  · rw [h1] at g1; cases g1
  · rw [h1] at g1
    cases g1
    rcases h2 with ⟨h2, j, h3, rfl⟩ | ⟨h2, j, h3, rfl⟩ <;> rcases g2 with ⟨g2, j', g3, rfl⟩ | ⟨g2, j', g3, rfl⟩
    · rw [h3.uniq g3]
    · rw [h2] at g2; cases g2
    · rw [h2] at g2; cases g2
    · rw [h3] at g3; cases g3; rfl
theorem AddrOk.bad {L a b c : List Nat} {m : Nat} (h : AddrOk L a b c) (g : AddrBad L m) : False := by
  obtain ⟨n, k, h1, h2, h3, h4, h5⟩ := h
  rcases g with ⟨g1, g2⟩ | ⟨sc', n', g1, g2⟩
  · rw [h1] at g1; cases g1
  · rw [h1] at g1
    cases g1
    rcases g2 with ⟨g2, j, g3, rfl⟩ | ⟨g2, j, g3, rfl⟩
    · rw [h2] at g2; cases g2
    · rw [h4] at g3; cases g3
theorem schN_sc {m sc : List Nat} {n : Nat} (h : schN m = some (sc, n)) : (sc = [104, 116, 116, 112] ∧ n = 7 ∨ sc = [104, 116, 116, 112, 115] ∧ n = 8) ∧ n ≤ m.length ∧ n = sc.length + 3 ∧ (sc ++ [58, 47, 47]) <+: m := by
  unfold schN at h
  split at h
  · rename_i g
    cases h
    have p := List.isPrefixOf_iff_prefix.mp g
    exact ⟨.inl ⟨rfl, rfl⟩, p.length_le, rfl, p⟩
  · split at h
    · rename_i g
      cases h
      have p := List.isPrefixOf_iff_prefix.mp g
      exact ⟨.inr ⟨rfl, rfl⟩, p.length_le, rfl, p⟩
    · cases h
theorem AddrBad.le {L : List Nat} {m : Nat} (h : AddrBad L m) : 1 ≤ m ∧ m ≤ L.length + 1 := by
  have e : (lows L).length = L.length := by unfold lows; rw [List.length_map]
  have hE : ∀ l, hEnd l ≤ l.length := fun l => (List.takeWhile_prefix _).length_le
  rcases h with ⟨h1, h2⟩ | ⟨sc, n, h1, h2⟩
  · have := h2.le; omega
  · have hn := (schN_sc h1).2.1
    have h3 := hE (L.drop n)
    rw [List.length_drop] at h3
    rcases h2 with ⟨h2, j, h4, rfl⟩ | ⟨h2, j, h4, rfl⟩
    · have := h4.le
      unfold lows at this
      rw [List.length_map, List.length_take, List.length_drop] at this
      omega
    · have hj : j ≤ ((L.drop n).drop (hEnd (L.drop n))).length := by
        have t := (List.takeWhile_prefix psign (l := (L.drop n).drop (hEnd (L.drop n)))).length_le
        unfold pathR at h4
        split at h4
        · cases h4; omega
        · split at h4
          · cases h4
          · split at h4
            · cases h4
            · cases h4; exact t
      rw [List.length_drop, List.length_drop] at hj
      omega
end Kb
namespace Kb
open PySem PySem.Spec PyProof.Rows L2 TL
/-! ### beginnings of hosts -/
theorem sp1_glue (c : Nat) : ∀ (p s : List Nat) (C : List (List Nat)) (q h : List Nat) (T : List (List Nat)), sp1 c p = C ++ [q] → sp1 c s = h :: T → sp1 c (p ++ s) = C ++ (q ++ h) :: T
  | [], s, C, q, h, T, e1, e2 => by
    have e1 : [[]] = C ++ [q] := e1
    cases C with
    | nil =>
      simp only [List.nil_append, List.cons.injEq, and_true] at e1
      subst e1
      exact e2
    | cons a C =>
      simp at e1
  | x :: p, s, C, q, h, T, e1, e2 => by
    by_cases hx : x = c
    · subst hx
      rw [sp1_hit] at e1
      rw [List.cons_append, sp1_hit]
      cases C with
      | nil =>
        simp only [List.nil_append, List.cons.injEq] at e1
        exact absurd e1.2 (sp1_ne _ _)
      | cons a C =>
        rw [List.cons_append, List.cons.injEq] at e1
        rw [sp1_glue x p s C q h T e1.2 e2, ← e1.1]; rfl
    · obtain ⟨a, r, e⟩ := sp1_cons c p
      rw [sp1_miss hx e] at e1
      rw [List.cons_append]
      cases C with
      | nil =>
        simp only [List.nil_append, List.cons.injEq] at e1
        obtain ⟨rfl, rfl⟩ := e1
        rw [sp1_miss hx (sp1_glue c p s [] a h T e e2)]; rfl
      | cons b C =>
        rw [List.cons_append, List.cons.injEq] at e1
        obtain ⟨rfl, rfl⟩ := e1
        rw [sp1_miss hx (sp1_glue c p s (a :: C) q h T e e2)]; rfl
theorem hostB_of {l : List Nat} {L : List (List Nat)} (e : sp1 46 l = L) (h1 : l.length ≤ 100) (h2 : L.length ≤ 10) (h3 : ∀ p ∈ L, labB p = true) (h4 : digB (lastL L) = false) : hostB l = true := by
  unfold hostB hostL
  rw [e, h4, decide_eq_true h1, decide_eq_true h2, List.all_eq_true.mpr h3]; rfl
theorem labB_open {q h : List Nat} (hl : labB (q ++ h) = true) (hq : q ≠ []) (h19 : q.length ≤ 19) : labB (q ++ [97]) = true ∧ digB (q ++ [97]) = false := by
  unfold labB onlyB at hl
  simp only [Bool.and_eq_true, List.all_eq_true, decide_eq_true_eq] at hl
  obtain ⟨g1, ⟨g2, g3⟩, g4, g5⟩ := hl
  obtain ⟨a, r, rfl⟩ := List.exists_cons_of_ne_nil hq
  refine ⟨?_, ?_⟩
  · unfold labB onlyB
    simp only [Bool.and_eq_true, List.all_eq_true, decide_eq_true_eq]
    refine ⟨by simp at h19 ⊢; omega, ⟨fun c hc => ?_, by simp⟩, by simpa using g4, by rw [List.getLast?_concat]; decide⟩
    rcases List.mem_append.mp hc with m | m
    · exact g2 c (List.mem_append_left _ m)
    · rw [List.mem_singleton.mp m]; decide
  · unfold digB onlyB
    rw [List.all_append, show [97].all (fun c => decide (c ∈ digs)) = false by decide, Bool.and_false, Bool.false_and]
theorem labB_a : labB [97] = true ∧ digB [97] = false := by decide
theorem host_prefix {H : List Nat} (h : hostB H = true) {i : Nat} (hi : 1 ≤ i) (hl : i ≤ H.length) : goodL (H.take i) = true := by
  unfold goodL
  rcases Nat.lt_or_ge i H.length with hlt | hge
  · have hs : H.drop i ≠ [] := fun e => by rw [List.drop_eq_nil_iff] at e; omega
    obtain ⟨C, q, e1⟩ : ∃ C q, sp1 46 (H.take i) = C ++ [q] := ⟨_, _, (List.dropLast_concat_getLast (sp1_ne 46 (H.take i))).symm⟩
    obtain ⟨g, T, e2⟩ := sp1_cons 46 (H.drop i)
    have eH := sp1_glue 46 _ _ C q g T e1 e2
    rw [List.take_append_drop] at eH
    unfold hostB hostL at h
    rw [eH] at h
    simp only [Bool.and_eq_true, List.all_eq_true, decide_eq_true_eq] at h
    obtain ⟨h1, h2, h3, _⟩ := h
    rw [List.length_append, List.length_cons] at h2
    have hqg := h3 (q ++ g) (List.mem_append_right _ (List.mem_cons_self ..))
    have hC : ∀ p ∈ C, labB p = true := fun p hp => h3 p (List.mem_append_left _ hp)
    have lt : (H.take i).length = i := by rw [List.length_take]; omega
    suffices beginsB (H.take i) = true by rw [this, Bool.or_true]
    unfold beginsB
    by_cases hq : q = []
    · have : hostB (H.take i ++ [97]) = true := by
        refine hostB_of (L := C ++ [[97]]) (by rw [sp1_glue 46 _ [97] C q [97] [] e1 (by decide), hq]; rfl) (by rw [List.length_append, lt]; simp; omega) (by rw [List.length_append]; simp; omega) (fun p hp => ?_) (by rw [lastL_snoc]; exact labB_a.2)
        rcases List.mem_append.mp hp with m | m
        · exact hC p m
        · rw [List.mem_singleton.mp m]; exact labB_a.1
      rw [this]; simp
    · rcases Nat.lt_or_ge q.length 20 with h20 | h20
      · obtain ⟨o1, o2⟩ := labB_open hqg hq (by omega)
        have : hostB (H.take i ++ [97]) = true := by
          refine hostB_of (L := C ++ [q ++ [97]]) (sp1_glue 46 _ [97] C q [97] [] e1 (by decide)) (by rw [List.length_append, lt]; simp; omega) (by rw [List.length_append]; simp; omega) (fun p hp => ?_) (by rw [lastL_snoc]; exact o2)
          rcases List.mem_append.mp hp with m | m
          · exact hC p m
          · rw [List.mem_singleton.mp m]; exact o1
        rw [this]; simp
      · have hlab := lab_len hqg
        rw [List.length_append] at hlab
        have hg : g = [] := List.eq_nil_of_length_eq_zero (by omega)
        subst hg
        rw [List.append_nil] at hqg
        obtain ⟨x, s, es⟩ := List.exists_cons_of_ne_nil hs
        have hx : x = 46 := by
          by_cases hx : x = 46
          · exact hx
          · obtain ⟨a, r, e⟩ := sp1_cons 46 s
            rw [es, sp1_miss hx e] at e2
            simp at e2
        subst hx
        rw [es, sp1_hit, List.cons.injEq] at e2
        have hT : T ≠ [] := by rw [← e2.2]; exact sp1_ne _ _
        obtain ⟨t, T2, rfl⟩ := List.exists_cons_of_ne_nil hT
        have ht := lab_ne (h3 t (List.mem_append_right _ (List.mem_cons_of_mem _ (List.mem_cons_self ..))))
        have hsn : s ≠ [] := fun e => by
          have e3 := e2.2
          rw [e] at e3
          simp [sp1] at e3
          exact ht e3.1
        have hlen : 2 ≤ (H.drop i).length := by
          rw [es, List.length_cons]
          have := List.length_pos_iff.mpr hsn
          omega
        rw [List.length_drop] at hlen
        rw [List.length_cons] at h2
        have : hostB (H.take i ++ [46, 97]) = true := by
          refine hostB_of (L := (C ++ [q]) ++ [[97]]) (by rw [sp1_glue 46 _ [46, 97] C q [] [[97]] e1 (by decide), List.append_nil, List.append_assoc]; rfl) (by rw [List.length_append, lt]; simp; omega) (by rw [List.length_append, List.length_append]; simp; omega) (fun p hp => ?_) (by rw [lastL_snoc]; exact labB_a.2)
          rcases List.mem_append.mp hp with m | m
          · rcases List.mem_append.mp m with m | m
            · exact hC p m
            · rw [List.mem_singleton.mp m]; exact hqg
          · rw [List.mem_singleton.mp m]; exact labB_a.1
        rw [this]; simp
  · rw [List.take_of_length_le (by omega)]
    unfold beginsB
    rw [h]; simp
/-- the signs of a host -/
theorem host_sign {l : List Nat} (h : hostB l = true) : ∀ s ∈ l, s = 46 ∨ s ∈ lsig := fun s hs => by
  have hl : ∀ p ∈ sp1 46 l, labB p = true := by
    unfold hostB hostL at h
    simp only [Bool.and_eq_true, List.all_eq_true] at h
    exact h.2.2.1
  by_cases e : s = 46
  · exact .inl e
  · rw [← joinL_sp1 46 l] at hs
    have : ∀ L : List (List Nat), (∀ p ∈ L, labB p = true) → s ∈ joinL [46] L → s ∈ lsig := by
      intro L
      induction L with
      | nil => intro _ hs; cases hs
      | cons p L ih =>
        intro hL hs
        cases L with
        | nil => exact lab_sign (hL p (List.mem_cons_self ..)) hs
        | cons q r =>
          have hs : s ∈ p ++ (46 :: joinL [46] (q :: r)) := hs
          rcases List.mem_append.mp hs with a | a
          · exact lab_sign (hL p (List.mem_cons_self ..)) a
          · rcases List.mem_cons.mp a with a | a
            · exact absurd a e
            · exact ih (fun l hl => hL l (List.mem_cons_of_mem _ hl)) a
    exact .inr (this _ hl hs)
theorem hsign_ok {s : Nat} (h : s = 46 ∨ s ∈ lsig) : stop3 s = false ∧ lo1 s = s ∧ s < 128 := by
  rcases h with rfl | h
  · decide
  · simp only [lsig, List.mem_cons, List.not_mem_nil, or_false] at h
    have : ∀ s, s < 128 → (s = 45 ∨ (48 ≤ s ∧ s ≤ 57) ∨ (97 ≤ s ∧ s ≤ 122)) → stop3 s = false ∧ lo1 s = s ∧ s < 128 := by decide +kernel
    exact this s (by omega) (by omega)
theorem lows_host {l : List Nat} (h : ∀ s ∈ l, s = 46 ∨ s ∈ lsig) : lows l = l := by
  unfold lows
  exact (List.map_congr_left fun s hs => (hsign_ok (h s hs)).2.1).trans (List.map_id l)
theorem host_tells {l : List Nat} (h : hostB l = true) : tellsL l = true ∧ stripDot l = l ∧ tellsL (l ++ [46]) = true ∧ stripDot (l ++ [46]) = l := by
  have e : l.getLast? ≠ some 46 := fun e => by rw [host_dot e] at h; cases h
  have e2 := strip_other e
  refine ⟨by unfold tellsL; rw [e2]; exact h, e2, ?_, strip_dot⟩
  unfold tellsL
  rw [strip_dot]; exact h
end Kb
namespace Kb
open PySem PySem.Spec PyProof.Rows L2 TL
/-! ### texts that are put together -/
def Sch (sc : List Nat) (n : Nat) : Prop := (sc = [104, 116, 116, 112] ∧ n = 7) ∨ (sc = [104, 116, 116, 112, 115] ∧ n = 8)
theorem Sch.at {sc : List Nat} {n : Nat} (h : Sch sc n) (X : List Nat) : schN (sc ++ ([58, 47, 47] ++ X)) = some (sc, n) := by
  rcases h with ⟨rfl, rfl⟩ | ⟨rfl, rfl⟩ <;> rfl
theorem addr_built {sc A W R : List Nat} {n k : Nat} (hs : Sch sc n) (hA : lows A = sc ++ [58, 47, 47]) (hW : ∀ s ∈ W, stop3 s = false) (ht : tellsL (lows W) = true)
    (hR : ∀ c r, R = c :: r → stop3 c = true) (hk : pathR R = .ok k) : AddrOk (A ++ (W ++ R)) sc (stripDot (lows W)) (if k = 0 then [47] else R.take k) := by
  have hn : A.length = n := by
    have := congrArg List.length hA
    unfold lows at this
    rw [List.length_map] at this
    rw [this]
    rcases hs with ⟨rfl, rfl⟩ | ⟨rfl, rfl⟩ <;> rfl
  have hd : (A ++ (W ++ R)).drop n = W ++ R := by rw [← hn, List.drop_left]
  have hall : W.all (fun c => !stop3 c) = true := List.all_eq_true.mpr fun s h => by rw [hW s h]; rfl
  have he : hEnd (W ++ R) = W.length := by
    cases R with
    | nil => rw [List.append_nil]; exact hEnd_all hall
    | cons c r => exact hEnd_at (i := W.length) (by rw [List.take_left]; exact hall) (by rw [List.getElem?_append_right (Nat.le_refl _), Nat.sub_self]; rfl) (hR c r rfl)
  refine ⟨n, k, ?_, ?_, ?_, ?_, ?_⟩
  · unfold lows at *
    rw [List.map_append, hA, List.append_assoc]
    exact hs.at _
  · rw [hd, he, List.take_left]; exact ht
  · rw [hd, he, List.take_left]
  · rw [hd, he, List.drop_left]; exact hk
  · rw [hd, he, List.drop_left]
theorem path_tail {P t : List Nat} (h : P.all psign = true) (hl : P.length ≤ 200) (ht : ∀ c r, t = c :: r → stop2 c = true) : pathR (P ++ t) = .ok P.length := by
  cases t with
  | nil => rw [List.append_nil]; exact pathR_end h hl
  | cons c r => exact pathR_stop (i := P.length) (by rw [List.take_left]; exact h) hl (by rw [List.getElem?_append_right (Nat.le_refl _), Nat.sub_self]; rfl) (ht c r rfl)
theorem stop23 {c : Nat} (h : stop2 c = true) : stop3 c = true := by
  unfold stop3
  unfold stop2 at h
  rw [h, Bool.or_true]
theorem pathB_parts {P : List Nat} (h : pathB P = true) : P.all psign = true ∧ P.length ≤ 200 ∧ ∃ r, P = 47 :: r := by
  unfold pathB at h
  rw [Bool.and_eq_true, Bool.and_eq_true, decide_eq_true_eq, List.isPrefixOf_iff_prefix] at h
  obtain ⟨r, e⟩ := h.2.1
  exact ⟨h.2.2, h.1, r, e.symm⟩
/-- a beginning of an address's text -/
theorem addr_prefix {sc W P : List Nat} {n z : Nat} (hs : Sch sc n) (hW : hostB W = true) (hP : pathB P = true) (hz : z < (sc ++ ([58, 47, 47] ++ (W ++ P))).length) :
    AddrBad ((sc ++ ([58, 47, 47] ++ (W ++ P))).take z) (z + 1) ∨ ∃ ho pa, AddrOk ((sc ++ ([58, 47, 47] ++ (W ++ P))).take z) sc ho pa ∧ hostB ho = true ∧ pathB pa = true ∧
      ((sc ++ ([58, 47, 47] ++ (W ++ P))).take z = sc ++ ([58, 47, 47] ++ (ho ++ pa)) ∨ (sc ++ ([58, 47, 47] ++ (W ++ P))).take z = (sc ++ ([58, 47, 47] ++ (ho ++ pa))).dropLast ∨ ((sc ++ ([58, 47, 47] ++ (W ++ P))).take z).getLast? = some 46) := by
  obtain ⟨p1, p2, r, rfl⟩ := pathB_parts hP
  have hsg := host_sign hW
  have hn : (sc ++ [58, 47, 47]).length = n := by rcases hs with ⟨rfl, rfl⟩ | ⟨rfl, rfl⟩ <;> rfl
  have eA : sc ++ ([58, 47, 47] ++ (W ++ 47 :: r)) = (sc ++ [58, 47, 47]) ++ (W ++ 47 :: r) := by rw [List.append_assoc]
  have lA : lows (sc ++ [58, 47, 47]) = sc ++ [58, 47, 47] := by rcases hs with ⟨rfl, rfl⟩ | ⟨rfl, rfl⟩ <;> decide
  rcases Nat.lt_or_ge z n with h1 | h1
  · left
    have e : (sc ++ ([58, 47, 47] ++ (W ++ 47 :: r))).take z = (sc ++ [58, 47, 47]).take z := by rw [eA, List.take_append_of_le_length (by omega)]
    rw [e]
    left
    have k1 : ∀ z, z < 7 → schN (lows (([104, 116, 116, 112] ++ [58, 47, 47]).take z)) = none ∧ ∀ j, j < z → schB ((lows (([104, 116, 116, 112] ++ [58, 47, 47]).take z)).take (j + 1)) = true := by decide +kernel
    have k2 : ∀ z, z < 8 → schN (lows (([104, 116, 116, 112, 115] ++ [58, 47, 47]).take z)) = none ∧ ∀ j, j < z → schB ((lows (([104, 116, 116, 112, 115] ++ [58, 47, 47]).take z)).take (j + 1)) = true := by decide +kernel
    have lz : (lows ((sc ++ [58, 47, 47]).take z)).length = z := by
      unfold lows
      rw [List.length_map, List.length_take]; omega
    rcases hs with ⟨rfl, rfl⟩ | ⟨rfl, rfl⟩
    · exact ⟨(k1 z h1).1, .inl ⟨by rw [lz], fun j hj => (k1 z h1).2 j (by rw [lz] at hj; exact hj)⟩⟩
    · exact ⟨(k2 z h1).1, .inl ⟨by rw [lz], fun j hj => (k2 z h1).2 j (by rw [lz] at hj; exact hj)⟩⟩
  · have e : (sc ++ ([58, 47, 47] ++ (W ++ 47 :: r))).take z = (sc ++ [58, 47, 47]) ++ (W ++ 47 :: r).take (z - n) := by
      rw [eA, List.take_append, List.take_of_length_le (by omega), hn]
    have hz2 : z - n < (W ++ 47 :: r).length := by
      rw [eA, List.length_append] at hz; omega
    rw [e]
    rw [List.length_append] at hz2
    rcases Nat.lt_or_ge (z - n) (W.length + 1) with h2 | h2
    · -- within the host
      have e2 : (W ++ 47 :: r).take (z - n) = W.take (z - n) := List.take_append_of_le_length (by omega)
      rw [e2]
      have hsg2 : ∀ s ∈ W.take (z - n), s = 46 ∨ s ∈ lsig := fun s h => hsg s (List.mem_of_mem_take h)
      have lw : (W.take (z - n)).length = z - n := by rw [List.length_take]; omega
      generalize hQ : W.take (z - n) = U at hsg2 lw
      have lU := lows_host hsg2
      cases ht : tellsL U with
      | true =>
        right
        have b := addr_built (R := []) (k := 0) hs lA (fun s h => (hsign_ok (hsg2 s h)).1) (by rw [lU]; exact ht) (fun c r e => by cases e) rfl
        rw [List.append_nil, lU, if_pos rfl] at b
        refine ⟨_, _, b, ht, by decide, .inr ?_⟩
        by_cases hd : U.getLast? = some 46
        · right
          have hne : U ≠ [] := fun e => by rw [e] at hd; cases hd
          obtain ⟨u, d, rfl⟩ := snoc_of_ne hne
          rw [List.getLast?_concat] at hd
          rw [← List.append_assoc, List.getLast?_concat]
          exact hd
        · left
          rw [strip_other hd, show sc ++ ([58, 47, 47] ++ (U ++ [47])) = ((sc ++ [58, 47, 47]) ++ U) ++ [47] by simp, List.dropLast_concat]
      | false =>
        left; right
        have hn2 : ((sc ++ [58, 47, 47]) ++ U).drop n = U := by rw [← hn, List.drop_left]
        have he : hEnd U = U.length := hEnd_all (List.all_eq_true.mpr fun s h => by rw [(hsign_ok (hsg2 s h)).1]; rfl)
        refine ⟨sc, n, ?_, .inl ?_⟩
        · unfold lows at lA ⊢
          rw [List.map_append, lA, List.append_assoc]
          exact hs.at _
        · rw [hn2, he, List.take_length, lU]
          refine ⟨ht, U.length + 1, .inl ⟨rfl, fun j hj => ?_⟩, by omega⟩
          rw [← hQ, List.take_take, Nat.min_eq_left (by omega)]
          exact host_prefix hW (by omega) (by omega)
    · -- within the path
      obtain ⟨i, hi⟩ : ∃ i, z - n = W.length + (i + 1) := ⟨z - n - W.length - 1, by omega⟩
      have e2 : (W ++ 47 :: r).take (z - n) = W ++ 47 :: r.take i := by
        rw [hi, List.take_length_add_append, List.take_succ_cons]
      rw [e2]
      have hp : pathB (47 :: r.take i) = true := by
        unfold pathB
        rw [List.all_cons, Bool.and_eq_true] at p1
        rw [decide_eq_true (by rw [List.length_cons] at p2 ⊢; rw [List.length_take]; omega), Bool.true_and, List.all_cons, p1.1, Bool.true_and, Bool.and_eq_true]
        exact ⟨by simp [List.isPrefixOf], List.all_eq_true.mpr fun s h => List.all_eq_true.mp p1.2 s (List.mem_of_mem_take h)⟩
      obtain ⟨q1, q2, _⟩ := pathB_parts hp
      right
      have ht := host_tells hW
      have lU := lows_host hsg
      have b := addr_built (R := 47 :: r.take i) (k := (47 :: r.take i).length) hs lA (fun s h => (hsign_ok (hsg s h)).1) (by rw [lU]; exact ht.1) (fun c r e => by cases e; decide) (pathR_end q1 q2)
      rw [lU, ht.2.1, if_neg (by simp), List.take_length] at b
      exact ⟨_, _, b, hW, hp, .inl (by simp)⟩
end Kb
namespace Kb
open PySem PySem.Spec PyProof.Rows L2 TL
theorem cutS_two (z : Str) (n i : Nat) : tl (cutS z (some (n : Int)) (some ((n + i : Nat) : Int))) = ((tl z).drop n).take i := by
  show ((tl z).drop (HT.sIx z.length 0 (some (n : Int)))).take (HT.sIx z.length z.length (some ((n + i : Nat) : Int)) - HT.sIx z.length 0 (some (n : Int))) = _
  rw [HT.sIx_nat, HT.sIx_nat, len_tl]
  rcases Nat.le_total (tl z).length n with h | h
  · rw [Nat.min_eq_right h, List.drop_eq_nil_of_le h, List.drop_eq_nil_of_le (Nat.le_refl _), List.take_nil, List.take_nil]
  · rw [Nat.min_eq_left h]
    rcases Nat.le_total (tl z).length (n + i) with g | g
    · rw [Nat.min_eq_right g, List.take_of_length_le (by rw [List.length_drop]; omega), List.take_of_length_le (by rw [List.length_drop]; omega)]
    · rw [Nat.min_eq_left g, show n + i - n = i by omega]
end Kb
namespace Kb
theorem pathR_le {r : List Nat} {k : Nat} (h : pathR r = .ok k) : k ≤ r.length := by
  have t := (List.takeWhile_prefix psign (l := r)).length_le
  unfold pathR at h
  split at h
  · cases h
  · split at h
    · cases h; exact t
    · split at h
      · cases h; exact t
      · cases h
end Kb
namespace Kb
open PySem PySem.Spec PyProof.Rows L2 TL
def schemes2 : List Str := [("http" : Str), "https"]
theorem schemes_at {i : Nat} {e : Str} (h : schemes2[i]? = some e) : (i = 0 ∧ e = "http") ∨ (i = 1 ∧ e = "https") := by
  rcases i with _ | _ | i
  · cases h; exact .inl ⟨rfl, rfl⟩
  · cases h; exact .inr ⟨rfl, rfl⟩
  · cases h
theorem tl_mark0 : tl (("http" : Str) ++ ("://" : Str)) = hS := by decide +kernel
theorem tl_mark1 : tl (("https" : Str) ++ ("://" : Str)) = sS := by decide +kernel
theorem marks_len {e : Str} (h : e ∈ schemes2) : e.length + ("://" : Str).length ≤ 8 := by
  have : ∀ e ∈ schemes2, e.length + ("://" : Str).length ≤ 8 := by decide +kernel
  exact this e h
theorem tl_mark3 : tl ("://" : Str) = [58, 47, 47] := by decide +kernel
end Kb
namespace Kb
open PySem PySem.Spec PyProof.Rows L2 TL
theorem addr_mk {sc A W P t ho : List Nat} {n : Nat} (hs : Sch sc n) (hA : lows A = sc ++ [58, 47, 47]) (hW : ∀ s ∈ W, stop3 s = false) (ht : tellsL (lows W) = true) (hh : stripDot (lows W) = ho) (hP : pathB P = true)
    (hT : ∀ c r, t = c :: r → stop2 c = true) : AddrOk (A ++ (W ++ (P ++ t))) sc ho P := by
  obtain ⟨p1, p2, r, rfl⟩ := pathB_parts hP
  have := addr_built (R := (47 :: r) ++ t) (k := (47 :: r).length) hs hA hW ht (fun c r2 e => by cases e; decide) (path_tail p1 p2 hT)
  rw [hh, if_neg (by simp), List.take_left] at this
  exact this
theorem addr_mk0 {sc A W t ho : List Nat} {n : Nat} (hs : Sch sc n) (hA : lows A = sc ++ [58, 47, 47]) (hW : ∀ s ∈ W, stop3 s = false) (ht : tellsL (lows W) = true) (hh : stripDot (lows W) = ho)
    (hT : ∀ c r, t = c :: r → stop2 c = true) : AddrOk (A ++ (W ++ t)) sc ho [47] := by
  have := addr_built (R := t) (k := 0) hs hA hW ht (fun c r2 e => stop23 (hT c r2 e)) (path_tail (P := []) rfl (Nat.zero_le _) hT)
  rw [hh, if_pos rfl] at this
  exact this
theorem sch_of {x : Str} (h : x ∈ schemes2) : ∃ n, Sch (tl x) n ∧ lows (tl x ++ [58, 47, 47]) = tl x ++ [58, 47, 47] ∧ lows ((tl x).map up1 ++ [58, 47, 47]) = tl x ++ [58, 47, 47] ∧ ascii x ∧ x.length ≤ 5 := by
  have : x = "http" ∨ x = "https" := by
    unfold schemes2 at h
    simpa using h
  rcases this with rfl | rfl
  · exact ⟨7, .inl ⟨by decide +kernel, rfl⟩, by decide +kernel, by decide +kernel, ascii_lit (by decide +kernel), by decide +kernel⟩
  · exact ⟨8, .inr ⟨by decide +kernel, rfl⟩, by decide +kernel, by decide +kernel, ascii_lit (by decide +kernel), by decide +kernel⟩
theorem sch_in {x y : Str} (h : x ∈ schemes2) (e : tl y = tl x) : y ∈ schemes2 := by rw [ext_tl e]; exact h
theorem up_host {l : List Nat} (h : ∀ s ∈ l, s = 46 ∨ s ∈ lsig) : lows (l.map up1) = l ∧ ∀ s ∈ l.map up1, stop3 s = false := by
  have key : ∀ s, s < 128 → (s = 46 ∨ s = 45 ∨ (48 ≤ s ∧ s ≤ 57) ∨ (97 ≤ s ∧ s ≤ 122)) → lo1 (up1 s) = s ∧ stop3 (up1 s) = false := by decide +kernel
  have k2 : ∀ s ∈ l, lo1 (up1 s) = s ∧ stop3 (up1 s) = false := fun s hs => by
    rcases h s hs with rfl | q
    · decide
    · simp only [lsig, List.mem_cons, List.not_mem_nil, or_false] at q
      exact key s (by omega) (by omega)
  refine ⟨?_, fun s hs => ?_⟩
  · unfold lows
    rw [List.map_map]
    exact (List.map_congr_left fun s hs => (k2 s hs).1).trans (List.map_id l)
  · obtain ⟨c, hc, rfl⟩ := List.mem_map.mp hs
    exact (k2 c hc).2
def big : List Nat := joinL [46] (List.replicate 5 (List.replicate 20 97))
theorem bad108 : AddrBad (hS ++ (big ++ [47])) 108 := by
  have h1 : schN (lows (hS ++ (big ++ [47]))) = some ([104, 116, 116, 112], 7) := by decide +kernel
  have h2 : (hS ++ (big ++ [47])).drop 7 = big ++ [47] := by decide +kernel
  have h3 : hEnd (big ++ [47]) = 104 := by decide +kernel
  have h4 : lows ((big ++ [47]).take 104) = big := by decide +kernel
  have h5 : hostB (big.take 100) = true := by decide +kernel
  refine .inr ⟨_, 7, h1, .inl ?_⟩
  rw [h2, h3, h4]
  refine ⟨by decide +kernel, 101, .inr ⟨by decide, by decide +kernel, by decide +kernel, fun j hj => ?_⟩, rfl⟩
  have := host_prefix h5 (i := j + 1) (by omega) (by rw [show (big.take 100).length = 100 by decide +kernel]; omega)
  rw [List.take_take, Nat.min_eq_left (by omega)] at this
  exact this
theorem lay_strsT {W : List Str} (h : ∀ w ∈ W, ascii w) : SeqAt.shaped (.tuple (W.map PyData.str)) = true := by
  unfold SeqAt.shaped
  rw [PyData.canLay0, canLay_strs W fun w hw => lay_str (h w hw), PyData.depth, depth_strs]; rfl
theorem eqv_strsT (W Z : List Str) : PyData.eqv (.tuple (W.map PyData.str)) (.tuple (Z.map PyData.str)) = decide (W = Z) := by rw [PyData.eqv, eqvAll_strs]
theorem ascii_host {y : Str} (h : hostB (tl y) = true) : ascii y := fun s hs => (hsign_ok (host_sign h s hs)).2.2
theorem ascii_path {y : Str} (h : pathB (tl y) = true) : ascii y := fun s hs => by
  have := List.all_eq_true.mp (pathB_parts h).1 s hs
  unfold psign at this
  simp only [Bool.and_eq_true, decide_eq_true_eq] at this
  omega
end Kb

namespace Kb
open PySem PySem.Spec PyProof.Rows L2 TL
/-! ### short plain texts -/
structure Pl (m c : Nat) (l : List Nat) : Prop where
  len : l.length ≤ m
  lt : ∀ s ∈ l, s < 128 ∧ s ≠ 37
  dots : l.count 46 ≤ c
def plB (m c : Nat) (l : List Nat) : Bool := decide (l.length ≤ m) && (l.all (fun s => decide (s < 128) && decide (s ≠ 37)) && decide (l.count 46 ≤ c))
theorem Pl.of {m c : Nat} {l : List Nat} (h : plB m c l = true) : Pl m c l := by
  unfold plB at h
  simp only [Bool.and_eq_true, decide_eq_true_eq, List.all_eq_true] at h
  exact ⟨h.1, h.2.1, h.2.2⟩
theorem Pl.app {m c m' c' : Nat} {l l' : List Nat} (h : Pl m c l) (k : Pl m' c' l') : Pl (m + m') (c + c') (l ++ l') :=
  ⟨by rw [List.length_append]; exact Nat.add_le_add h.len k.len, fun s hs => (List.mem_append.mp hs).elim (h.lt s) (k.lt s), by rw [List.count_append]; exact Nat.add_le_add h.dots k.dots⟩
theorem Pl.sub {m c : Nat} {l l' : List Nat} (h : Pl m c l) (k : l'.Sublist l) : Pl m c l' :=
  ⟨Nat.le_trans k.length_le h.len, fun s hs => h.lt s (k.subset hs), Nat.le_trans (k.count_le 46) h.dots⟩
theorem Pl.more {m c m' c' : Nat} {l : List Nat} (h : Pl m c l) (e1 : m ≤ m') (e2 : c ≤ c') : Pl m' c' l := ⟨Nat.le_trans h.len e1, h.lt, Nat.le_trans h.dots e2⟩
theorem Pl.ascii {m c : Nat} {x : Str} (h : Pl m c (tl x)) : ascii x := fun s hs => (h.lt s hs).1
theorem Pl.small {m c : Nat} {x : Str} (h : Pl m c (tl x)) (e : m ≤ 1000) : smallS x := ⟨by rw [len_tl]; exact Nat.le_trans h.len e, h.ascii⟩
theorem sp1_count (c : Nat) : ∀ l : List Nat, (sp1 c l).length = l.count c + 1
  | [] => by simp [sp1]
  | x :: l => by
    obtain ⟨q, r, e⟩ := sp1_cons c l
    have ih := sp1_count c l
    by_cases hx : x = c
    · subst hx; rw [sp1_hit, List.length_cons, ih, List.count_cons_self]
    · rw [sp1_miss hx e, List.count_cons_of_ne hx, ← ih, e]; rfl
def lawHostB (l : List Nat) : Bool := (sp1 46 l).all labB && (!digB (lastL (sp1 46 l)) || ((sp1 46 l).all numB && decide ((sp1 46 l).length = 4)))
theorem Pl.host {m c : Nat} {l : List Nat} (h : Pl m c l) (e1 : m ≤ 100) (e2 : c ≤ 9) : lawHostB l = hostB l := by
  have h1 := h.len
  have h2 := h.dots
  unfold hostB hostL lawHostB
  rw [decide_eq_true (show l.length ≤ 100 by omega), decide_eq_true (show (sp1 46 l).length ≤ 10 by rw [sp1_count]; omega), Bool.true_and, Bool.true_and]
theorem low46 : ∀ c, c < 128 → (lo1 c = 46 ↔ c = 46) := by decide +kernel
theorem low_lt : ∀ c, c < 128 → lo1 c < 128 := by decide +kernel
theorem low37 : ∀ c, c < 128 → c ≠ 37 → lo1 c ≠ 37 := by decide +kernel
theorem count_lows : ∀ {l : List Nat}, (∀ s ∈ l, s < 128) → (lows l).count 46 = l.count 46
  | [], _ => rfl
  | x :: l, h => by
    have ih := count_lows (l := l) fun s hs => h s (List.mem_cons_of_mem _ hs)
    unfold lows at ih ⊢
    rw [List.map_cons]
    by_cases hx : x = 46
    · subst hx
      rw [show lo1 46 = 46 by decide, List.count_cons_self, List.count_cons_self, ih]
    · rw [List.count_cons_of_ne hx, List.count_cons_of_ne (fun e => hx ((low46 x (h x (List.mem_cons_self ..))).mp e)), ih]
theorem Pl.lows {m c : Nat} {l : List Nat} (h : Pl m c l) : Pl m c (lows l) := by
  refine ⟨by unfold Kb.lows; rw [List.length_map]; exact h.len, fun s hs => ?_, by rw [count_lows fun s hs => (h.lt s hs).1]; exact h.dots⟩
  obtain ⟨x, hx, rfl⟩ := List.mem_map.mp hs
  exact ⟨low_lt x (h.lt x hx).1, low37 x (h.lt x hx).1 (h.lt x hx).2⟩
/-! ### the part in front of a query or a mark -/
theorem sp1_head (c : Nat) : ∀ l : List Nat, ∃ r, sp1 c l = l.takeWhile (fun s => !decide (s = c)) :: r
  | [] => ⟨[], rfl⟩
  | x :: l => by
    obtain ⟨r, e⟩ := sp1_head c l
    by_cases hx : x = c
    · subst hx
      exact ⟨_, by rw [sp1_hit, List.takeWhile_cons_of_neg (by simp)]⟩
    · exact ⟨r, by rw [sp1_miss hx e, List.takeWhile_cons_of_pos (by simp [hx])]⟩
theorem tw_tw {p q : Nat → Bool} : ∀ l : List Nat, (l.takeWhile p).takeWhile q = l.takeWhile fun s => p s && q s
  | [] => rfl
  | x :: l => by
    cases hp : p x with
    | false => rw [List.takeWhile_cons_of_neg (by rw [hp]; exact Bool.false_ne_true), List.takeWhile_cons_of_neg (by rw [hp]; exact Bool.false_ne_true)]; rfl
    | true =>
      cases hq : q x with
      | false => rw [List.takeWhile_cons_of_pos hp, List.takeWhile_cons_of_neg (by rw [hq]; exact Bool.false_ne_true), List.takeWhile_cons_of_neg (by rw [hp, hq]; exact Bool.false_ne_true)]
      | true => rw [List.takeWhile_cons_of_pos hp, List.takeWhile_cons_of_pos hq, List.takeWhile_cons_of_pos (by rw [hp, hq]; rfl), tw_tw l]
def cutQ (l : List Nat) : List Nat := l.takeWhile fun c => !stop2 c
theorem cutQ_two (l : List Nat) : (l.takeWhile fun s => !decide (s = 63)).takeWhile (fun s => !decide (s = 35)) = cutQ l := by
  rw [tw_tw]
  unfold cutQ stop2
  congr 1
  funext s
  rw [Bool.not_or]
theorem cutQ_rest : ∀ l : List Nat, ∃ t, l = cutQ l ++ t ∧ (∀ c r, t = c :: r → stop2 c = true) ∧ ∀ s ∈ cutQ l, stop2 s = false := by
  intro l
  induction l with
  | nil => exact ⟨[], rfl, fun c r e => (by cases e), fun s hs => by cases hs⟩
  | cons x l ih =>
    obtain ⟨t, e, h1, h2⟩ := ih
    cases hx : stop2 x with
    | true =>
      have : cutQ (x :: l) = [] := List.takeWhile_cons_of_neg (by rw [hx]; exact Bool.false_ne_true)
      rw [this]
      exact ⟨x :: l, rfl, fun c r e => by cases e; exact hx, fun s hs => by cases hs⟩
    | false =>
      have : cutQ (x :: l) = x :: cutQ l := List.takeWhile_cons_of_pos (by rw [hx]; rfl)
      rw [this]
      refine ⟨t, by rw [List.cons_append, ← e], h1, fun s hs => ?_⟩
      rcases List.mem_cons.mp hs with rfl | q
      · exact hx
      · exact h2 s q
theorem pre_app {g a b : List Nat} (h : g.isPrefixOf a = true) : g.isPrefixOf (a ++ b) = true :=
  List.isPrefixOf_iff_prefix.mpr ((List.isPrefixOf_iff_prefix.mp h).trans (List.prefix_append a b))
/-- a beginning without the sign stands in front of it -/
theorem pre_cut {g a t : List Nat} (ht : ∀ c r, t = c :: r → c ∉ g) (h : g.isPrefixOf (a ++ t) = true) : g.isPrefixOf a = true := by
  have p := List.isPrefixOf_iff_prefix.mp h
  rcases Nat.lt_or_ge a.length g.length with q | q
  · exfalso
    cases t with
    | nil =>
      rw [List.append_nil] at p
      have := p.length_le
      omega
    | cons c r =>
      obtain ⟨u, e⟩ := p
      have : (a ++ c :: r)[a.length]? = some c := by rw [List.getElem?_append_right (Nat.le_refl _), Nat.sub_self]; rfl
      rw [← e, List.getElem?_append_left q] at this
      exact ht c r rfl (List.mem_of_getElem? this)
  · exact List.isPrefixOf_iff_prefix.mpr (List.prefix_of_prefix_length_le p (List.prefix_append a t) q)
theorem stop_not {c : Nat} (h : stop2 c = true) : c ∉ hS ∧ c ∉ sS ∧ lo1 c = c := by
  unfold stop2 at h
  rw [Bool.or_eq_true, decide_eq_true_eq, decide_eq_true_eq] at h
  rcases h with rfl | rfl <;> decide
theorem lows_app (a b : List Nat) : lows (a ++ b) = lows a ++ lows b := List.map_append
theorem lows_stop {t : List Nat} (h : ∀ c r, t = c :: r → stop2 c = true) : ∀ c r, lows t = c :: r → stop2 c = true := fun c r e => by
  cases t with
  | nil => cases e
  | cons x t =>
    have hx := h x t rfl
    unfold lows at e
    rw [List.map_cons, List.cons.injEq] at e
    rw [← e.1, (stop_not hx).2.2]; exact hx
theorem schN_cut {a t : List Nat} (h : ∀ c r, t = c :: r → stop2 c = true) : schN (lows (a ++ t)) = schN (lows a) := by
  have ht := lows_stop h
  rw [lows_app]
  have e : ∀ g : List Nat, (∀ c, stop2 c = true → c ∉ g) → g.isPrefixOf (lows a ++ lows t) = g.isPrefixOf (lows a) := fun g hg => by
    rw [Bool.eq_iff_iff]
    exact ⟨fun p => pre_cut (fun c r e => hg c (ht c r e)) p, pre_app⟩
  unfold schN
  rw [e hS fun c hc => (stop_not hc).1, e sS fun c hc => (stop_not hc).2.1]
theorem schBad_cut {a t : List Nat} {k : Nat} (h : ∀ c r, t = c :: r → stop2 c = true) (b : Bad1 schB (lows a) k) : Bad1 schB (lows (a ++ t)) k := by
  have ht := lows_stop h
  rw [lows_app]
  rcases b with ⟨rfl, b2⟩ | ⟨b0, b1, b2, b3⟩
  · cases e : lows t with
    | nil => rw [List.append_nil]; exact .inl ⟨rfl, b2⟩
    | cons c r =>
      refine .inr ⟨by omega, by rw [List.length_append, List.length_cons]; omega, ?_, fun j hj => by rw [List.take_append_of_le_length (by omega)]; exact b2 j (by omega)⟩
      have hc := ht c r e
      have mem : c ∈ (lows a ++ c :: r).take ((lows a).length + 1) := by
        rw [List.take_length_add_append, List.take_succ_cons]
        exact List.mem_append_right _ (List.mem_cons_self ..)
      unfold schB
      rw [Bool.or_eq_false_iff]
      constructor
      · rw [Bool.eq_false_iff]
        exact fun p => (stop_not hc).1 ((List.isPrefixOf_iff_prefix.mp p).subset mem)
      · rw [Bool.eq_false_iff]
        exact fun p => (stop_not hc).2.1 ((List.isPrefixOf_iff_prefix.mp p).subset mem)
  · refine .inr ⟨b0, by rw [List.length_append]; omega, by rw [List.take_append_of_le_length b1]; exact b2, fun j hj => by rw [List.take_append_of_le_length (by omega)]; exact b3 j hj⟩
def beforeS (l : List Nat) : List Nat := l.takeWhile fun s => !decide (s = 47)
theorem hEnd_cut : ∀ {m t : List Nat}, (∀ s ∈ m, stop2 s = false) → (∀ c r, t = c :: r → stop2 c = true) → hEnd (m ++ t) = (beforeS m).length
  | [], t, _, h => by
    cases t with
    | nil => rfl
    | cons c r =>
      unfold hEnd
      rw [List.nil_append, List.takeWhile_cons_of_neg (by rw [stop23 (h c r rfl)]; exact Bool.false_ne_true)]; rfl
  | x :: m, t, hm, h => by
    have ih := hEnd_cut (m := m) (t := t) (fun s hs => hm s (List.mem_cons_of_mem _ hs)) h
    have hx := hm x (List.mem_cons_self ..)
    unfold hEnd beforeS at ih ⊢
    by_cases h47 : x = 47
    · subst h47
      rw [List.cons_append, List.takeWhile_cons_of_neg (by decide), List.takeWhile_cons_of_neg (by decide)]
    · have : stop3 x = false := by
        unfold stop3
        unfold stop2 at hx
        rw [hx, decide_eq_false h47]; rfl
      rw [List.cons_append, List.takeWhile_cons_of_pos (by rw [this]; rfl), List.takeWhile_cons_of_pos (by rw [decide_eq_false h47]; rfl), List.length_cons, List.length_cons, ih]
theorem beforeS_take (l : List Nat) : l.take (beforeS l).length = beforeS l := by
  have := List.takeWhile_prefix (fun s => !decide (s = 47)) (l := l)
  exact (List.prefix_iff_eq_take.mp this).symm
theorem beforeS_lows : ∀ {l : List Nat}, (∀ s ∈ l, s < 128) → beforeS (lows l) = lows (beforeS l)
  | [], _ => rfl
  | x :: l, h => by
    have ih := beforeS_lows (l := l) fun s hs => h s (List.mem_cons_of_mem _ hs)
    have key : ∀ c, c < 128 → (lo1 c = 47 ↔ c = 47) := by decide +kernel
    unfold lows beforeS at ih ⊢
    rw [List.map_cons]
    by_cases hx : x = 47
    · subst hx; rw [List.takeWhile_cons_of_neg (by decide), List.takeWhile_cons_of_neg (by decide)]; rfl
    · rw [List.takeWhile_cons_of_pos (by rw [decide_eq_false (fun e => hx ((key x (h x (List.mem_cons_self ..))).mp e))]; rfl), List.takeWhile_cons_of_pos (by rw [decide_eq_false hx]; rfl), List.map_cons, ih]
end Kb
namespace Kb
open PySem PySem.Spec PyProof.Rows L2 TL
theorem due_parts {L sc : List Nat} {n : Nat} (h : schN (lows (cutQ L)) = some (sc, n)) : ∃ t, (∀ c r, t = c :: r → stop2 c = true) ∧ schN (lows L) = some (sc, n) ∧ n ≤ (cutQ L).length ∧ n = sc.length + 3 ∧
    (L.drop n).take (hEnd (L.drop n)) = beforeS ((cutQ L).drop n) ∧ hEnd (L.drop n) = (beforeS ((cutQ L).drop n)).length ∧
    (L.drop n).drop (hEnd (L.drop n)) = ((cutQ L).drop n).drop (beforeS ((cutQ L).drop n)).length ++ t ∧ ∀ s ∈ cutQ L, stop2 s = false := by
  obtain ⟨t, e, h1, h2⟩ := cutQ_rest L
  obtain ⟨_, hn, hn3, _⟩ := schN_sc h
  have hn : n ≤ (cutQ L).length := by unfold lows at hn; rw [List.length_map] at hn; exact hn
  have ed : L.drop n = (cutQ L).drop n ++ t := by
    conv => lhs; rw [e]
    rw [List.drop_append_of_le_length hn]
  have eh : hEnd (L.drop n) = (beforeS ((cutQ L).drop n)).length := by
    rw [ed]
    exact hEnd_cut (fun s hs => h2 s (List.mem_of_mem_drop hs)) h1
  have lb : (beforeS ((cutQ L).drop n)).length ≤ ((cutQ L).drop n).length := (List.takeWhile_prefix _).length_le
  refine ⟨t, h1, ?_, hn, hn3, ?_, eh, ?_, h2⟩
  · conv => lhs; rw [e]
    rw [schN_cut h1]; exact h
  · rw [eh, ed, List.take_append_of_le_length lb, beforeS_take]
  · rw [eh, ed, List.drop_append_of_le_length lb]
theorem due_bad0 {L : List Nat} {k : Nat} (h : schN (lows (cutQ L)) = none) (b : Bad1 schB (lows (cutQ L)) k) : AddrBad L k := by
  obtain ⟨t, e, h1, h2⟩ := cutQ_rest L
  left
  constructor
  · conv => lhs; rw [e]
    rw [schN_cut h1]; exact h
  · rw [e]
    exact schBad_cut h1 b
theorem due_bad1 {L sc : List Nat} {n j : Nat} (h : schN (lows (cutQ L)) = some (sc, n)) (ht : tellsL (lows (beforeS ((cutQ L).drop n))) = false) (b : Bad1 goodL (lows (beforeS ((cutQ L).drop n))) j) : AddrBad L (n + j) := by
  obtain ⟨t, h1, h2, h3, h4, h5, h6, h7, h8⟩ := due_parts h
  exact .inr ⟨sc, n, h2, .inl ⟨by rw [h5]; exact ht, j, by rw [h5]; exact b, rfl⟩⟩
theorem due_bad2 {L sc : List Nat} {n i c : Nat} (h : schN (lows (cutQ L)) = some (sc, n)) (ht : tellsL (lows (beforeS ((cutQ L).drop n))) = true)
    (ha : ((((cutQ L).drop n).drop (beforeS ((cutQ L).drop n)).length).take i).all psign = true) (hi : i ≤ 200) (hc : (((cutQ L).drop n).drop (beforeS ((cutQ L).drop n)).length)[i]? = some c) (hp : psign c = false) :
    AddrBad L (n + (beforeS ((cutQ L).drop n)).length + i + 1) := by
  obtain ⟨t, h1, h2, h3, h4, h5, h6, h7, h8⟩ := due_parts h
  have hl := (List.getElem?_eq_some_iff.mp hc).1
  refine .inr ⟨sc, n, h2, .inr ⟨by rw [h5]; exact ht, i, ?_, by rw [h6]⟩⟩
  rw [h7]
  exact pathR_sign (c := c) (by rw [List.take_append_of_le_length (by omega)]; exact ha) hi (by rw [List.getElem?_append_left hl]; exact hc) (h8 c (List.mem_of_mem_drop (List.mem_of_mem_drop (List.mem_of_getElem? hc)))) hp
theorem due_ok {L sc : List Nat} {n : Nat} (h : schN (lows (cutQ L)) = some (sc, n)) (ht : tellsL (lows (beforeS ((cutQ L).drop n))) = true)
    (ha : (((cutQ L).drop n).drop (beforeS ((cutQ L).drop n)).length).all psign = true) (hl : (((cutQ L).drop n).drop (beforeS ((cutQ L).drop n)).length).length ≤ 200) :
    AddrOk L sc (stripDot (lows (beforeS ((cutQ L).drop n)))) (if ((cutQ L).drop n).drop (beforeS ((cutQ L).drop n)).length = [] then [47] else ((cutQ L).drop n).drop (beforeS ((cutQ L).drop n)).length) := by
  obtain ⟨t, h1, h2, h3, h4, h5, h6, h7, h8⟩ := due_parts h
  refine ⟨n, _, h2, by rw [h5]; exact ht, by rw [h5], by rw [h7]; exact path_tail ha hl h1, ?_⟩
  rw [h7]
  generalize ((cutQ L).drop n).drop (beforeS ((cutQ L).drop n)).length = S
  by_cases e : S = []
  · subst e; rfl
  · rw [if_neg e, if_neg (fun z => e (List.eq_nil_of_length_eq_zero z)), List.take_left]
theorem psign_law {c : Nat} (h1 : c ≠ 37) (h2 : stop2 c = false) : psign c = (decide (33 ≤ c) && decide (c ≤ 126) && decide (c ≠ 59)) := by
  unfold stop2 at h2
  rw [Bool.or_eq_false_iff, decide_eq_false_iff_not, decide_eq_false_iff_not] at h2
  unfold psign
  rw [decide_eq_true h1, decide_eq_true h2.1, decide_eq_true h2.2]
  simp
end Kb
namespace Kb
open PySem PySem.Spec PyProof.Rows L2 TL
def rInQ (K : PySem.W.Frag) (neg : Bool) : R2 := rIn K neg
end Kb
namespace Kb
open PySem PySem.Spec PyProof.Rows L2 TL
theorem split_head (x : Str) {c : Nat} (hc : c < 256) : ∃ y ys, Txt.split x ⟨#[c]⟩ = y :: ys ∧ tl y = (tl x).takeWhile fun s => !decide (s = c) := by
  have e := split_sp1 x hc
  obtain ⟨r, er⟩ := sp1_head c (tl x)
  rw [er] at e
  cases h : Txt.split x ⟨#[c]⟩ with
  | nil => rw [h] at e; cases e
  | cons y ys =>
    rw [h, List.map_cons, List.cons.injEq] at e
    exact ⟨y, ys, rfl, e.1⟩
/-- an address in a list, or the place -/
def D09 (H : Hp) (L : List Nat) (v : V) : Prop := (∃ (a b c : List Nat) (p q : Addr) (x y z : Str), AddrOk L a b c ∧ v = .ref p ∧ H p = some (.lst [.ref q]) ∧ H q = some (.tup [.str x, .str y, .str z]) ∧ tl x = a ∧ tl y = b ∧ tl z = c ∧ x.length ≤ 1000 ∧ y.length ≤ 1000 ∧ z.length ≤ 1000) ∨
  ∃ k : Nat, v = .int (k : Nat) ∧ AddrBad L k
theorem mark_sq : ("?" : Str) = ⟨#[63]⟩ := ext_tl (by decide +kernel)
theorem mark_sh : ("#" : Str) = ⟨#[35]⟩ := ext_tl (by decide +kernel)
end Kb
namespace Kb
open PySem PySem.Spec PyProof.Rows L2 TL
theorem at0 (v : V) (vs : List V) : atI (v :: vs) 0 = some v := by
  show atI (v :: vs) ((0 : Nat) : Int) = _
  exact atI_nat rfl
end Kb
namespace Kb
open PySem PySem.Spec PyProof.Rows L2 TL
theorem addr_ascii {L a b c : List Nat} (h : AddrOk L a b c) (hl : ∀ s ∈ L, s < 128) : (∀ s ∈ a, s < 128) ∧ (∀ s ∈ b, s < 128) ∧ ∀ s ∈ c, s < 128 := by
  obtain ⟨n, k, h1, h2, rfl, h4, rfl⟩ := h
  refine ⟨?_, ?_, ?_⟩
  · rcases (schN_sc h1).1 with ⟨rfl, _⟩ | ⟨rfl, _⟩ <;> decide
  · intro s hs
    have : s ∈ lows ((L.drop n).take (hEnd (L.drop n))) := by
      unfold stripDot at hs
      split at hs
      · exact (List.dropLast_sublist _).subset hs
      · exact hs
    obtain ⟨x, hx, rfl⟩ := List.mem_map.mp this
    exact low_lt x (hl x (List.mem_of_mem_drop (List.mem_of_mem_take hx)))
  · intro s hs
    split at hs
    · rw [List.mem_singleton.mp hs]; decide
    · exact hl s (List.mem_of_mem_drop (List.mem_of_mem_drop (List.mem_of_mem_take hs)))
def IsD9 (L : List Nat) (d : PyData) : Prop := (∃ (a b c : List Nat) (x y z : Str), AddrOk L a b c ∧ d = .list [.tuple [.str x, .str y, .str z]] ∧ tl x = a ∧ tl y = b ∧ tl z = c) ∨ ∃ k : Nat, d = .int (k : Nat) ∧ AddrBad L k
theorem IsD9.uniq {L : List Nat} {d e : PyData} (h : IsD9 L d) (g : IsD9 L e) : d = e := by
  rcases h with ⟨a, b, c, x, y, z, ok, rfl, ex, ey, ez⟩ | ⟨k, rfl, hk⟩ <;> rcases g with ⟨a', b', c', x', y', z', ok', rfl, ex', ey', ez'⟩ | ⟨k', rfl, hk'⟩
  · obtain ⟨rfl, rfl, rfl⟩ := ok.uniq ok'
    rw [ext_tl (ex.trans ex'.symm), ext_tl (ey.trans ey'.symm), ext_tl (ez.trans ez'.symm)]
  · exact (ok.bad hk').elim
  · exact (ok'.bad hk).elim
  · rw [hk.uniq hk']
theorem repr9 {K : PySem.W.Frag} {H : Hp} {L : List Nat} {v : V} (h : D09 H L v) (hl : ∀ s ∈ L, s < 128) (hn : L.length ≤ 900) : ∃ d, Dp K H v d ∧ d.showable = true ∧ d.hasDict = false ∧ d.shown.length ≤ sizeLine ∧ d.depth ≤ 64 ∧ IsD9 L d := by
  rcases h with ⟨a, b, c, p, q, x, y, z, ok, rfl, hp, hq, ex, ey, ez, lx, ly, lz⟩ | ⟨k, rfl, hk⟩
  · obtain ⟨aa, ab, ac⟩ := addr_ascii ok hl
    refine ⟨.list [.tuple [.str x, .str y, .str z]], .lst (SqL.of hp) (.cons (.tup (SqT.of hq) (dpAll_strs [x, y, z])) .nil), by simp [PyData.showable, PyData.showableAll], by simp [PyData.hasDict, PyData.hasDictAll], ?_, by simp [PyData.depth, PyData.depthAll], .inl ⟨a, b, c, x, y, z, ok, rfl, ex, ey, ez⟩⟩
    have big : ∀ u : Str, (∀ s ∈ tl u, s < 128) → PyData.leavesShort 8 (.str u) = true := fun u hu => by
      rw [PyData.leavesShort, List.all_eq_true]
      exact fun s hs => decide_eq_true (by have := hu s hs; omega)
    have := PySem.PyData.shown_le_bulk 8 (by decide) (.list [.tuple [.str x, .str y, .str z]]) (by
      simp only [PyData.leavesShort, PyData.leavesShortAll, Bool.and_true, Bool.and_eq_true]
      have h1 := big x (by rw [ex]; exact aa)
      have h2 := big y (by rw [ey]; exact ab)
      have h3 := big z (by rw [ez]; exact ac)
      simp only [PyData.leavesShort] at h1 h2 h3
      exact ⟨h1, h2, h3⟩)
    refine Nat.le_trans this (Nat.le_trans (m := 40000) ?_ (by decide))
    have e1 : x.cps.size = x.length := rfl
    have e2 : y.cps.size = y.length := rfl
    have e3 : z.cps.size = z.length := rfl
    simp only [PyData.bulk, PyData.bulkAll]
    omega
  · have := hk.le
    refine ⟨.int (k : Nat), .int _, ?_, rfl, ?_, by simp [PyData.depth], .inr ⟨k, rfl, hk⟩⟩
    · have h3 := Nat.log2_le_self k
      simp only [PyData.showable, Int.natAbs_natCast]
      exact decide_eq_true (by omega)
    · have := PyProof.Rows.toString_length_le (v := ((k : Nat) : Int)) (by omega) (k := 4) (by decide) (by
        have : ((10 : Int) ^ 4) = 10000 := by decide
        omega)
      exact Nat.le_trans this (by decide)
end Kb

namespace Kb
open PySem PySem.Spec PyProof.Rows L2 TL
/-! ### dates as texts -/
def lettL : List Nat := tl ("abcdefghijklmnopqrstuvwxyzABCDEFGHIJKLMNOPQRSTUVWXYZ" : Str)
def letB (c : Nat) : Bool := decide (c ∈ lettL)
def tokB (c : Nat) : Bool := decide (c ∈ lettL) || (decide (c ∈ digs) || decide (c = 58))
def toks : List Nat → List Nat → List (List Nat)
  | acc, [] => if acc = [] then [] else [acc]
  | acc, c :: l => if tokB c = true then toks (acc ++ [c]) l else if acc = [] then toks [] l else acc :: toks [] l
def fitT (l : List Nat) : Bool := (sp1 58 l).all (fun p => digB p && decide (p.length ≤ 2)) && decide ((sp1 58 l).length = 3)
def monN : List Str := ["Jan", "Feb", "Mar", "Apr", "May", "Jun", "Jul", "Aug", "Sep", "Oct", "Nov", "Dec"]
def monAt (l : List Nat) (i : Nat) : Bool := decide (lows (l.take 3) = lows ((monN.map tl).getD i []))
/-- the number of the month that a token tells, 0 for none -/
def monI (l : List Nat) : Nat := match (List.range 12).find? (monAt l) with
  | some i => i + 1
  | none => 0
def fitM (l : List Nat) : Bool := onlyB lettL l && decide (monI l ≠ 0)
def fitD (l : List Nat) : Bool := digB l && decide (l.length ≤ 2)
def fitY (l : List Nat) : Bool := digB l && (decide (l.length = 2) || decide (l.length = 4))
def fits (p : Nat) (l : List Nat) : Bool := match p with
  | 0 => fitT l
  | 1 => fitD l
  | 2 => fitM l
  | _ => fitY l
abbrev Fnd := List (Nat × Str)
def hasP (f : Fnd) (p : Nat) : Bool := f.any fun q => q.1 == p
def partI (f : Fnd) (l : List Nat) : Option Nat := (List.range 4).find? fun p => !hasP f p && fits p l
def stepD (f : Fnd) (t : Str) : Fnd := match partI f (tl t) with
  | some p => f ++ [(p, t)]
  | none => f
def leapB (y : Int) : Bool := decide (y % 4 = 0) && (decide (y % 100 ≠ 0) || decide (y % 400 = 0))
def monD : List Int := [31, 28, 31, 30, 31, 30, 31, 31, 30, 31, 30, 31]
def domI (y : Int) (m : Nat) : Int := if m = 2 ∧ leapB y = true then 29 else monD.getD (m - 1) 0
def dbmI (y : Int) (m : Nat) : Int := ((List.range (m - 1)).map fun i => domI y (i + 1)).sum
def dtoI (y : Int) : Int := (y - 1) * 365 + (y - 1) / 4 - (y - 1) / 100 + (y - 1) / 400
def dbfI (y : Int) : Int := dtoI y - dtoI 1970
def valL (l : List Nat) : Int := (NumText.digitsVal l : Nat)
def yearI (l : List Nat) : Int := if 2 < l.length then valL l else if valL l ≤ 69 then 2000 + valL l else 1900 + valL l
/-- the tick of four parts -/
def tickI (t d m y : List Nat) : Option Int :=
  let P := sp1 58 t
  let h := valL (P.getD 0 [])
  let mi := valL (P.getD 1 [])
  let s := valL (P.getD 2 [])
  if 23 < h ∨ 59 < mi ∨ 59 < s ∨ yearI y < 1601 then none else
  if ¬ (1 ≤ valL d ∧ valL d ≤ domI (yearI y) (monI m)) then none else
  if yearI y < 1970 then some 0 else
  some ((dbfI (yearI y) + dbmI (yearI y) (monI m) + valL d - 1) * 86400 + h * 3600 + mi * 60 + s)
def getP (f : Fnd) (p : Nat) : List Nat := match f.find? fun q => q.1 == p with
  | some q => tl q.2
  | none => []
/-- what a text tells -/
def dateF (ts : List Str) : Option Int :=
  let f := ts.foldl stepD []
  if f.length < 4 then none else tickI (getP f 0) (getP f 1) (getP f 2) (getP f 3)
end Kb
namespace Kb
def partN : List PySem.Str := ["time", "day", "month", "year"]
end Kb
namespace Kb
open PySem PySem.Spec PyProof.Rows L2 TL
def keyP (p : Nat) : Key := Sum.inr (partN.getD p "")
def fkv (f : Fnd) : List (Key × V) := f.map fun q => (keyP q.1, V.str q.2)
def FndAt (H : Hp) (a : Addr) (f : Fnd) : Prop := H a = some (.dK (fkv f)) ∧ ∀ q ∈ f, q.1 < 4
theorem keyP_inj : ∀ p q, p < 4 → q < 4 → keyP p = keyP q → p = q := by
  have h : ∀ p, p < 4 → ∀ q, q < 4 → (partN.getD p "" : Str) = partN.getD q "" → p = q := by decide +kernel
  exact fun p q hp hq e => h p hp q hq (Sum.inr.inj e)
theorem valP : ∀ {f : Fnd} {p : Nat}, (∀ q ∈ f, q.1 < 4) → p < 4 → valV (fkv f) (keyP p) = (f.find? fun q => q.1 == p).map fun q => V.str q.2
  | [], _, _, _ => rfl
  | q :: f, p, h, hp => by
    have ih := valP (f := f) (p := p) (fun r hr => h r (List.mem_cons_of_mem _ hr)) hp
    unfold valV fkv at ih ⊢
    rw [List.map_cons]
    by_cases e : q.1 = p
    · rw [List.find?_cons_of_pos (by simp [e]), List.find?_cons_of_pos (by simp [e])]; rfl
    · have : ¬ keyP q.1 = keyP p := fun z => e (keyP_inj _ _ (h q (List.mem_cons_self ..)) hp z)
      rw [List.find?_cons_of_neg (by simp [this]), List.find?_cons_of_neg (by simp [e])]
      exact ih
theorem hasP_find (f : Fnd) (p : Nat) : hasP f p = (f.find? fun q => q.1 == p).isSome := by
  unfold hasP
  rw [Bool.eq_iff_iff, List.find?_isSome, List.any_eq_true]
theorem putP {f : Fnd} {p : Nat} {t : Str} (h : ∀ q ∈ f, q.1 < 4) (hp : p < 4) (hn : hasP f p = false) : putK (fkv f) (keyP p) (.str t) = fkv (f ++ [(p, t)]) := by
  unfold putK
  rw [if_neg]
  · unfold fkv; rw [List.map_append]; rfl
  · intro z
    rw [List.any_eq_true] at z
    obtain ⟨kv, hk, e⟩ := z
    obtain ⟨q, hq, rfl⟩ := List.mem_map.mp hk
    have e := keyP_inj _ _ (h q hq) hp (of_decide_eq_true e)
    unfold hasP at hn
    rw [List.any_eq_false] at hn
    exact hn q hq (by simp [e])
end Kb
namespace Kb
open PySem PySem.Spec PyProof.Rows L2 TL
/-- the parts that were found -/
structure FndOk (f : Fnd) : Prop where
  lt : ∀ q ∈ f, q.1 < 4
  fit : ∀ q ∈ f, fits q.1 (tl q.2) = true ∧ ascii q.2 ∧ q.2.length ≤ 100000
  nd : (f.map (·.1)).Nodup
theorem FndOk.all {f : Fnd} (h : FndOk f) (h4 : 4 ≤ f.length) {p : Nat} (hp : p < 4) : ∃ t : Str, f.find? (fun q => q.1 == p) = some (p, t) ∧ getP f p = tl t ∧ fits p (tl t) = true ∧ ascii t ∧ t.length ≤ 100000 := by
  have hm : p ∈ f.map (·.1) := by
    match f, h4, h.lt, h.nd with
    | a :: b :: c :: d :: r, _, lt, nd =>
      simp only [List.map_cons, List.nodup_cons, List.mem_cons, not_or] at nd
      have l1 := lt a (by simp)
      have l2 := lt b (by simp)
      have l3 := lt c (by simp)
      have l4 := lt d (by simp)
      simp only [List.map_cons, List.mem_cons]
      have : p = a.1 ∨ p = b.1 ∨ p = c.1 ∨ p = d.1 := by
        have n1 := nd.1.1
        have n2 := nd.1.2.1
        have n3 := nd.1.2.2.1
        have n4 := nd.2.1.1
        have n5 := nd.2.1.2.1
        have n6 := nd.2.2.1.1
        omega
      rcases this with e | e | e | e
      · exact .inl e
      · exact .inr (.inl e)
      · exact .inr (.inr (.inl e))
      · exact .inr (.inr (.inr (.inl e)))
  obtain ⟨q, hq, e⟩ := List.mem_map.mp hm
  cases hf : f.find? fun q => q.1 == p with
  | none =>
    have := List.find?_eq_none.mp hf q hq
    simp [e] at this
  | some z =>
    have h1 : z.1 = p := by have := List.find?_some hf; simpa using this
    have h2 := List.mem_of_find?_eq_some hf
    obtain ⟨z1, z2⟩ := z
    have h1 : z1 = p := h1
    subst h1
    obtain ⟨f1, f2, f3⟩ := h.fit _ h2
    exact ⟨z2, rfl, by unfold getP; rw [hf], f1, f2, f3⟩
theorem FndOk.step {f : Fnd} (h : FndOk f) {t : Str} (ht : ascii t) (hl : t.length ≤ 100000) : FndOk (stepD f t) := by
  unfold stepD
  cases e : partI f (tl t) with
  | none => exact h
  | some p =>
    unfold partI at e
    obtain ⟨h1, h2, _⟩ := List.find?_range_eq_some.mp e
    have hp := List.mem_range.mp h2
    rw [Bool.and_eq_true, Bool.not_eq_true'] at h1
    refine ⟨fun q hq => ?_, fun q hq => ?_, ?_⟩
    · rcases List.mem_append.mp hq with m | m
      · exact h.lt q m
      · rw [List.mem_singleton.mp m]; exact hp
    · rcases List.mem_append.mp hq with m | m
      · exact h.fit q m
      · rw [List.mem_singleton.mp m]; exact ⟨h1.2, ht, hl⟩
    · rw [List.map_append, List.nodup_append]
      refine ⟨h.nd, by simp, fun a ha b hb => ?_⟩
      rw [List.map_singleton, List.mem_singleton] at hb
      obtain ⟨q, hq, rfl⟩ := List.mem_map.mp ha
      intro z
      have := h1.1
      unfold hasP at this
      rw [List.any_eq_false] at this
      exact this q hq (by simp [z, hb])
end Kb
namespace Kb
open PySem PySem.Spec PyProof.Rows L2 TL
theorem valL_nn (l : List Nat) : 0 ≤ valL l := Int.natCast_nonneg _
end Kb
namespace Kb
open PySem PySem.Spec PyProof.Rows L2 TL
theorem val_small (l : List Nat) (h : digB l = true) (hl : l.length ≤ 4) : 0 ≤ valL l ∧ valL l ≤ 9999 := by
  have ad := (digB_iff.mp h).1
  have key : ∀ c ∈ l, 48 ≤ c ∧ c ≤ 57 := fun c hc => ad c hc
  unfold valL
  match l, hl, key with
  | [], _, _ => simp [NumText.digitsVal]
  | [a], _, k => have := k a (by simp); simp only [NumText.digitsVal, List.foldl]; omega
  | [a, b], _, k => have := k a (by simp); have := k b (by simp); simp only [NumText.digitsVal, List.foldl]; omega
  | [a, b, c], _, k => have := k a (by simp); have := k b (by simp); have := k c (by simp); simp only [NumText.digitsVal, List.foldl]; omega
  | [a, b, c, d], _, k => have := k a (by simp); have := k b (by simp); have := k c (by simp); have := k d (by simp); simp only [NumText.digitsVal, List.foldl]; omega
  | a :: b :: c :: d :: e :: r, hl, _ => simp at hl
end Kb
namespace Kb
open PySem PySem.Spec PyProof.Rows L2 TL
def mkS (l : List Nat) : Str := ⟨l.toArray⟩
theorem mkS_tl (x : Str) : mkS (tl x) = x := ext_tl rfl
theorem ts_mk {ts : List Str} {L : List (List Nat)} (h : ts.map tl = L) : ts = L.map mkS := by
  rw [← h, List.map_map]
  exact (List.map_id ts).symm.trans (List.map_congr_left fun x _ => (mkS_tl x).symm)
def dateR (l : List Nat) : Option Int := dateF ((toks [] l).map mkS)
theorem toks_mem : ∀ (l acc t : List Nat), t ∈ toks acc l → (∀ s ∈ t, s ∈ acc ∨ s ∈ l) ∧ t.length ≤ acc.length + l.length
  | [], acc, t, h => by
    unfold toks at h
    split at h
    · cases h
    · rw [List.mem_singleton.mp h]; exact ⟨fun s hs => .inl hs, by simp⟩
  | c :: l, acc, t, h => by
    unfold toks at h
    split at h
    · obtain ⟨h1, h2⟩ := toks_mem l _ t h
      refine ⟨fun s hs => ?_, by rw [List.length_append] at h2; simp at h2 ⊢; omega⟩
      rcases h1 s hs with m | m
      · rcases List.mem_append.mp m with m | m
        · exact .inl m
        · exact .inr (by rw [List.mem_singleton.mp m]; exact List.mem_cons_self ..)
      · exact .inr (List.mem_cons_of_mem _ m)
    · split at h
      · obtain ⟨h1, h2⟩ := toks_mem l _ t h
        refine ⟨fun s hs => ?_, by simp at h2 ⊢; omega⟩
        rcases h1 s hs with m | m
        · cases m
        · exact .inr (List.mem_cons_of_mem _ m)
      · rcases List.mem_cons.mp h with rfl | h
        · exact ⟨fun s hs => .inl hs, by simp⟩
        · obtain ⟨h1, h2⟩ := toks_mem l _ t h
          refine ⟨fun s hs => ?_, by simp at h2 ⊢; omega⟩
          rcases h1 s hs with m | m
          · cases m
          · exact .inr (List.mem_cons_of_mem _ m)
theorem stepD_len (f : Fnd) (t : Str) : f.length ≤ (stepD f t).length ∧ (stepD f t).length ≤ f.length + 1 := by
  unfold stepD
  split
  · rw [List.length_append]; exact ⟨by omega, Nat.le_refl _⟩
  · exact ⟨Nat.le_refl _, by omega⟩
end Kb
namespace Kb
theorem toks_len : ∀ (l acc : List Nat), (toks acc l).length ≤ l.length + 1
  | [], acc => by unfold toks; split <;> simp
  | c :: l, acc => by
    have h1 := toks_len l (acc ++ [c])
    have h2 := toks_len l []
    unfold toks
    split
    · simp; omega
    · split
      · simp; omega
      · simp; omega
end Kb

namespace Kb
open PySem PySem.Spec PyProof.Rows L2 TL PySem.Calls PySem.NumText
/-! ### the attributes of lines: what a value tells, the word of a defect -/
def lowS (x : Str) : Str := mkS ((tl x).map lo1)
theorem lowS_eq {x : Str} (h : ascii x) : Txt.lower x = lowS x := ext_tl (by rw [lower_tl h]; rfl)
/-- without one sign c in front -/
def offS (c : Nat) (x : Str) : Str := match tl x with
  | [] => x
  | y :: l => if y = c then mkS l else x
theorem offS_eq (x : Str) {c : Nat} (hc : c < 256) : Txt.removeprefix x ⟨#[c]⟩ = offS c x := by
  unfold offS
  have e : tl (⟨#[c]⟩ : Str) = [c] := rfl
  split
  · next h => exact removeprefix_miss (by rw [e, h]; simp)
  · next y l h =>
    by_cases g : y = c
    · rw [if_pos g]; subst g
      exact ext_tl (removeprefix_hit (b := l) (by rw [e, h]; rfl))
    · rw [if_neg g]
      exact removeprefix_miss (by rw [e, h]; intro q; obtain ⟨r, q⟩ := q; simp at q; exact g q.1.symm)
def flagB (z : Str) : Bool := decide (z = "secure") || decide (z = "httponly") || decide (z = "partitioned")
def defTab : List (Str × V) := [("expires", .str "date"), ("max-age", .str "age"), ("domain", .str "domain"), ("path", .str "path"), ("samesite", .str "same"), ("priority", .str "priority")]
def optI : Option Int → V
  | some n => .int n
  | none => .non
def intR (l : List Nat) : Int := match l with
  | 45 :: l => -(digitsVal l : Int)
  | l => (digitsVal l : Int)
def ageR (x : Str) : V := if digB (tl (offS 45 x)) = true then .int (min (max (intR (tl x)) 0) 34560000) else .non
def domR (x : Str) : V := if hostB (tl (lowS (offS 46 x))) = true then .str (lowS (offS 46 x)) else .non
def samR (x : Str) : V := if lowS x = "strict" ∨ lowS x = "lax" ∨ lowS x = "none" then .str (lowS x) else .non
def priR (x : Str) : V := if lowS x = "low" then .int 0 else if lowS x = "medium" then .int 1 else if lowS x = "high" then .int 2 else .non
def toldR (z x : Str) : V := if z = "expires" then optI (dateR (tl x)) else if z = "max-age" then ageR x else if z = "domain" then domR x else if z = "path" then (if pathB (tl x) = true then .str x else .non) else if z = "samesite" then samR x else priR x
def nonB : V → Bool
  | .non => true
  | _ => false
/-- the defect of a piece but for a second one -/
def defR (z : Str) (v : Option Str) : Option Str :=
  if z = "" ∧ v.isNone = true then some "nothing"
  else if flagB z = false ∧ (lookL defTab z).isSome = false then some "unknown"
  else if (match v with | some x => decide (1024 < x.length) | none => false) = true then some "long"
  else if flagB z = true then (if v.isSome = true then some "value" else none)
  else if (match v with | none => true | some x => nonB (toldR z x)) = true then (match lookL defTab z with | some (.str d) => some d | _ => none)
  else none
def wordR (z : Str) (v : Option Str) (kvs : List (L2.Key × V)) : Option Str := match defR z v with
  | some w => some w
  | none => if (valV kvs (.inr z)).isSome = true then some "again" else none
def keepsB : Option Str → Bool
  | none => true
  | some w => decide (w = "value") || decide (w = "again")
def worthR (z : Str) (v : Option Str) : V := if flagB z = true then .bl true else toldR z (v.getD "")
def stepJ (st : List (Int × Str) × List (L2.Key × V)) (i : Int) (c : Str × Option Str) : List (Int × Str) × List (L2.Key × V) :=
  ((match wordR (lowS c.1) c.2 st.2 with | some w => st.1 ++ [(i, w)] | none => st.1),
   if keepsB (wordR (lowS c.1) c.2 st.2) = true then putK st.2 (.inr (lowS c.1)) (worthR (lowS c.1) c.2) else st.2)
def runJ : Int → List (Str × Option Str) → List (Int × Str) × List (L2.Key × V) → List (Int × Str) × List (L2.Key × V)
  | _, [], st => st
  | i, c :: r, st => runJ (i + 1) r (stepJ st i c)
theorem runJ_snoc : ∀ (L : List (Str × Option Str)) (i : Int) (c : Str × Option Str) (st : List (Int × Str) × List (L2.Key × V)), runJ i (L ++ [c]) st = stepJ (runJ i L st) (i + L.length) c
  | [], i, c, st => by simp [runJ]
  | d :: r, i, c, st => by
    show runJ (i + 1) (r ++ [c]) _ = stepJ (runJ (i + 1) r _) (i + ((r.length + 1 : Nat) : Int)) c
    rw [runJ_snoc r, show i + 1 + (r.length : Int) = i + ((r.length + 1 : Nat) : Int) by omega]
end Kb

namespace Kb
open PySem PySem.Spec PyProof.Rows L2 TL
/-! ### menus: lists of written values, lists of written tuples -/
theorem keep_new {d p : Addr} {H H1 : Hp} {o : HO} (hp : H p = none) (k : Keep d (upd H p o) H1) : Keep d H H1 := Same.then (Same.new hp) k
def Giv (te : TE) (v : V) : Prop := ∀ (σ : L2.St) (H : Hp) (Q : VK), Q v H → te σ H Q
theorem giv_c {v : V} : Giv (tC v) v := fun _ _ _ q => q
def repS (n : Nat) (a : Str) : Str := mkS ((List.replicate n (tl a)).flatten)
theorem giv_mul {a : Str} {n : Int} (h1 : n ≤ 4000 := by decide) (h2 : 0 ≤ n := by decide) (h3 : a.length ≤ 4000 := by decide +kernel) : Giv (tOp rMulS (tC (.str a)) (tC (.int n))) (.str (repS n.toNat a)) := fun σ H Q q =>
  ⟨a, n, rfl, rfl, h1, h2, h3, fun z hz => (ext_tl (hz.trans rfl) : z = repS n.toNat a) ▸ q⟩
def catS (a b : Str) : Str := mkS (tl a ++ tl b)
theorem catS_eq (a b : Str) : a ++ b = catS a b := ext_tl (tl_append ..)
theorem giv_add {ta tb : TE} {a b : Str} (ha : Giv ta (.str a)) (hb : Giv tb (.str b)) (hl : a.length + b.length ≤ 100000 := by decide +kernel) :
    Giv (tOp (fun x y H Q => ∃ i j, x = .str i ∧ y = .str j ∧ i.length + j.length ≤ sizeLine ∧ Q (.str (i ++ j)) H) ta tb) (.str (catS a b)) := fun σ H Q q =>
  ha σ H _ (hb σ H _ ⟨a, b, rfl, rfl, Nat.le_trans hl (by decide), (catS_eq a b).symm ▸ q⟩)
def GivA (t : TA) (vs : List V) : Prop := ∀ (σ : L2.St) (H : Hp) (Q : List V → Hp → Prop), Q vs H → t σ H Q
theorem giv_nil : GivA tNil [] := fun _ _ _ q => q
theorem giv_cons {te : TE} {t : TA} {v : V} {vs : List V} (h : Giv te v) (r : GivA t vs) : GivA (tCons te t) (v :: vs) := fun σ H Q q => h σ H _ (r σ H _ q)
theorem giv_lst {t : TA} {vs : List V} {σ : L2.St} {H : Hp} {Q : VK} (h : GivA t vs) (hl : vs.length ≤ 1000) (q : ∀ p, H p = none → Q (.ref p) (upd H p (.lst vs))) : tLst t σ H Q :=
  h σ H _ ⟨Nat.le_trans hl (by decide), q⟩
def TupsAt (H : Hp) : List Addr → List (List V) → Prop
  | [], [] => True
  | q :: qs, c :: cs => H q = some (.tup c) ∧ TupsAt H qs cs
  | _, _ => False
theorem TupsAt.same {H H' : Hp} (s : Same H H') : ∀ {qs : List Addr} {cs : List (List V)}, TupsAt H qs cs → TupsAt H' qs cs
  | [], [], _ => trivial
  | _ :: _, _ :: _, h => ⟨s _ _ h.1, TupsAt.same s h.2⟩
theorem TupsAt.keep {d : Addr} {n : Nat} {H H' : Hp} (s : Keep d H H') (D : DrawAt H d n) : ∀ {qs : List Addr} {cs : List (List V)}, TupsAt H qs cs → TupsAt H' qs cs
  | [], [], _ => trivial
  | q :: _, _ :: _, h => ⟨s _ _ h.1 (fun z => by obtain ⟨_, _, _, m, _⟩ := D; have := h.1; rw [z, m] at this; cases this), TupsAt.keep s D h.2⟩
theorem TupsAt.app {H : Hp} : ∀ {qs qs2 : List Addr} {cs cs2 : List (List V)}, TupsAt H qs cs → TupsAt H qs2 cs2 → TupsAt H (qs ++ qs2) (cs ++ cs2)
  | [], _, [], _, _, h => h
  | _ :: _, _, _ :: _, _, h, h2 => ⟨h.1, TupsAt.app h.2 h2⟩
theorem TupsAt.len {H : Hp} : ∀ {qs : List Addr} {cs : List (List V)}, TupsAt H qs cs → qs.length = cs.length
  | [], [], _ => rfl
  | _ :: _, _ :: _, h => by rw [List.length_cons, List.length_cons, TupsAt.len h.2]
theorem TupsAt.mem {H : Hp} {v : V} : ∀ {qs : List Addr} {cs : List (List V)}, TupsAt H qs cs → v ∈ qs.map V.ref → ∃ q c, v = .ref q ∧ c ∈ cs ∧ H q = some (.tup c)
  | [], [], _, h => by simp at h
  | q :: _, c :: _, h, hv => by
    rw [List.map_cons] at hv
    rcases List.mem_cons.mp hv with z | z
    · exact ⟨q, c, z, List.mem_cons_self .., h.1⟩
    · obtain ⟨q2, c2, e1, e2, e3⟩ := TupsAt.mem h.2 z
      exact ⟨q2, c2, e1, List.mem_cons_of_mem _ e2, e3⟩
def Rows (t : TA) (L : List (List V)) : Prop := ∀ (σ : L2.St) (H : Hp) (Q : List V → Hp → Prop), (∀ qs H1, Same H H1 → TupsAt H1 qs L → Q (qs.map V.ref) H1) → t σ H Q
theorem rows_nil : Rows tNil [] := fun _ H _ h => h [] H (Same.refl _) trivial
theorem rows_cons {ta t : TA} {c : List V} {L : List (List V)} (h : GivA ta c) (r : Rows t L) (hl : c.length ≤ 1000 := by decide) : Rows (tCons (tTup ta) t) (c :: L) := fun σ H Q q =>
  h σ H _ ⟨Nat.le_trans hl (by decide), fun p hp => r σ _ _ fun qs H1 s1 ht => q (p :: qs) H1 ((Same.new hp).trans s1) ⟨s1 _ _ upd_same, ht⟩⟩
theorem rows_lst {t : TA} {L : List (List V)} {σ : L2.St} {H : Hp} {Q : VK} (R : Rows t L) (hl : L.length ≤ 1000) (q : ∀ p qs H1, Same H H1 → TupsAt H1 qs L → H1 p = some (.lst (qs.map V.ref)) → H p = none → Q (.ref p) H1) : tLst t σ H Q :=
  R σ H _ fun qs H1 s1 ht => ⟨Nat.le_trans (by rw [List.length_map, ht.len]; exact hl : _ ≤ 1000) (by decide), fun p hp => q p qs _ (s1.trans (Same.new hp)) (ht.same (Same.new hp)) upd_same (s1.free hp)⟩
theorem rows_tup {t : TA} {L : List (List V)} {σ : L2.St} {H : Hp} {Q : VK} (R : Rows t L) (hl : L.length ≤ 1000) (q : ∀ p qs H1, Same H H1 → TupsAt H1 qs L → H1 p = some (.tup (qs.map V.ref)) → H p = none → Q (.ref p) H1) : tTup t σ H Q :=
  R σ H _ fun qs H1 s1 ht => ⟨Nat.le_trans (by rw [List.length_map, ht.len]; exact hl : _ ≤ 1000) (by decide), fun p hp => q p qs _ (s1.trans (Same.new hp)) (ht.same (Same.new hp)) upd_same (s1.free hp)⟩
theorem rows_cat {t : TA} {L L1 : List (List V)} {i : Nat} {σ : L2.St} {H : Hp} {Q : VK} {p1 : Addr} {qs1 : List Addr} (R : Rows t L) (hσ : ∀ Q' : VK, Q' (.ref p1) H → tVar i σ H Q') (m1 : H p1 = some (.lst (qs1.map V.ref))) (t1 : TupsAt H qs1 L1) (hl : L1.length ≤ 1000) (hl2 : L.length ≤ 1000)
    (q : ∀ p qs H1, Same H H1 → TupsAt H1 qs (L1 ++ L) → H1 p = some (.lst (qs.map V.ref)) → H p = none → Q (.ref p) H1) : tOp rCat (tVar i) (tLst t) σ H Q :=
  hσ _ (rows_lst R hl2 fun p2 qs2 H2 s2 t2 m2 _ => ⟨p1, p2, _, _, rfl, rfl, s2 _ _ m1, m2, Nat.le_trans (by rw [List.length_map, List.length_map, t1.len, t2.len]; omega : _ ≤ 2000) (by decide), fun p3 hp3 =>
    q p3 (qs1 ++ qs2) _ (s2.trans (Same.new hp3)) (((t1.same s2).app t2).same (Same.new hp3)) (by rw [upd_same, List.map_append]) (s2.free hp3)⟩)
theorem seq_asg {te : TE} {g : TG} {b : TS} {D : Ends} {σ : L2.St} {H : Hp} (h : te σ H fun x H1 => g x σ H1 (b D)) : tSeq (tAsg te g) b D σ H := h
end Kb

namespace Kb
open PySem PySem.Spec PyProof.Rows L2
/-! ### own classes: what of the text is asked; == by an own def -/
structure ClsO (K : PySem.W.Frag) (C : Addr) : Prop where
  cl : Cls K C
  ca : PySem.W.findIn K (.ref C) "__class__" = some (some (.builtin "object.__class__"))
  cn : PySem.W.specialIn K (.builtin "object.__class__") "__get__" = some (some (.builtin "getset_descriptor.__get__"))
  ct : PySem.W.takesIn K (.builtin "object.__class__") = some true
  cm : PySem.W.mroIn K C (.type "object") = some true
theorem ClsO.ty {K : PySem.W.Frag} {H : Hp} {a C dx : Addr} {fs : List (Str × V)} (c : ClsO K C) (e : H a = some (.ins C dx fs)) : TyX K H (.ref a) (.ref C) := .base (.ins e c.cl c.ca c.cn c.ct c.cm)
/-- x == y, x an instance of the class at C, which has an own def for it -/
def rEqOwn (K : PySem.W.Frag) (C : Addr) (sp : Sp) (E : XK) : R2 := fun x y H Q => ∃ a dx fs t, x = .ref a ∧ H a = some (.ins C dx fs) ∧ TyX K H y t ∧ PySem.W.notFirst K C t = true ∧ sp [x, y] H Q E
section
variable {X : Cx} {CX : CXT} {n : Nat} {C g : Addr} {sp : Sp} {E : XK} {fd : FuncData} {ps : List Str}
theorem op_eqOwn {op : CmpOp} (hop : ∀ a b, compareOp op a b = richCompare op a b) (hs : PySem.W.findIn X.K (.ref C) (cmpInfo op).2.1 = some (some (.ref g))) (hf : PySem.W.isFn X.K (.ref g) = true) (F : FnR X.prog X.w X.K X.mg X.base CX n g sp)
    (hr : Room n X.A) (hx : Passes CX X E) : OpR X (compareOp op) (rEqOwn X.K C sp E) := by
  intro pins s σ H x y v u Q I rx ry h
  obtain ⟨a, dx, fs, t, rfl, ha, ty, hn, q⟩ := h
  cases (show v = Value.ref a from rx)
  obtain ⟨mA, O, _⟩ := ins_get I.hok ha
  obtain ⟨od, J, _⟩ := O.look
  obtain ⟨m, hF⟩ := I.fr
  obtain ⟨P, Z, p, hx2⟩ := kit_of I ry ty
  rw [hop]
  refine PySem.W.cmp_K (op := op) (tb := t) hr.units0 hF I.ok.mod.kin J ?_ hn hs hf ?_
  · exact Z.ty _ _ I.kIn p
  refine wpAny_mono (wpAny_call (run_fnR (us := [.ref a, u]) (vs := [.ref a, y]) F hr hx I (.cons rfl (.cons ry .nil)) q)) (fun w s' z => ?_) fun _ _ x => x
  obtain ⟨z', H', I', rz, qz⟩ := z
  exact SlX.cmpback rz ⟨z', H', I', rz, qz⟩
end
end Kb
namespace Kb
open PySem PySem.Spec PyProof.Rows L2
/-! ### defs of a class's body -/
def NoAs (K : PySem.W.Frag) (C : Addr) : List Str → Prop
  | [] => True
  | f :: r => NoAttr K C f ∧ NoAs K C r
theorem NoAs.get {K : PySem.W.Frag} {C : Addr} {f : Str} : ∀ {l : List Str}, NoAs K C l → f ∈ l → NoAttr K C f
  | _ :: _, h, m => (List.mem_cons.mp m).elim (fun e => e ▸ h.1) fun m => NoAs.get h.2 m
/-- the class x stands at C -/
structure OwnC (K : PySem.W.Frag) (mg : Str → Option Value) (x : Str) (fs : List Str) (C : Addr) : Prop where
  g : mg x = some (.ref C)
  o : ClsO K C
  mks : PySem.W.makesIn K C = true
  kp : PySem.W.keepIn K (.ref C) = true
  na : NoAs K C fs
  ty : PySem.W.typeIn K (.ref C) = some (.type "type")
  ic : PySem.W.isClsIn K C = true
def tyV : Value → Bool
  | .type _ => true
  | _ => false
/-- a built-in type's instance is none of an own class -/
theorem OwnC.kitT {K : PySem.W.Frag} {mg : Str → Option Value} {x : Str} {fs : List Str} {C : Addr} (o : OwnC K mg x fs C) {T : String} (h : (fastBuiltinMro T).elim false (·.all tyV) = true) : PySem.W.kitOne K (.type T) (.ref C) = some false ∧ PySem.W.notFirst K C (.type T) = true := by
  have hs : PySem.W.subIn K (.type T) (.ref C) = some false := by
    show (fastBuiltinMro T).map (·.contains (Value.ref C)) = some false
    cases hl : fastBuiltinMro T with
    | none => rw [hl] at h; cases h
    | some l =>
      rw [hl] at h
      have h : l.all tyV = true := h
      rw [Option.map_some]
      refine congrArg some ?_
      rw [Bool.eq_false_iff]
      intro z
      rw [List.contains_iff_exists_mem_beq] at z
      obtain ⟨a, ha, e⟩ := z
      have := List.all_eq_true.mp h a ha
      cases a <;> first | (exact Bool.noConfusion (show false = true from this)) | (exact Bool.noConfusion (show false = true from e)) | (simp [BEq.beq] at e; done)
  have hc := o.ic
  unfold PySem.W.isClsIn at hc
  refine ⟨?_, ?_⟩
  · unfold PySem.W.kitOne PySem.W.kitCls
    simp [hc, o.ty, hs]
  · unfold PySem.W.notFirst
    rw [hs]; simp
/-- .. nor an instance of another own class -/
theorem OwnC.kitC {K : PySem.W.Frag} {mg : Str → Option Value} {x : Str} {fs : List Str} {C D : Addr} (o : OwnC K mg x fs C) (hs : PySem.W.subIn K (.ref D) (.ref C) = some false) (hn : D ≠ C) : PySem.W.kitOne K (.ref D) (.ref C) = some false ∧ PySem.W.notFirst K C (.ref D) = true := by
  have hc := o.ic
  unfold PySem.W.isClsIn at hc
  refine ⟨?_, ?_⟩
  · unfold PySem.W.kitOne PySem.W.kitCls
    simp [hc, o.ty, hs, hn]
  · unfold PySem.W.notFirst
    rw [hs]; simp
theorem OwnC.first {K : PySem.W.Frag} {C : Addr} : PySem.W.notFirst K C (.ref C) = true := by
  unfold PySem.W.notFirst
  simp
/-- the def m of the class at C -/
def MthT (K : PySem.W.Frag) (mg : Str → Option Value) (x m qual : Str) (st : Stmt) (ps : List Str) : Prop :=
  ∃ (C f : Addr) (fd : FuncData), mg x = some (.ref C) ∧ PySem.W.findIn K (.ref C) m = some (some (.ref f)) ∧ PySem.W.isFn K (.ref f) = true ∧ Fun K m qual st f fd ∧ ∀ us : List Value, us.length = ps.length → bindArgs fd ⟨us, []⟩ = pure (ps.zip us)
theorem MthT.mk {K : PySem.W.Frag} {mg : Str → Option Value} {h : Heap} {x m qual : Str} {st : Stmt} {ps : List Str} {C f : Addr} {oc : Value} {od an : Option Addr} {sl : Array (Option Value)} {kV doc pm cd ct : Value} (X : K.In h) (G : h.Ns PySem.mainGlobals mg)
    (b : ∀ (kV doc pm : Value) (an : Option Addr) (cdv ct : Value) (us : List Value), us.length = ps.length → bindArgs (PySem.W.fnOf m qual (defArgs st) (defBody st) (defScope st) .none kV doc pm an cdv ct) ⟨us, []⟩ = pure (ps.zip us))
    (a : PySem.W.nsIn K PySem.mainGlobals x = some (some (.ref C))) (i : PySem.W.findIn K (.ref C) m = some (some (.ref f))) (n : PySem.W.isFn K (.ref f) = true)
    (l : K.lookup f = some ⟨oc, od, .func (PySem.W.fnOf m qual (defArgs st) (defBody st) (defScope st) .none kV doc pm an cd ct), sl⟩)
    (c : PySem.W.codeIn K cd qual = true) (k : PySem.W.keepIn K (.ref f) = true) : MthT K mg x m qual st ps :=
  ⟨C, f, _, PySem.W.mg_of X G a, i, n, fun_mk l c k, b kV doc pm an cd ct⟩
/-- .. and its promise -/
def CalM (P : Program) (w : World) (K : PySem.W.Frag) (mg : Str → Option Value) (base : Heap) (CX : CXT) (k : Nat) (x m : Str) (ps : List Str) (sp : Sp) : Prop :=
  ∃ (C f : Addr) (fd : FuncData), mg x = some (.ref C) ∧ PySem.W.findIn K (.ref C) m = some (some (.ref f)) ∧ PySem.W.isFn K (.ref f) = true ∧ FnOk P w K mg base CX k f fd ps sp ∧ Binds K fd ps []
section
variable {P : Program} {w : World} {K : PySem.W.Frag} {mg : Str → Option Value} {base : Heap}
theorem MthT.ok0 {x m qual : Str} {st : Stmt} {N ps : List Str} {k : Nat} {sp : Sp} (D : MthT K mg x m qual st ps) (S : FnScope N ps (defScope st)) (len : ∀ vs H Q E, sp vs H Q E → vs.length = ps.length)
    (hbody : ∀ (f : Addr) (cdv : Value) (A : Around) (outer : List Env) (s : Shared) (H : Hp) (vs : List V) (Q : VK) (E : XK), Room k (A.deeper (envOfC qual (defScope st) s.heap.objs.size f cdv)) → sp vs H Q E →
      ∃ t, PSs (cxOf CX0 P w K mg base N qual (defScope st) f cdv A outer s H E).nox (defBody st) t ∧ t { nx := fun _ H' => Q .non H', rt := Q } (start N vs) H) : CalM P w K mg base CX0 (k + 1) x m ps sp := by
  obtain ⟨C, f, fd, g, i, n, F, b⟩ := D
  exact ⟨C, f, fd, g, i, n, F.ok S len (hbody f), .all b⟩
end
section
variable {X : Cx} {CX : CXT} {j k : Nat} {x : Str} {ps fs : List Str} {sp : Sp} {E : XK} {C : Addr}
/-- C(e, ..) -/
theorem pe_mkC {p pos : Pos} {e : Expr} {es : List Expr} {t : TA} (o : OwnC X.K X.mg x fs C) (c : CalM X.prog X.w X.K X.mg X.base CX j x "__init__" ps sp) (hr : Room k X.A) (hjk : j + 1 ≤ k) (hg : Gl X x) (hx : Passes CX X E)
    (ha : PA X (e :: es) t) (hdb : (x == ("__debug__" : Str)) = false := by decide) (he : starEach (e :: es) X.env = (false, eval e X.env) :: starEach es X.env := by rfl) (hpl : (backTo pos (starEach es X.env)).any (·.1) = false := by rfl) :
    PE X (.Call (.Name x p) (e :: es) [] pos) (tMake C sp [] E t) := by
  obtain ⟨C', f, fd, g, i, n, F, b⟩ := c
  obtain rfl : C' = C := by have := g.symm.trans o.g; cases this; rfl
  exact pe_make ⟨o.mks, i, n, o.kp⟩ F (hr.mono hjk) hg o.g b .nil hx ha hdb he hpl
/-- x == y by the def of x's class -/
theorem op_eqM (o : OwnC X.K X.mg x fs C) (c : CalM X.prog X.w X.K X.mg X.base CX j x "__eq__" ps sp) (hr : Room k X.A) (hjk : j ≤ k) (hx : Passes CX X E) (hl : ∀ vs H Q E, sp vs H Q E → vs.length = ps.length) : OpR X (compareOp .Eq) (rEqOwn X.K C sp E) := by
  obtain ⟨C', f, fd, g, i, n, F, b⟩ := c
  obtain rfl : C' = C := by have := g.symm.trans o.g; cases this; rfl
  refine op_eqOwn (fun _ _ => rfl) i n ((F.raw b .nil).imp fun vs H Q E h => ?_) (hr.mono hjk) hx
  rw [List.append_nil]; exact h
end
end Kb
namespace Kb
open PySem PySem.Spec PyProof.Rows L2
theorem OwnC.ex {K : PySem.W.Frag} {mg : Str → Option Value} {h : Heap} {x : Str} {fs : List Str} {C : Addr} (X : K.In h) (G : h.Ns PySem.mainGlobals mg) (a : PySem.W.nsIn K PySem.mainGlobals x = some (some (.ref C)))
    (pg : PySem.W.plainGet K C Str.empty = true) (hd : PySem.W.hasDictIn K C = true) (po : PySem.W.plainOver K C = true) (sa : PySem.W.findIn K (.ref C) "__setattr__" = some (some (.builtin "object.__setattr__")))
    (ca : PySem.W.findIn K (.ref C) "__class__" = some (some (.builtin "object.__class__"))) (cn : PySem.W.specialIn K (.builtin "object.__class__") "__get__" = some (some (.builtin "getset_descriptor.__get__")))
    (ct : PySem.W.takesIn K (.builtin "object.__class__") = some true) (cm : PySem.W.mroIn K C (.type "object") = some true) (mks : PySem.W.makesIn K C = true) (kp : PySem.W.keepIn K (.ref C) = true) (ty : PySem.W.typeIn K (.ref C) = some (.type "type")) (ic : PySem.W.isClsIn K C = true) (na : NoAs K C fs) : ∃ C, OwnC K mg x fs C :=
  ⟨C, PySem.W.mg_of X G a, ⟨⟨pg, hd, po, sa⟩, ca, cn, ct, cm⟩, mks, kp, na, ty, ic⟩
theorem two_own {K : PySem.W.Frag} {mg : Str → Option Value} {x y : Str} {D C : Addr} (h1 : mg x = some (.ref D)) (h2 : mg y = some (.ref C)) (h3 : PySem.W.subIn K (.ref D) (.ref C) = some false) (h4 : D ≠ C) :
    ∃ D C, mg x = some (.ref D) ∧ mg y = some (.ref C) ∧ PySem.W.subIn K (.ref D) (.ref C) = some false ∧ D ≠ C := ⟨D, C, h1, h2, h3, h4⟩
/-! ### an __init__ with keyword-only parameters: all of them are told, or none -/
def KwAll (K : PySem.W.Frag) (D : Addr) : List (Str × V) → Prop
  | [] => True
  | q :: r => (∃ u, PySem.W.nsIn K D q.1 = some (some u) ∧ RelV q.2 u) ∧ KwAll K D r
theorem KwAll.all {K : PySem.W.Frag} {D : Addr} : ∀ {l : List (Str × V)}, KwAll K D l → ∀ q ∈ l, ∃ u, PySem.W.nsIn K D q.1 = some (some u) ∧ RelV q.2 u
  | _ :: _, h, q, m => (List.mem_cons.mp m).elim (fun e => e ▸ h.1) fun m => KwAll.all h.2 q m
theorem KwAll.cons {K : PySem.W.Frag} {D : Addr} {f : Str} {v : V} {r : List (Str × V)} {u : Value} (h1 : PySem.W.nsIn K D f = some (some u)) (h2 : RelV v u) (h3 : KwAll K D r) : KwAll K D ((f, v) :: r) := ⟨⟨u, h1, h2⟩, h3⟩
def MthK (K : PySem.W.Frag) (mg : Str → Option Value) (x m qual : Str) (st : Stmt) (n : Nat) (ps : List Str) (kws : List (Str × V)) : Prop :=
  ∃ (C f : Addr) (fd : FuncData), mg x = some (.ref C) ∧ PySem.W.findIn K (.ref C) m = some (some (.ref f)) ∧ PySem.W.isFn K (.ref f) = true ∧ FunD K m qual (defArgs st) (defBody st) (defScope st) [] kws f fd ∧
    (∃ g, KBn K fd ps n (kws.map (·.1)) g (fun vs zs => vs ++ zs)) ∧ ∃ g, KBn K fd ps n [] g (fun vs _ => vs ++ kws.map (·.2))
theorem MthK.mk {K : PySem.W.Frag} {mg : Str → Option Value} {h : Heap} {x m qual : Str} {st : Stmt} {ps : List Str} {n : Nat} {kws : List (Str × V)} {C f D : Addr} {oc : Value} {od an : Option Addr} {sl : Array (Option Value)} {doc pm cd ct : Value} (X : K.In h) (G : h.Ns PySem.mainGlobals mg) (hk : kws ≠ [])
    (b : ∀ (kV doc pm : Value) (an : Option Addr) (cdv ct : Value) (us ws : List Value), us.length = n → ws.length = kws.length → bindArgs (PySem.W.fnOf m qual (defArgs st) (defBody st) (defScope st) .none kV doc pm an cdv ct) ⟨us, (kws.map (·.1)).zip ws⟩ = pure (ps.zip (us ++ ws)))
    (b0 : ∀ (D : Addr) (doc pm : Value) (an : Option Addr) (cdv ct : Value) (us mv : List Value), us.length = n → mv.length = kws.length →
      KwChain D ((kws.map (·.1)).zip mv) (bindArgs (PySem.W.fnOf m qual (defArgs st) (defBody st) (defScope st) .none (.ref D) doc pm an cdv ct) ⟨us, []⟩) (ps.zip (us ++ mv)))
    (a : PySem.W.nsIn K PySem.mainGlobals x = some (some (.ref C))) (i : PySem.W.findIn K (.ref C) m = some (some (.ref f))) (fn : PySem.W.isFn K (.ref f) = true)
    (l : K.lookup f = some ⟨oc, od, .func (PySem.W.fnOf m qual (defArgs st) (defBody st) (defScope st) .none (.ref D) doc pm an cd ct), sl⟩)
    (c : PySem.W.codeIn K cd qual = true) (k : PySem.W.keepIn K (.ref f) = true) (kw : KwAll K D kws) : MthK K mg x m qual st n ps kws := by
  have F : FunD K m qual (defArgs st) (defBody st) (defScope st) [] kws f (PySem.W.fnOf m qual (defArgs st) (defBody st) (defScope st) .none (.ref D) doc pm an cd ct) :=
    ⟨⟨oc, od, .none, .ref D, doc, pm, an, cd, ct, sl, rfl, l, c, .inl ⟨rfl, rfl⟩, .inr ⟨D, rfl, kw.all⟩⟩, k⟩
  refine ⟨C, f, _, PySem.W.mg_of X G a, i, fn, F, ?_, ?_⟩
  · obtain ⟨mv, B⟩ := F.kbinds0 n (kws.map (·.1)) [] (fun us _ ws => us ++ ws) hk (fun q hq => by cases hq) (fun r _ rz => r.append rz) (fun D doc pm an cdv ct us mv ws h1 h2 h3 => b (.ref D) doc pm an cdv ct us ws h1 (by rw [h3, List.length_map]))
    exact ⟨_, B⟩
  · obtain ⟨mv, B⟩ := F.kbinds0 n [] kws (fun us mv _ => us ++ mv) hk (fun q hq => hq) (fun r rm _ => r.append rm) (fun D doc pm an cdv ct us mv ws h1 h2 h3 => b0 D doc pm an cdv ct us mv h1 h2)
    exact ⟨_, B⟩
/-- .. and its promise -/
def CalK (P : Program) (w : World) (K : PySem.W.Frag) (mg : Str → Option Value) (base : Heap) (CX : CXT) (k : Nat) (x m : Str) (n : Nat) (ps : List Str) (kws : List (Str × V)) (sp : Sp) : Prop :=
  ∃ (C f : Addr) (fd : FuncData), mg x = some (.ref C) ∧ PySem.W.findIn K (.ref C) m = some (some (.ref f)) ∧ PySem.W.isFn K (.ref f) = true ∧ FnOk P w K mg base CX k f fd ps sp ∧
    (∃ g, KBn K fd ps n (kws.map (·.1)) g (fun vs zs => vs ++ zs)) ∧ ∃ g, KBn K fd ps n [] g (fun vs _ => vs ++ kws.map (·.2))
section
variable {P : Program} {w : World} {K : PySem.W.Frag} {mg : Str → Option Value} {base : Heap}
theorem MthK.okX {x m qual : Str} {st : Stmt} {N ps : List Str} {k n : Nat} {kws : List (Str × V)} {sp : Sp} (D : MthK K mg x m qual st n ps kws) (S : FnScope N ps (defScope st)) (len : ∀ vs H Q E, sp vs H Q E → vs.length = ps.length)
    (hbody : ∀ (f : Addr) (cdv : Value) (A : Around) (outer : List Env) (s : Shared) (H : Hp) (vs : List V) (Q : VK) (E : XK), Room k (A.deeper (envOfC qual (defScope st) s.heap.objs.size f cdv)) → sp vs H Q E →
      ∃ t, PSs (cxOf (L2.CX P w) P w K mg base N qual (defScope st) f cdv A outer s H E) (defBody st) t ∧ t { nx := fun _ H' => Q .non H', rt := Q } (start N vs) H) : CalK P w K mg base (L2.CX P w) (k + 1) x m n ps kws sp := by
  obtain ⟨C, f, fd, g, i, fn, F, b, b0⟩ := D
  exact ⟨C, f, fd, g, i, fn, F.ok S len (hbody f), b, b0⟩
end
section
variable {X : Cx} {CX : CXT} {j k n : Nat} {x : Str} {ps fs : List Str} {kws : List (Str × V)} {sp : Sp} {E : XK} {C : Addr}
/-- C(e, .., k = v, ..), all keyword-only parameters told -/
theorem pe_mkK {p pos : Pos} {e : Expr} {es : List Expr} {kw : List Keyword} {t tk : TA} (o : OwnC X.K X.mg x fs C) (c : CalK X.prog X.w X.K X.mg X.base CX j x "__init__" (n + 1) ps kws sp) (hr : Room k X.A) (hjk : j + 1 ≤ k) (hg : Gl X x) (hx : Passes CX X E)
    (ha : PA X (e :: es) t) (hkw : PK X kw tk) (hall : (backToKw pos (keywordEach kw X.env)).all (·.1.isSome) = true := by rfl) (hks : (backToKw pos (keywordEach kw X.env)).filterMap (·.1) = kws.map (·.1) := by rfl) (hdb : (x == ("__debug__" : Str)) = false := by decide)
    (he : starEach (e :: es) X.env = (false, eval e X.env) :: starEach es X.env := by rfl) (hpl : ((backTo pos (starEach (e :: es) X.env)).any (·.1) || (backToKw pos (keywordEach kw X.env)).any (·.1.isNone)) = false := by rfl) :
    PE X (.Call (.Name x p) (e :: es) kw pos) (tMakeK C n (kws.map (·.1)).length sp (fun vs zs => vs ++ zs) E t tk) := by
  obtain ⟨C', f, fd, g, i, fn, F, ⟨gb, B⟩, _⟩ := c
  obtain rfl : C' = C := by have := g.symm.trans o.g; cases this; rfl
  exact pe_makeK ⟨o.mks, i, fn, o.kp⟩ F (hr.mono hjk) hg o.g B hx ha hkw hall hks hdb he hpl
/-- C(e, ..), none told -/
theorem pe_mkK0 {p pos : Pos} {e : Expr} {es : List Expr} {t : TA} (o : OwnC X.K X.mg x fs C) (c : CalK X.prog X.w X.K X.mg X.base CX j x "__init__" (n + 1) ps kws sp) (hr : Room k X.A) (hjk : j + 1 ≤ k) (hg : Gl X x) (hx : Passes CX X E)
    (ha : PA X (e :: es) t) (hdb : (x == ("__debug__" : Str)) = false := by decide)
    (he : starEach (e :: es) X.env = (false, eval e X.env) :: starEach es X.env := by rfl) (hpl : ((backTo pos (starEach (e :: es) X.env)).any (·.1) || (backToKw pos (keywordEach [] X.env)).any (·.1.isNone)) = false := by rfl) :
    PE X (.Call (.Name x p) (e :: es) [] pos) (tMakeK C n 0 sp (fun vs _ => vs ++ kws.map (·.2)) E t tNil) := by
  obtain ⟨C', f, fd, g, i, fn, F, _, ⟨gb, B⟩⟩ := c
  obtain rfl : C' = C := by have := g.symm.trans o.g; cases this; rfl
  exact pe_makeK (ks := []) ⟨o.mks, i, fn, o.kp⟩ F (hr.mono hjk) hg o.g B hx ha pk_nil rfl rfl hdb he hpl
end
end Kb
namespace Kb
open PySem PySem.Spec PyProof.Rows L2
/-! ### a display of pairs whose second items are reckoned -/
def GivS (σ : L2.St) (H0 : Hp) (te : TE) (v : V) : Prop := ∀ (H : Hp) (Q : VK), Same H0 H → (∀ H', Same H H' → Q v H') → te σ H Q
def RowsS (σ : L2.St) (H0 : Hp) (t : TA) (L : List (List V)) : Prop := ∀ (H : Hp) (Q : List V → Hp → Prop), Same H0 H → (∀ qs H1, Same H H1 → TupsAt H1 qs L → Q (qs.map V.ref) H1) → t σ H Q
theorem rowsS_nil {σ : L2.St} {H0 : Hp} : RowsS σ H0 tNil [] := fun H _ _ h => h [] H (Same.refl _) trivial
theorem rowsS_cons {σ : L2.St} {H0 : Hp} {a v : V} {te : TE} {t : TA} {L : List (List V)} (h : GivS σ H0 te v) (r : RowsS σ H0 t L) : RowsS σ H0 (tCons (tTup (tCons (tC a) (tCons te tNil))) t) ([a, v] :: L) := fun H Q s q =>
  h H _ s fun H1 s1 => ⟨show 2 ≤ sizeLine by decide, fun p hp => r _ _ (s.trans (s1.trans (Same.new hp))) fun qs H2 s2 ht => q (p :: qs) H2 ((s1.trans (Same.new hp)).trans s2) ⟨s2 _ _ upd_same, ht⟩⟩
theorem rowsS_tup {σ : L2.St} {H0 H : Hp} {t : TA} {L : List (List V)} {Q : VK} (R : RowsS σ H0 t L) (hl : L.length ≤ 1000) (s : Same H0 H) (q : ∀ p qs H1, Same H H1 → TupsAt H1 qs L → H1 p = some (.tup (qs.map V.ref)) → Q (.ref p) H1) : tTup t σ H Q :=
  R H _ s fun qs H1 s1 ht => ⟨Nat.le_trans (by rw [List.length_map, ht.len]; exact hl : _ ≤ 1000) (by decide), fun p hp => q p qs _ (s1.trans (Same.new hp)) (ht.same (Same.new hp)) upd_same⟩
theorem TupsAt.get {H : Hp} : ∀ {qs : List Addr} {cs : List (List V)} {i : Nat} {x : V}, TupsAt H qs cs → (qs.map V.ref)[i]? = some x → ∃ q c, x = .ref q ∧ cs[i]? = some c ∧ H q = some (.tup c)
  | [], [], _, _, _, e => by simp at e
  | q :: _, c :: _, 0, x, h, e => by simp at e; exact ⟨q, c, e.symm, rfl, h.1⟩
  | _ :: qs, _ :: cs, i + 1, x, h, e => by
    obtain ⟨q, c, h1, h2, h3⟩ := TupsAt.get (i := i) (x := x) h.2 (by simpa using e)
    exact ⟨q, c, h1, by simpa using h2, h3⟩
theorem itup_rowsS {K : PySem.W.Frag} {σ : L2.St} {H : Hp} {t : TA} {L : List (List V)} {R' : It → Hp → Prop} (R : RowsS σ H t L) (hl : L.length ≤ 1000) (q : ∀ p qs H1, Same H H1 → TupsAt H1 qs L → H1 p = some (.tup (qs.map V.ref)) → R' (Itt K p) H1) : iTup K (tTup t) σ H R' :=
  rowsS_tup R hl (Same.refl _) fun p qs H1 s1 t1 m1 => ⟨p, rfl, ⟨_, SqT.of m1⟩, q p qs H1 s1 t1 m1⟩
theorem seq_for_rowsS {K : PySem.W.Frag} {σ : L2.St} {H : Hp} {t : TA} {L : List (List V)} {g : TG} {tb b : TS} {D : Ends} (R : RowsS σ H t L) (hl : L.length ≤ 1000)
    (q : ∀ p qs H1, Same H H1 → TupsAt H1 qs L → H1 p = some (.tup (qs.map V.ref)) → ∃ Pv : Nat → L2.St → Hp → Prop, Pv 0 σ H1 ∧ (∀ i σ H2, i ≤ (qs.map V.ref).length → Pv i σ H2 → SqT K H2 p (qs.map V.ref)) ∧
      (∀ i x σ H2, (qs.map V.ref)[i]? = some x → Pv i σ H2 → g x σ H2 fun σ2 H3 => tb { D with nx := Pv (i + 1), ct := Pv (i + 1), bk := b D } σ2 H3) ∧ ∀ σ H2, Pv (qs.map V.ref).length σ H2 → b D σ H2) : tSeq (tFor (iTup K (tTup t)) g tb) b D σ H := by
  unfold tSeq tFor
  exact itup_rowsS R hl fun p qs H1 s1 t1 m1 => let ⟨Pv, h0, h1, h2, h3⟩ := q p qs H1 s1 t1 m1; for_tup (D := { D with nx := b D }) Pv h0 h1 h2 h3
theorem putF_app {f : Str} {v : V} : ∀ {fs : List (Str × V)} (names : List Str), fs.map (·.1) = names → (names.all fun g => !decide (g = f)) = true → putF f v fs = fs ++ [(f, v)]
  | [], _, _, _ => rfl
  | (g, x) :: r, names, h, hn => by
    subst h
    rw [List.map_cons, List.all_cons, Bool.and_eq_true] at hn
    have hg : ¬ g = f := fun e => by rw [e] at hn; simp at hn
    show (if g = f then (g, v) :: r else (g, x) :: putF f v r) = _
    rw [if_neg hg, putF_app (fs := r) _ rfl hn.2]
    rfl
end Kb

namespace Kb
open PySem PySem.Spec PyProof.Rows L2
/-! ### a caught error of a class that is told by its base; isinstance of it -/
/-- isinstance(e, c), e the caught error with its dict -/
def rIsX (K : PySem.W.Frag) (a : Addr) (cls : Value) (d : Option Addr) : List V → Hp → VK → Prop := fun xs H Q =>
  ∃ (D dd : Addr) (fs : List (Str × V)) (c : V) (cv : Value) (b : Bool), xs = [.ref a, c] ∧ cls = .ref D ∧ d = some dd ∧ H dd = some (.xd fs) ∧ (∀ u, RelV c u → u = cv) ∧ ExcC K D ∧ PySem.W.kitOne K (.ref D) cv = some b ∧ Q (.bl b) H
theorem call_isX {X : Cx} {a : Addr} {cls : Value} {d : Option Addr} {oe : Obj} {pn : List (Addr × Obj)} (hz : Zc cls d oe) (hf : ∃ vs, oe.data = .fields vs) : CallR (X.suite a ((a, oe) :: pn)) (.builtin "isinstance") (rIsX X.K a cls d) := by
  intro pins s σ H xs us Q I r h
  obtain ⟨D, dd, fs, c, cv, b, rfl, ec, ed, hd, hcv, C, e, q⟩ := h
  subst ec ed
  obtain ⟨u1, u2, rfl, r1, r2⟩ : ∃ u1 u2, us = [u1, u2] ∧ RelV (.ref a) u1 ∧ RelV c u2 := by
    cases r with
    | cons ru rr =>
      cases rr with
      | cons rt rr => cases rr; exact ⟨_, _, rfl, ru, rt⟩
  obtain rfl : u1 = Value.ref a := r1
  obtain rfl := hcv _ r2
  obtain ⟨ha, _⟩ := I.pin (a, oe) (List.mem_append_left _ List.mem_cons_self)
  obtain ⟨vs, hv⟩ := hf
  obtain ⟨mA, hns, _⟩ := (show ObjOk X.prog X.w H s.heap dd (.xd fs) from I.hok dd _ hd)
  obtain ⟨od, ho, _⟩ := lookIn_ns hns
  have J : PySem.W.InstAt s.heap a oe D (some od) := ⟨ha, hz.1, by unfold PySem.W.notCls; rw [hv] <;> rfl, by rw [hz.2]; exact ho⟩
  have hcl : (PySem.W.clsIn X.K D).isSome = true := by
    obtain ⟨cd, hc, _⟩ := PySem.W.any_some C.hd
    rw [hc]; rfl
  exact PySem.W.kia_one (PySem.W.kitx_exc hcl C.hg C.hk C.hs C.ha C.hn C.ht C.hm) I.kIn J e (fun z => nomatch z) fun tk => ⟨.bl b, H, I.kept (t' := tk) fun _ _ z => z, rfl, q⟩
/-- what is asked of a base class B in an except clause, and of the class x that it catches -/
def BaseX (K : PySem.W.Frag) (mg : Str → Option Value) (B x : Str) : Prop :=
  ∃ C0 C : Addr, mg B = some (.ref C0) ∧ mg x = some (.ref C) ∧ PySem.W.exmOne K (.ref C) (.ref C0) = some true ∧ ExcC K C
theorem exm_sub {K : PySem.W.Frag} {S T : Addr} (h1 : PySem.W.subIn K (.ref T) (.type "BaseException") = some true) (h2 : PySem.W.isClsIn K T = true) (h3 : PySem.W.typeIn K (.ref T) = some (.type "type")) (h4 : PySem.W.subIn K (.ref S) (.ref T) = some true) :
    PySem.W.exmOne K (.ref S) (.ref T) = some true := by
  unfold PySem.W.isClsIn at h2
  unfold PySem.W.exmOne
  simp only [h1]
  unfold PySem.W.kitCls
  simp [h2, h3, h4]
theorem BaseX.mk {K : PySem.W.Frag} {mg : Str → Option Value} {h : Heap} {B x : Str} {T S : Addr} (X : K.In h) (G : h.Ns PySem.mainGlobals mg) (a0 : PySem.W.nsIn K PySem.mainGlobals B = some (some (.ref T))) (a1 : PySem.W.nsIn K PySem.mainGlobals x = some (some (.ref S)))
    (h1 : PySem.W.subIn K (.ref T) (.type "BaseException") = some true) (h2 : PySem.W.isClsIn K T = true) (h3 : PySem.W.typeIn K (.ref T) = some (.type "type")) (h4 : PySem.W.subIn K (.ref S) (.ref T) = some true)
    (c1 : PySem.W.findIn K (.ref S) "__getattribute__" = some (some (.builtin "BaseException.__getattribute__"))) (c2 : PySem.W.findIn K (.ref S) "__getattr__" = some none) (c3 : PySem.W.subIn K (.ref S) (.type "BaseException") = some true) (c4 : PySem.W.hasDictIn K S = true)
    (c5 : PySem.W.findIn K (.ref S) "__class__" = some (some (.builtin "object.__class__"))) (c6 : PySem.W.specialIn K (.builtin "object.__class__") "__get__" = some (some (.builtin "getset_descriptor.__get__"))) (c7 : PySem.W.takesIn K (.builtin "object.__class__") = some true)
    (c8 : PySem.W.mroIn K S (.type "object") = some true) : BaseX K mg B x := ⟨T, S, PySem.W.mg_of X G a0, PySem.W.mg_of X G a1, exm_sub h1 h2 h3 h4, ⟨c1, c2, c3, c4, c5, c6, c7, c8⟩⟩
/-! ### C(e, .., k = v, ..) whose __init__ may raise -/
def tMakeW (C : Addr) (n m : Nat) (sp : Sp) (gV : List V → List V → List V) (W : WX) (t tk : TA) : TE := fun σ => tMakeK C n m sp gV (WE W σ) t tk σ
section
variable {X : Cx} {W : WX} {j k n : Nat} {x : Str} {ps fs : List Str} {kws : List (Str × V)} {sp : Sp} {C : Addr}
theorem pe_mkKX {p pos : Pos} {e : Expr} {es : List Expr} {kw : List Keyword} {t tk : TA} (o : OwnC X.K X.mg x fs C) (c : CalK X.prog X.w X.K X.mg X.base (L2.CX X.prog X.w) j x "__init__" (n + 1) ps kws sp) (hr : Room k X.A) (hjk : j + 1 ≤ k) (hg : Gl X x) (tW : Takes X W)
    (ha : PA X (e :: es) t) (hkw : PK X kw tk) (hall : (backToKw pos (keywordEach kw X.env)).all (·.1.isSome) = true := by rfl) (hks : (backToKw pos (keywordEach kw X.env)).filterMap (·.1) = kws.map (·.1) := by rfl) (hdb : (x == ("__debug__" : Str)) = false := by decide)
    (he : starEach (e :: es) X.env = (false, eval e X.env) :: starEach es X.env := by rfl) (hpl : ((backTo pos (starEach (e :: es) X.env)).any (·.1) || (backToKw pos (keywordEach kw X.env)).any (·.1.isNone)) = false := by rfl) :
    PE X (.Call (.Name x p) (e :: es) kw pos) (tMakeW C n (kws.map (·.1)).length sp (fun vs zs => vs ++ zs) W t tk) := by
  obtain ⟨C', f, fd, g, i, fn, F, ⟨gb, B⟩, _⟩ := c
  obtain rfl : C' = C := by have := g.symm.trans o.g; cases this; rfl
  refine ⟨fun pins s σ H Q I h => ?_⟩
  refine wpAny_Call_Name_kw (ld_glob I hg o.g ?_ hdb)
  refine PySem.W.callWith_KW (h₀ := X.base) I.ok.mod.kin o.kp hall (thn (ha.run pos pins s σ H _ I h) fun us s1 ⟨vs, H1, I1, r, q⟩ => ?_) hpl he
  refine thn (hkw.run pos pins s1 σ H1 _ I1 q) fun ws s2 ⟨zs, H2, I2, rz, l1, l2, q2⟩ => ⟨I2.kIn, ?_⟩
  rw [hks]
  have r1 : Vals (V.ref (s2.heap.objs.size + 1) :: vs) (Value.ref (s2.heap.objs.size + 1) :: us) := .cons rfl r
  have I3 := Inv.made (C := C') I2
  show wpAny _ _ (call (.ref C') us ((kws.map (·.1)).zip ws)) _ _ _
  refine wpAny_call (make_map (f := f) I2.kIn o.mks i (beq_iff_eq.mp fn) (codeAny_mono (F.run _ X.stack _ _ ⟨Value.ref (s2.heap.objs.size + 1) :: us, (kws.map (·.1)).zip ws⟩ (gb (Value.ref (s2.heap.objs.size + 1) :: us) ws) _ _ (WE W σ) ((hr.mono hjk).make C' us ((kws.map (·.1)).zip ws))
    (I3.env0.make C' us ((kws.map (·.1)).zip ws)) (B.to _ (Value.ref (s2.heap.objs.size + 1) :: us) ws I3.kIn (by rw [List.length_cons, ← r.length, l1]) (rz.length.symm.trans l2)) (B.rel r1 rz) (q2 _ _ (I2.hok.fresh (Nat.le_succ _)) (I2.hok.fresh (Nat.le_refl _)) (Nat.ne_of_lt (Nat.lt_succ_self _)))) fun a s' hq => ?_))
  cases a with
  | error z => exact passAt tW σ pins _ _ z s' I3 hq
  | ok fl =>
    cases fl with
    | ret u =>
      obtain ⟨v, H', I4, rv, ev, q4⟩ := I3.after hq
      subst ev
      exact ⟨rv, .ref _, H', I4, rfl, q4⟩
    | next => exact hq.elim
    | brk => exact hq.elim
    | cont => exact hq.elim
end
end Kb

namespace Kb
open PySem PySem.Spec PyProof.Rows L2
/-! ### o.m(e, ..) of an own class -/
section
variable {X : Cx} {CX : CXT} {j k : Nat} {x m qual : Str} {st : Stmt} {ps ps0 fs : List Str} {sp : Sp} {E : XK} {C : Addr}
theorem pe_methO {apos pos : Pos} {o e : Expr} {es : List Expr} {ta : TE} {t : TA} {pl : Sem Bool} (oc : OwnC X.K X.mg x fs C) (D : MthT X.K X.mg x m qual st ps0) (c : CalM X.prog X.w X.K X.mg X.base CX j x m ps sp) (hr : Room k X.A) (hjk : j ≤ k) (hx : Passes CX X E) (he : PE X o ta) (ha : PA X (e :: es) t)
    (hst : starEach (e :: es) X.env = (false, eval e X.env) :: starEach es X.env := by rfl) (hpl : (backTo pos (starEach es X.env)).any (·.1) = false := by rfl)
    (ht : eval (.Call (.Attribute o m apos) (e :: es) [] pos) X.env = (do
      let ov ← eval o X.env
      standAt apos.atName
      let (f, first) ← holding [ov] (getMethod ov m pl)
      callWith pos f first (backTo pos (starEach (e :: es) X.env)) (backToKw pos (keywordEach [] X.env))) := by rfl) :
    PE X (.Call (.Attribute o m apos) (e :: es) [] pos) (tMeth C m sp [] E ta t) := by
  obtain ⟨C1, f1, fd1, g1, i1, n1, F1, _⟩ := D
  obtain ⟨C2, f2, fd2, g2, i2, n2, F2, b2⟩ := c
  obtain rfl : C1 = C := by have := g1.symm.trans oc.g; cases this; rfl
  obtain rfl : C2 = C1 := by have := g2.symm.trans g1; cases this; rfl
  obtain rfl : f1 = f2 := by have := i1.symm.trans i2; cases this; rfl
  exact pe_meth he oc.o.cl ⟨i2, n2, F1.kp⟩ (F2.mono hjk) hr b2 .nil hx ha hst hpl ht
end
end Kb

namespace Kb
open PySem PySem.Spec PyProof.Rows L2
/-! ### a if t else b as a test; a dict comprehension that is set to a name -/
section
variable {X : Cx}
def tIfT (c a b : TT) : TT := fun σ H Q => c σ H fun k H1 => if k = true then a σ H1 Q else b σ H1 Q
theorem pt_ifx {c a b : Expr} {tc ta tb : TT} {pos : Pos} (hc : PT X c tc) (ha : PT X a ta) (hb : PT X b tb) : PT X (.IfExp c a b pos) (tIfT tc ta tb) := by
  refine ⟨fun pins s σ H Q I h => ?_⟩
  rw [arm_isTrue_IfExp]
  refine wpAny_bind (thn (hc.run pins s σ H _ I h) fun k s1 ⟨H1, I1, q1⟩ => ?_)
  cases k with
  | true => exact ha.run pins s1 σ H1 Q I1 q1
  | false => exact hb.run pins s1 σ H1 Q I1 q1
theorem sw_trueD {kx vx : Expr} {gs : List Comprehension} {scope : Scope} {pos py : Pos} {y : Str} {l : Nat} {env : Env} (hk : env.scope.kind = .function) (hy : env.scope.names.lookup y = some .local) (hl : (py.line == pos.line) = true)
    (ha : (scope.names.any fun (n, k) => n == y && (k == .local || k == .cell)) = false) : swapsWith (.DictComp kx vx gs scope pos) (some (.Name y py)) l env = pure true := by
  have ky : env.kindOf y = some .local := hy
  have hb : env.blockKind = .function := by unfold Env.blockKind; rw [hk]; rfl
  unfold swapsWith
  simp only [hb, ky, ha, Expr.pos, hl]
  rfl
theorem ps_setDc {i : Nat} {y : Str} {py : Pos} {kx vx tg iter : Expr} {ifs : List Expr} {scope : Scope} {own : List (Str × Nat)} {pos spos : Pos} {wi : TI} {g : TG} {tt : TT} {tk tv : TE} (hc : X.calm = true) (hN : X.N.Nodup) (hy : X.N[i]? = some y) (hyl : X.env.scope.names.lookup y = some .local)
    (hsw : swapsWith (.DictComp kx vx [⟨tg, iter, ifs, 0⟩] scope pos) (some (.Name y py)) spos.line X.env = pure true) (hi : PI X tg iter wi) (ok : BlkOk X.N X.env.scope scope own)
    (hg : ∀ (s : Shared) (H : Hp) (C : Addr) (cl : List (Str × Addr)) (fp : List Addr), PG (X.blk s H scope (compEnvC scope cl C X.env) fp) tg g) (ht : ∀ (s : Shared) (H : Hp) (C : Addr) (cl : List (Str × Addr)) (fp : List Addr), PTs (X.blk s H scope (compEnvC scope cl C X.env) fp) ifs tt)
    (hk : ∀ (s : Shared) (H : Hp) (C : Addr) (cl : List (Str × Addr)) (fp : List Addr), PE (X.blk s H scope (compEnvC scope cl C X.env) fp) kx tk)
    (he : ∀ (s : Shared) (H : Hp) (C : Addr) (cl : List (Str × Addr)) (fp : List Addr), PE (X.blk s H scope (compEnvC scope cl C X.env) fp) vx tv) (hs : ∀ x, foldedSetIterable iter X.env x = pure x := by intro _; rfl) :
    PS X (.Assign [.Name y py] (.DictComp kx vx [⟨tg, iter, ifs, 0⟩] scope pos) spos) (tAsg (tDc wi g tt tk tv (own.map (·.2))) (gName i)) := by
  refine ⟨fun pins s σ H D I h => ?_⟩
  rw [exec_Assign_Name_used _ _ _ _ hsw]
  refine wpAny_bind (wpAny_standAt (wpAny_bind ?_))
  show wpAny _ X.A (do let _ ← comprehension (.DictComp kx vx [⟨tg, iter, ifs, 0⟩] scope pos) scope X.env (firstIterPos [⟨tg, iter, ifs, 0⟩] pos) newDict false (eval iter X.env) (some (assign (.Name y py) X.env))) _ _ s
  have h : tDc wi g tt tk tv (own.map (·.2)) σ H (fun x H1 => gName i x σ H1 D.nx) := h
  refine wpAny_bind (thn (dc_core (Qf := fun _ s' => SP X pins D .next s') hc hN I hi ok hg ht hk he hs h fun L C s' m H' I' q hn f => ?_) fun _ s' hq => wpAny_pure (wpAny_pure hq))
  show wpAny _ _ (assign (.Name y py) X.env (.ref L)) _ _ _
  refine wpAny_assign_Name (store_ok2 (v := V.ref L) I' hN hy (.inl hyl) rfl (fun s2 I2 ⟨a, sb, ha⟩ => ?_) (.inr hyl))
  obtain ⟨f0, f1, f2, f3, f4, f5⟩ := f
  have haC : C ≠ a := by
    rcases ha with z | z
    · rw [z]; exact f1
    · exact fun e => f4 y a z e.symm
  refine ⟨m, hn.sameBut sb haC, fun h3 sb3 => ?_⟩
  exact ⟨_, H', I2.turned (t' := s2.toks) (fun b o hb e => (sb3.2 b hb).trans e) f0 f1 f3 f4 f5, q⟩
end
end Kb

namespace Kb
open PySem PySem.Spec PyProof.Rows L2 TL
/-- a dict comprehension over enumerate(tuple) -/
theorem dc_enumT {K : PySem.W.Frag} {a : Addr} {xs : List V} {g : TG} {tt : TT} {tk tv : TE} {vs : List Nat} {σ : L2.St} {H1 : Hp} {D : Addr} {Qd : Hp → Prop} (Pv : Nat → Hp → Prop) (h0 : Pv 0 (L2.upd H1 D (.dK []))) (hG : ∀ i H, i ≤ xs.length → Pv i H → SqT K H a xs)
    (hs : ∀ i x T H, xs[i]? = some x → Pv i H → H T = none → g (.ref T) (wipe σ vs) (L2.upd H T (.tup [.int (i : Nat), x])) fun σ2 H2 => wipe σ2 vs = wipe σ vs ∧ tt σ2 H2 fun b H3 =>
      if b = true then tk σ2 H3 fun y H4 => tv σ2 H4 fun z H5 => ∃ kvs k, y = kV k ∧ H5 D = some (.dK kvs) ∧ kvs.length < sizeLine ∧ Pv (i + 1) (L2.upd H5 D (.dK (putK kvs k z))) else Pv (i + 1) H3) (hd : ∀ H, Pv xs.length H → Qd H) :
    ∃ W : Nat → Nat → Hp → Prop, (∃ m, W 0 m (L2.upd H1 D (.dK []))) ∧ ∀ i m H, W i m H →
      ((Itet K a).stop i H ∧ Qd H) ∨ ((Itet K a).go i H ∧ ∃ Nx : Hp → Prop, (∀ H', Nx H' → ∃ m', m' < m ∧ W (i + 1) m' H') ∧ ∀ x H', (Itet K a).yld i H x H' → g x (wipe σ vs) H' fun σ2 H2 => wipe σ2 vs = wipe σ vs ∧ tt σ2 H2 fun b H3 =>
        if b = true then tk σ2 H3 fun y H4 => tv σ2 H4 fun z H5 => ∃ kvs k, y = kV k ∧ H5 D = some (.dK kvs) ∧ kvs.length < sizeLine ∧ Nx (L2.upd H5 D (.dK (putK kvs k z))) else Nx H3) := by
  refine ⟨fun i m H => m = xs.length - i ∧ i ≤ xs.length ∧ Pv i H, ⟨xs.length, by simp, Nat.zero_le _, h0⟩, ?_⟩
  rintro i m H ⟨rfl, hi, p⟩
  have q := hG i H hi p
  by_cases hlt : i < xs.length
  · refine .inr ⟨walk_enumT.goes i H hlt q, Pv (i + 1), fun H' p' => ⟨xs.length - (i + 1), by omega, rfl, hlt, p'⟩, fun x H' y => ?_⟩
    obtain ⟨T, x1, y1, rfl, hT, rfl, h1, h2⟩ := walk_enumT.yields i H x H' hlt q y
    cases h1
    exact hs i y1 T H h2 p hT
  · have e : i = xs.length := by omega
    subst e
    exact .inl ⟨walk_enumT.stops H q, hd H p⟩
/-- all but one object is kept -/
def KeepA (a : Addr) (H H' : Hp) : Prop := ∀ b o, H b = some o → b ≠ a → H' b = some o
theorem KeepA.refl {a : Addr} {H : Hp} : KeepA a H H := fun _ _ h _ => h
theorem KeepA.same {a : Addr} {H H1 H2 : Hp} (k : KeepA a H H1) (s : Same H1 H2) : KeepA a H H2 := fun b o h n => s _ _ (k b o h n)
theorem KeepA.upd {a : Addr} {H H1 : Hp} {o : HO} (k : KeepA a H H1) : KeepA a H (L2.upd H1 a o) := fun b u h n => (upd_ne n).trans (k b u h n)
theorem KeepA.updN {a L : Addr} {H H1 : Hp} {o : HO} (k : KeepA a H H1) (h : H L = none) : KeepA a H (L2.upd H1 L o) := fun b u e n => (upd_ne (fun z => by rw [z, h] at e; cases e)).trans (k b u e n)
theorem KeepA.newer {a L : Addr} {H H1 : Hp} (k : KeepA a H H1) (n : L ≠ a) (h : H1 L = none) : H L = none := by
  cases e : H L with
  | none => rfl
  | some o => rw [k L o e n] at h; cases h
theorem KeepA.tups {a : Addr} {H H1 : Hp} {o : HO} (k : KeepA a H H1) (ha : H a = some o) (no : ∀ xs, o ≠ .tup xs) : ∀ {qs : List Addr} {cs : List (List V)}, TupsAt H qs cs → TupsAt H1 qs cs
  | [], [], _ => trivial
  | q :: _, c :: _, h => ⟨k _ _ h.1 (fun z => by have := h.1; rw [z, ha] at this; exact no _ (Option.some.inj this)), KeepA.tups k ha no h.2⟩
end Kb

namespace Kb
open PySem PySem.Spec PyProof.Rows L2
/-! ### an __init__ whose keyword-only parameters are all told: of its defaults nothing is asked but that there are some -/
def MthQ (K : PySem.W.Frag) (mg : Str → Option Value) (x m qual : Str) (st : Stmt) (n : Nat) (ps ks : List Str) : Prop := ∃ kws : List (Str × V), kws.map (·.1) = ks ∧ MthK K mg x m qual st n ps kws
theorem MthQ.mk {K : PySem.W.Frag} {mg : Str → Option Value} {x m qual : Str} {st : Stmt} {n : Nat} {ps ks : List Str} {kws : List (Str × V)} (h : MthK K mg x m qual st n ps kws) (e : kws.map (·.1) = ks) : MthQ K mg x m qual st n ps ks := ⟨kws, e, h⟩
def CalQ (P : Program) (w : World) (K : PySem.W.Frag) (mg : Str → Option Value) (base : Heap) (CX : CXT) (k : Nat) (x m : Str) (n : Nat) (ps ks : List Str) (sp : Sp) : Prop := ∃ kws : List (Str × V), kws.map (·.1) = ks ∧ CalK P w K mg base CX k x m n ps kws sp
section
variable {P : Program} {w : World} {K : PySem.W.Frag} {mg : Str → Option Value} {base : Heap}
theorem MthQ.okX {x m qual : Str} {st : Stmt} {N ps ks : List Str} {k n : Nat} {sp : Sp} (D : MthQ K mg x m qual st n ps ks) (S : FnScope N ps (defScope st)) (len : ∀ vs H Q E, sp vs H Q E → vs.length = ps.length)
    (hbody : ∀ (f : Addr) (cdv : Value) (A : Around) (outer : List Env) (s : Shared) (H : Hp) (vs : List V) (Q : VK) (E : XK), Room k (A.deeper (envOfC qual (defScope st) s.heap.objs.size f cdv)) → sp vs H Q E →
      ∃ t, PSs (cxOf (L2.CX P w) P w K mg base N qual (defScope st) f cdv A outer s H E) (defBody st) t ∧ t { nx := fun _ H' => Q .non H', rt := Q } (start N vs) H) : CalQ P w K mg base (L2.CX P w) (k + 1) x m n ps ks sp := by
  obtain ⟨kws, e, d⟩ := D
  exact ⟨kws, e, d.okX S len hbody⟩
end
section
variable {X : Cx} {W : WX} {j k n : Nat} {x : Str} {ps fs ks : List Str} {sp : Sp} {C : Addr}
theorem pe_mkQX {p pos : Pos} {e : Expr} {es : List Expr} {kw : List Keyword} {t tk : TA} (o : OwnC X.K X.mg x fs C) (c : CalQ X.prog X.w X.K X.mg X.base (L2.CX X.prog X.w) j x "__init__" (n + 1) ps ks sp) (hr : Room k X.A) (hjk : j + 1 ≤ k) (hg : Gl X x) (tW : Takes X W)
    (ha : PA X (e :: es) t) (hkw : PK X kw tk) (hall : (backToKw pos (keywordEach kw X.env)).all (·.1.isSome) = true := by rfl) (hks : (backToKw pos (keywordEach kw X.env)).filterMap (·.1) = ks := by rfl) (hdb : (x == ("__debug__" : Str)) = false := by decide)
    (he : starEach (e :: es) X.env = (false, eval e X.env) :: starEach es X.env := by rfl) (hpl : ((backTo pos (starEach (e :: es) X.env)).any (·.1) || (backToKw pos (keywordEach kw X.env)).any (·.1.isNone)) = false := by rfl) :
    PE X (.Call (.Name x p) (e :: es) kw pos) (tMakeW C n ks.length sp (fun vs zs => vs ++ zs) W t tk) := by
  obtain ⟨kws, q, d⟩ := c
  subst q
  exact pe_mkKX o d hr hjk hg tW ha hkw hall hks hdb he hpl
theorem pe_mkQ {p pos : Pos} {e : Expr} {es : List Expr} {kw : List Keyword} {t tk : TA} {E : XK} (o : OwnC X.K X.mg x fs C) (c : CalQ X.prog X.w X.K X.mg X.base (L2.CX X.prog X.w) j x "__init__" (n + 1) ps ks sp) (hr : Room k X.A) (hjk : j + 1 ≤ k) (hg : Gl X x) (hx : Passes (L2.CX X.prog X.w) X E)
    (ha : PA X (e :: es) t) (hkw : PK X kw tk) (hall : (backToKw pos (keywordEach kw X.env)).all (·.1.isSome) = true := by rfl) (hks : (backToKw pos (keywordEach kw X.env)).filterMap (·.1) = ks := by rfl) (hdb : (x == ("__debug__" : Str)) = false := by decide)
    (he : starEach (e :: es) X.env = (false, eval e X.env) :: starEach es X.env := by rfl) (hpl : ((backTo pos (starEach (e :: es) X.env)).any (·.1) || (backToKw pos (keywordEach kw X.env)).any (·.1.isNone)) = false := by rfl) :
    PE X (.Call (.Name x p) (e :: es) kw pos) (tMakeK C n ks.length sp (fun vs zs => vs ++ zs) E t tk) := by
  obtain ⟨kws, q, d⟩ := c
  subst q
  exact pe_mkK o d hr hjk hg hx ha hkw hall hks hdb he hpl
end
end Kb
namespace Kb
open PySem PySem.Spec PyProof.Rows L2
/-- what follows is read once, however it is reached -/
theorem step_cut {R : Hp → Prop} {H1 : Hp} {A : Prop} (h : (∀ H2, Same H1 H2 → R H2) → A) (r : ∀ H2, Same H1 H2 → R H2) : A := h r
end Kb
namespace Kb
open PySem PySem.Spec PyProof.Rows L2
section
variable {σ : L2.St} {H0 : Hp}
theorem givS_var {i : Nat} {v : V} (h : σ[i]? = some (some v)) : GivS σ H0 (tVar i) v := fun H _ _ q => ⟨v, h, q H (Same.refl H)⟩
theorem givS_c {v : V} : GivS σ H0 (tC v) v := fun H _ _ q => q H (Same.refl H)
theorem givS_orT {ta tb : TE} (a : GivS σ H0 ta (.bl true)) : GivS σ H0 (tOrV ta tb) (.bl true) := fun H Q s q => a H _ s fun H1 s1 => ⟨true, rfl, iteT (q H1 s1)⟩
theorem givS_orF {ta tb : TE} {v : V} (a : GivS σ H0 ta (.bl false)) (b : GivS σ H0 tb v) : GivS σ H0 (tOrV ta tb) v := fun H Q s q => a H _ s fun H1 s1 => ⟨false, rfl, iteF (b H1 Q (s.trans s1) fun H2 s2 => q H2 (s1.trans s2))⟩
theorem givS_andT {ta tb : TE} {v : V} (a : GivS σ H0 ta (.bl true)) (b : GivS σ H0 tb v) : GivS σ H0 (tAndV ta tb) v := fun H Q s q => a H _ s fun H1 s1 => ⟨true, rfl, iteT (b H1 Q (s.trans s1) fun H2 s2 => q H2 (s1.trans s2))⟩
theorem givS_andF {ta tb : TE} (a : GivS σ H0 ta (.bl false)) : GivS σ H0 (tAndV ta tb) (.bl false) := fun H Q s q => a H _ s fun H1 s1 => ⟨false, rfl, iteF (q H1 s1)⟩
theorem givS_isN {te : TE} {v : V} (a : GivS σ H0 te v) : GivS σ H0 (tOp (fun x y H Q => y = V.non ∧ Q (.bl (decide (x = V.non))) H) te (tC .non)) (.bl (decide (v = V.non))) := fun H Q s q => a H _ s fun H1 s1 => ⟨rfl, q H1 s1⟩
theorem givS_isNT {te : TE} (a : GivS σ H0 te .non) : GivS σ H0 (tOp (fun x y H Q => y = V.non ∧ Q (.bl (decide (x = V.non))) H) te (tC .non)) (.bl true) := givS_isN a
theorem givS_isNR {te : TE} {p : Addr} (a : GivS σ H0 te (.ref p)) : GivS σ H0 (tOp (fun x y H Q => y = V.non ∧ Q (.bl (decide (x = V.non))) H) te (tC .non)) (.bl false) := givS_isN a
theorem givS_cast {te : TE} {v w : V} (a : GivS σ H0 te v) (e : v = w) : GivS σ H0 te w := e ▸ a
end
end Kb
namespace Kb
open PySem PySem.Spec PyProof.Rows L2
section
variable {σ : L2.St} {H0 : Hp}
theorem givS_eq {ta tb : TE} {v w : V} {b : Bool} (a : GivS σ H0 ta v) (c : GivS σ H0 tb w) (hs : scal v w = true) (e : decide (v = w) = b) : GivS σ H0 (tOp rEq ta tb) (.bl b) := fun H Q s q => a H _ s fun H1 s1 => c H1 _ (s.trans s1) fun H2 s2 => ⟨hs, by rw [e]; exact q H2 (s1.trans s2)⟩
theorem givS_ne {ta tb : TE} {v w : V} {b : Bool} (a : GivS σ H0 ta v) (c : GivS σ H0 tb w) (hs : scal v w = true) (e : (!decide (v = w)) = b) : GivS σ H0 (tOp rNe ta tb) (.bl b) := fun H Q s q => a H _ s fun H1 s1 => c H1 _ (s.trans s1) fun H2 s2 => ⟨hs, by rw [e]; exact q H2 (s1.trans s2)⟩
/-- x in (a, b), all flat -/
theorem givS_inTup {K : PySem.W.Frag} {ta : TE} {t : TA} {v : V} {xs : List V} {b : Bool} (a : GivS σ H0 ta v) (g : GivA t xs) (hl : xs.length ≤ 100) (h1 : flatV v = true) (h2 : xs.all flatV = true) (e : inV v xs = b) : GivS σ H0 (tOp (rIn K false) ta (tTup t)) (.bl b) := fun H Q s q => a H _ s fun H1 s1 =>
  g σ H1 _ ⟨Nat.le_trans hl (by decide), fun p hp => ⟨p, xs, rfl, .inr (SqT.of upd_same), h1, h2, by show Q (.bl (inV v xs)) _; rw [e]; exact q _ (s1.trans (Same.new hp))⟩⟩
theorem givS_fld {K : PySem.W.Frag} {te : TE} {f : Str} {a C dx : Addr} {fs : List (Str × V)} {v : V} (g : GivS σ H0 te (.ref a)) (ha : ∀ H, Same H0 H → H a = some (.ins C dx fs)) (c : Cls K C) (n : NoAttr K C f) (l : fs.lookup f = some v) : GivS σ H0 (tFld K te f) v := fun H Q s q =>
  g H _ s fun H1 s1 => ⟨a, C, dx, fs, v, rfl, ha H1 (s.trans s1), c, n, l, q H1 s1⟩
end
end Kb
namespace Kb
open PySem PySem.Spec PyProof.Rows L2
/-- self.f = e, within __init__ -/
theorem sfld_step {K : PySem.W.Frag} {σ : L2.St} {H : Hp} {D : Ends} {rest : TS} {f : Str} {te : TE} {a C dx : Addr} {fs fs' : List (Str × V)} {v : V} (h0 : σ[0]? = some (some (.ref a))) (ha : H a = some (.ins C dx fs)) (c : Cls K C) (n : NoAttr K C f) (hl : fs.length < 1000) (g : GivS σ H te v) (e : putF f v fs = fs')
    (k : ∀ H', KeepA a H H' → H' a = some (.ins C dx fs') → rest D σ H') : tSeq (sFld K (tVar 0) te f) rest D σ H :=
  g H _ (Same.refl _) fun H1 s1 => ⟨_, h0, a, C, dx, fs, rfl, s1 _ _ ha, c, n, hl, by rw [e]; exact k _ ((KeepA.refl.same s1).upd) upd_same⟩
theorem sfld_last {K : PySem.W.Frag} {σ : L2.St} {H : Hp} {D : Ends} {f : Str} {te : TE} {a C dx : Addr} {fs fs' : List (Str × V)} {v : V} (h0 : σ[0]? = some (some (.ref a))) (ha : H a = some (.ins C dx fs)) (c : Cls K C) (n : NoAttr K C f) (hl : fs.length < 1000) (g : GivS σ H te v) (e : putF f v fs = fs')
    (k : ∀ H', KeepA a H H' → H' a = some (.ins C dx fs') → D.nx σ H') : sFld K (tVar 0) te f D σ H :=
  g H _ (Same.refl _) fun H1 s1 => ⟨_, h0, a, C, dx, fs, rfl, s1 _ _ ha, c, n, hl, by rw [e]; exact k _ ((KeepA.refl.same s1).upd) upd_same⟩
theorem KeepA.trans {a : Addr} {H H1 H2 : Hp} (k : KeepA a H H1) (l : KeepA a H1 H2) : KeepA a H H2 := fun b o h n => l b o (k b o h n) n
end Kb
namespace Kb
open PySem PySem.Spec PyProof.Rows L2
theorem atI_m1 {α : Type} {xs : List α} {v : α} (h : xs[xs.length - 1]? = some v) : atI xs (-1) = some v := by
  rw [← List.getLast?_eq_getElem?] at h
  obtain ⟨ys, rfl⟩ := List.getLast?_eq_some_iff.mp h
  exact atI_last ys v
end Kb
namespace Kb
open PySem PySem.Spec PyProof.Rows L2
/-- t[n], a tuple -/
theorem givS_ixT {K : PySem.W.Frag} {σ : L2.St} {H0 : Hp} {te : TE} {p : Addr} {xs : List V} {v : V} (n : Nat) (g : GivS σ H0 te (.ref p)) (h : ∀ H, Same H0 H → SqT K H p xs) (e : xs[n]? = some v) : GivS σ H0 (tOp (rIxT K) te (tC (.int (n : Nat)))) v := fun H Q s q =>
  g H _ s fun H1 s1 => ⟨p, xs, (n : Nat), v, rfl, rfl, h H1 (s.trans s1), atI_nat e, q H1 s1⟩
end Kb
namespace Kb
open PySem PySem.Spec PyProof.Rows L2
section
variable {σ : L2.St} {H0 : Hp}
theorem givS_or {ta tb : TE} {b c : Bool} (a : GivS σ H0 ta (.bl b)) (g : b = false → GivS σ H0 tb (.bl c)) : GivS σ H0 (tOrV ta tb) (.bl (b || c)) := by
  cases b with
  | true => exact givS_orT a
  | false => exact givS_orF a (g rfl)
theorem givS_and {ta tb : TE} {b c : Bool} (a : GivS σ H0 ta (.bl b)) (g : b = true → GivS σ H0 tb (.bl c)) : GivS σ H0 (tAndV ta tb) (.bl (b && c)) := by
  cases b with
  | true => exact givS_andT a (g rfl)
  | false => exact givS_andF a
theorem givS_notV {ta : TE} {b : Bool} (a : GivS σ H0 ta (.bl b)) : GivS σ H0 (tNotV ta) (.bl (!b)) := fun H Q s q => a H _ s fun H1 s1 => ⟨b, rfl, q H1 s1⟩
end
end Kb
namespace Kb
open PySem PySem.Spec PyProof.Rows L2
theorem TupsAt.putL {H : Hp} {L : Addr} {xs : List V} {o : HO} (hm : H L = some (.lst xs)) : ∀ {qs : List Addr} {cs : List (List V)}, TupsAt H qs cs → TupsAt (L2.upd H L o) qs cs
  | [], [], _ => trivial
  | q :: _, c :: _, h => ⟨(upd_ne (fun z => by have := h.1; rw [z, hm] at this; cases this)).trans h.1, TupsAt.putL hm h.2⟩
theorem TupsAt.one {H : Hp} {q : Addr} {c : List V} (h : H q = some (.tup c)) : TupsAt H [q] [c] := ⟨h, trivial⟩
end Kb
namespace Kb
theorem cut1 {α : Type} {R : α → Prop} {P : α → Prop} {A : Prop} (h : (∀ x, P x → R x) → A) (r : ∀ x, P x → R x) : A := h r
end Kb
namespace Kb
theorem ite_y {b : Bool} {A B : Prop} (h : b = true) (q : A) : if b = true then A else B := by rw [if_pos h]; exact q
theorem ite_n {b : Bool} {A B : Prop} (h : b = false) (q : B) : if b = true then A else B := by rw [if_neg (by rw [h]; decide)]; exact q
end Kb
namespace Kb
open PySem PySem.Spec PyProof.Rows L2
/-- an expression is read apart from what follows -/
theorem te_cut {te : TE} {σ : L2.St} {H : Hp} {Q : VK} {R : V → Hp → Prop} (h : ∀ Q' : VK, (∀ v H', R v H' → Q' v H') → te σ H Q') (q : ∀ v H', R v H' → Q v H') : te σ H Q := h Q q
theorem tif_cut {t : TT} {ta tb : TE} {σ : L2.St} {H : Hp} {Q : VK} {R : V → Hp → Prop} (h : ∀ Q' : VK, (∀ v H', R v H' → Q' v H') → tIf t ta tb σ H Q') (q : ∀ v H', R v H' → Q v H') : tIf t ta tb σ H Q := h Q q
end Kb
namespace Kb
open PySem PySem.Spec PyProof.Rows L2
theorem TupsAt.take {H : Hp} : ∀ {qs : List Addr} {cs : List (List V)} (n : Nat), TupsAt H qs cs → TupsAt H (qs.take n) (cs.take n)
  | [], [], n, _ => by simp [TupsAt]
  | _ :: _, _ :: _, 0, _ => trivial
  | _ :: _, _ :: _, n + 1, h => ⟨h.1, TupsAt.take n h.2⟩
end Kb
namespace Kb
open PySem PySem.Spec PyProof.Rows L2
theorem TupsAt.putK {H : Hp} {L : Addr} {kvs : List (L2.Key × V)} {o : HO} (hm : H L = some (.dK kvs)) : ∀ {qs : List Addr} {cs : List (List V)}, TupsAt H qs cs → TupsAt (L2.upd H L o) qs cs
  | [], [], _ => trivial
  | q :: _, c :: _, h => ⟨(upd_ne (fun z => by have := h.1; rw [z, hm] at this; cases this)).trans h.1, TupsAt.putK hm h.2⟩
end Kb
namespace Kb
open PySem PySem.Spec PyProof.Rows L2
theorem TupsAt.set {H : Hp} {q : Addr} {c : List V} (h : H q = some (.tup c)) : ∀ {qs : List Addr} {cs : List (List V)} (n : Nat), TupsAt H qs cs → TupsAt H (qs.set n q) (cs.set n c)
  | [], [], n, _ => by simp [TupsAt]
  | _ :: _, _ :: _, 0, g => ⟨h, g.2⟩
  | _ :: _, _ :: _, n + 1, g => ⟨g.1, TupsAt.set h n g.2⟩
end Kb

namespace Kb
open PySem PySem.Spec PyProof.Rows L2
/-! ### several clauses «except C as e», one name for all -/
abbrev Clause := Value × (Addr → Value → Option Addr → TS)
def wMas (K : PySem.W.Frag) (i : Nat) (Wout : WX) (D : Ends) : List Clause → WX
  | [] => Wout
  | q :: r => wAs K q.1 i q.2 (wMas K i Wout D r) D
inductive AsOk (X : Cx) (n : Str) : List ExceptHandler → List Clause → Prop
  | nil : AsOk X n [] []
  | cons {x : Str} {c : Value} {ts : Addr → Value → Option Addr → TS} {st : Stmt} {more : List Stmt} {np hp : Pos} {hds : List ExceptHandler} {l : List Clause} (hc : Names X x c)
      (hsu : ∀ (a : Addr) (oe : Obj) (cls : Value) (d : Option Addr) (pn : List (Addr × Obj)), Zc cls d oe → (∃ vs, oe.data = .fields vs) → PSs (X.suite a ((a, oe) :: pn)) (st :: more) (ts a cls d)) (r : AsOk X n hds l) :
      AsOk X n (.ExceptHandler (some (.Name x np)) (some n) (st :: more) hp :: hds) ((c, ts) :: l)
section
variable {X : Cx}
theorem ps_try_mas {n : Str} {i : Nat} {body : List Stmt} {h0 : ExceptHandler} {hds : List ExceptHandler} {l : List Clause} {pos : Pos} {tb : WX → TS} {Wout : WX} (hs : X.stack = X.env :: X.outer) (hf : X.env.frame = some X.env.locals) (hN : X.N.Nodup) (hi : X.N[i]? = some n) (hln : X.env.kindOf n = some .local)
    (tk : Takes X Wout) (hb : ∀ (W : WX) (pn : List (Addr × Obj)) (xe : Value → Shared → Prop), Takes (X.tr pn xe) W → PassesOwn (model X.prog X.w) X.A X.env xe → PSs (X.tr pn xe) body (tb W)) (hh : AsOk X n (h0 :: hds) l) :
    PS X (.Try body (h0 :: hds) [] [] pos) (fun D σ H => tb (wMas X.K i Wout D l) D σ H) := by
  refine ⟨fun pins s σ H D I h => wpAny_Try_except ?_⟩
  have ok := I.ok
  have fr0 : X.A.frames = some (X.env :: X.outer) := ok.frames.trans (congrArg some hs)
  refine wpAny_mono ((hb (wMas X.K i Wout D l) (X.pn ++ pins) (fun e s1 => wpAny (model X.prog X.w) X.A (noteFrame e X.env) (fun _ s2 => wpAny (model X.prog X.w) X.A (setFlight e none) (fun _ s3 =>
    wpAny (model X.prog X.w) X.A (handleBy e X.env (h0 :: hds)) (SP X pins D) X.xe s3) X.xe s2) X.xe s1) (fun u s' y => ?_) PassesOwn.looking).run [] s σ H D (I.toTry _) h) (fun f s1 q => ?_) (fun e s1 z => z)
  · obtain ⟨a, B, sI, pins', τ, G, cls, d, rfl, J0, nb, up, sky, na, os, ag, w⟩ := y
    have J : Inv X pins τ G sI := J0.ofTry ok
    have sky : Sky B (X.env :: X.outer) a (Zc cls d) X.env.locals s'.heap := hs ▸ sky
    show wpAny (model X.prog X.w) X.A (noteFrame (.ref a) X.env) _ _ _
    refine Sky.land Zc.steady fr0 hf sky fun h3 fl up3 => ?_
    have J3 : Inv X pins τ G { s' with heap := h3 } := J.landed nb fl.1 (up.trans up3) os ag
    obtain ⟨oe, vs, ea, ez, ed⟩ := fl.there
    have nfr : a ∉ frs (X.env :: X.outer) := fun hm => by
      obtain ⟨_, o', e', hnf⟩ := fl.2.2.1.mem hm
      rw [ea] at e'
      cases e'
      exact hnf _ ed
    have nL : a ≠ X.env.locals := fun z => nfr (List.mem_filterMap.mpr ⟨X.env, List.mem_cons_self, by rw [hf, z]⟩)
    have nF : a ∉ X.fs := fun hm => by
      obtain ⟨e, he, q⟩ := List.mem_filterMap.mp hm
      exact nfr (List.mem_filterMap.mpr ⟨e, .tail _ he, q⟩)
    have S3 := J3.suite ea ed na nL nF
    have go : ∀ {hs' : List ExceptHandler} {l' : List Clause}, AsOk X n hs' l' → wMas X.K i Wout D l' cls d τ G → wpAny (model X.prog X.w) X.A (handleBy (.ref a) X.env hs') (SP X pins D) X.xe { s' with heap := h3 } := by
      intro hs' l' hk
      induction hk with
      | nil =>
        intro w
        refine wpAny_handleBy_nil ?_
        obtain ⟨_, _, _, oe, vs, T, _, _, he, _, hd, h1, _⟩ := id fl
        unfold PySem.passOn
        refine wpAny_bind (wpAny_field he hd h1 ?_)
        rw [if_neg (show ¬ ((Value.ref T == Value.none) = true) by simp)]
        have fin : wpAny (model X.prog X.w) X.A (setFlight (.ref a) X.env.frame) (fun _ s4 => wpAny (model X.prog X.w) X.A (throw (.ref a) : Sem Flow) (SP X pins D) X.xe s4) X.xe { s' with heap := h3 } := by
          rw [hf]
          refine HandSPX.setFlight_upZ fl fun h4 hh4 up4 => wpAny_throw (tk _ _ ⟨a, B, sI, pins, τ, G, cls, d, rfl, J, nb, (up.trans up3).trans up4, .inr (.inr (by rw [hs]; exact hh4)), na, os, ag, w⟩)
        first
          | exact wpAny_bind (wpAny_pure (wpAny_bind fin))
          | exact wpAny_bind fin
      | @cons x c ts st more np hp hds2 l2 hc hsu r ih =>
        intro w
        obtain ⟨b, eb, yes, no⟩ := w
        refine wpAny_handleBy_cons (codeAny_handlers_test ?_) (fun q => nomatch q)
        have LT : PySem.W.Looks (model X.prog X.w) h3 (typeOf (.ref a)) cls := fun A Q E s k q => wpAny_typeOf_ref (k _ _ ea) (by rw [ez.1]; exact q)
        have LM := PySem.W.exm_one (M := model X.prog X.w) (J3.kIn) LT eb
        have test : ∀ {Q : Value → Shared → Prop} {E : Value → Shared → Prop}, Q c { s' with heap := h3 } → wpAny (model X.prog X.w) (X.A.mark (some (.ref a))) (eval (.Name x np) X.env) Q E { s' with heap := h3 } := fun {Q E} q => by
          obtain ⟨hg, hdb, hm | ⟨hm, hv, hnn⟩⟩ := hc
          · exact ld_glob (X := X.suite a ((a, oe) :: (X.pn ++ pins))) S3 hg hm q hdb
          · exact ld_blt (X := X.suite a ((a, oe) :: (X.pn ++ pins))) S3 hg hm hv q hnn hdb
        refine test (LM.here ?_)
        cases b with
        | false => exact ih (no rfl)
        | true =>
          refine codeAny_handlers_suite_as (HandSPX.lands_againZ fl fun h4 fl4 up4 => ?_)
          have J4 : Inv X pins τ G { s' with heap := h4 } := J.landed nb fl4.1 ((up.trans up3).trans up4) os ag
          obtain ⟨o4, v4, e4, z4, d4⟩ := fl4.there
          refine store_ok (X := X.suite a ((a, o4) :: (X.pn ++ pins))) (v := .ref a) (J4.suite e4 d4 na nL nF) hN hi (.inl hln) rfl (fun s5 S5 => ?_) (.inr hln)
          refine wpAny_mono ((hsu a o4 cls d (X.pn ++ pins) z4 ⟨_, d4⟩).run [] s5 _ G _ S5 (yes rfl a na)) (fun f s6 q => ?_) (fun _ _ z => z.elim)
          have gone : ∀ {σ6 : L2.St} {H6 : Hp} {Q : Shared → Prop}, Inv (X.suite a ((a, o4) :: (X.pn ++ pins))) [] σ6 H6 s6 → (∀ s7, Inv X pins (σ6.set i none) H6 s7 → Q s7) →
              wpAny (model X.prog X.w) X.A (do bindName X.env n .none; unbindBehindTheSuite X.env n hp) (fun _ s7 => Q s7) X.xe s6 := fun {σ6 H6 Q} S6 hq => gone_ok (S6.unsuite ok) hN hi hln hq
          match f, q with
          | .next, ⟨_, _, S6, q6⟩ => exact gone S6 fun s7 J7 => ⟨_, _, J7, q6⟩
          | .brk, ⟨_, _, S6, q6⟩ => exact gone S6 fun s7 J7 => ⟨_, _, J7, q6⟩
          | .cont, ⟨_, _, S6, q6⟩ => exact gone S6 fun s7 J7 => ⟨_, _, J7, q6⟩
          | .ret u, ⟨_, _, _, S6, r6, q6⟩ => exact gone S6 fun s7 J7 => ⟨_, _, _, J7, r6, q6⟩
    exact go hh w
  · match f, q with
    | .next, ⟨_, _, J1, q⟩ => exact wpAny_execs_nil ⟨_, _, J1.ofTry ok, q⟩
    | .brk, ⟨_, _, J1, q⟩ => exact ⟨_, _, J1.ofTry ok, q⟩
    | .cont, ⟨_, _, J1, q⟩ => exact ⟨_, _, J1.ofTry ok, q⟩
    | .ret u, ⟨_, _, _, J1, r, q⟩ => exact ⟨_, _, _, J1.ofTry ok, r, q⟩
end
end Kb
namespace Kb
open PySem PySem.Spec PyProof.Rows L2
theorem exm_other {K : PySem.W.Frag} {S T : Addr} (h1 : PySem.W.subIn K (.ref T) (.type "BaseException") = some true) (h2 : PySem.W.isClsIn K T = true) (h3 : PySem.W.typeIn K (.ref T) = some (.type "type")) (h4 : PySem.W.subIn K (.ref S) (.ref T) = some false) :
    PySem.W.exmOne K (.ref S) (.ref T) = some false := by
  unfold PySem.W.isClsIn at h2
  unfold PySem.W.exmOne
  simp only [h1]
  unfold PySem.W.kitCls
  simp [h2, h3, h4]
end Kb

namespace Kb
open PySem PySem.Spec PyProof.Rows L2
/-! ### except (C, D) as e: the error stays a value behind the suite -/
/-- an error of the class cls, its dict at d -/
def ExV (cls : Value) (d : Option Addr) (a : Addr) : HO := .ext fun h => ∃ (o : Obj) (vs : Array Value), h.get? a = some o ∧ Zc cls d o ∧ o.data = .fields vs
theorem exV_ok {P : Program} {w : World} {H : Hp} {h : Heap} {a : Addr} {cls : Value} {d : Option Addr} {o : Obj} {vs : Array Value} (e : h.get? a = some o) (z : Zc cls d o) (dt : o.data = .fields vs) : ObjOk P w H h a (ExV cls d a) :=
  ⟨⟨o, vs, e, z, dt⟩, ⟨o, e⟩, fun _ _ ⟨q, v, x, y⟩ k => ⟨q, v, k q x, y⟩⟩
theorem flying_kept {B h h' : Heap} {l : List Env} {a : Addr} {Z : Obj → Prop} (x : HandSPX.FlyingZ B l a Z h) (k : ∀ b o, h.get? b = some o → h'.get? b = some o) : HandSPX.FlyingZ B l a Z h' := by
  obtain ⟨x1, x2, x3, oe, vs, T, oT, ts, e1, e2, e3, e4, e5, e6, e7, e8, e9⟩ := x
  exact ⟨fun b o e => k b o (x1 b o e), x2, x3.of_keeps fun b o e _ => ⟨o, k b o e, rfl⟩, oe, vs, T, oT, ts, k _ _ e1, e2, e3, e4, e5, e6, k _ _ e7, e8, e9⟩
section
variable {X : Cx} {pins : List (Addr × Obj)} {σ : L2.St} {H : Hp} {s : Shared}
/-- what lies there untracked, new since the entry, is tracked from here on -/
theorem inv_mark {a : Addr} {u : HO} (I : Inv X pins σ H s) (hn : H a = none) (n0 : X.s_0.heap.get? a = none) (nL : a ≠ X.env.locals) (nC : ∀ x c, X.env.cells.lookup x = some c → c ≠ a) (nP : ∀ p ∈ X.pn ++ pins, p.1 ≠ a) (new : ObjOk X.prog X.w (L2.upd H a u) s.heap a u) : Inv X pins σ (L2.upd H a u) s := by
  have ne : ∀ b o, H b = some o → b ≠ a := fun b o e z => by rw [z, hn] at e; cases e
  refine ⟨I.ok, I.os, I.bare, ⟨I.base.keep, I.base.slot, fun b o e n hx => ?_, I.base.there, fun b xs e => ?_, fun b o v e => ?_, fun b ps e => ?_⟩, I.loc, I.cell, ?_, fun x c e => ?_, fun p hp => ?_, I.hok.laidN (fun _ _ z => z) hn new, I.len⟩
  · rw [upd_ne (fun z => by rw [z, n0] at e; cases e)]
    exact I.base.free b o e n hx
  · have q := I.base.tups b xs e
    rw [upd_ne (ne _ _ q)]; exact q
  · have q := I.base.frzs b o v e
    rw [upd_ne (ne _ _ q)]; exact q
  · obtain ⟨m, q⟩ := I.base.tbls b ps e
    exact ⟨m, by rw [upd_ne (ne _ _ q)]; exact q⟩
  · rw [upd_ne nL.symm]; exact I.free
  · rw [upd_ne (nC x c e)]; exact I.freeC x c e
  · obtain ⟨p1, p2, p3⟩ := I.pin p hp
    exact ⟨p1, by rw [upd_ne (nP p hp)]; exact p2, p3⟩
theorem inv_suite0 (I : Inv X pins σ H s) (a : Addr) : Inv (X.suite a (X.pn ++ pins)) [] σ H s :=
  ⟨I.ok.suite _ _, I.os, I.bare, I.base, I.loc, I.cell, I.free, I.freeC, fun p hp => I.pin p (by rw [List.append_nil] at hp; exact hp), I.hok, I.len⟩
theorem inv_unsuite0 {a : Addr} {q : List (Addr × Obj)} (I : Inv (X.suite a (X.pn ++ pins)) q σ H s) (ok : X.Ok) : Inv X pins σ H s :=
  ⟨ok, I.os, I.bare, I.base, I.loc, I.cell, I.free, I.freeC, fun p hp => I.pin p (List.mem_append_left _ hp), I.hok, I.len⟩
end
/-- what is asked where the clause catches all -/
def wTup (K : PySem.W.Frag) (cs : List Value) (i : Nat) (ts : Addr → TS) (D : Ends) : WX := fun cls d σ H => PySem.W.exmAny K cls cs = some true ∧
  ∀ a H', Same H H' → H' a = none → ts a { nx := fun σ' G => D.nx (σ'.set i none) G, rt := D.rt, bk := fun σ' G => D.bk (σ'.set i none) G, ct := fun σ' G => D.ct (σ'.set i none) G } (σ.set i (some (.ref a))) (L2.upd H' a (ExV cls d a))
section
variable {X : Cx}
theorem ps_try_tup {n x1 x2 : Str} {c1 c2 : Value} {i kk : Nat} {body : List Stmt} {st : Stmt} {more : List Stmt} {p1 p2 tp hp pos : Pos} {tb : WX → TS} {ts : Addr → TS} (hs : X.stack = X.env :: X.outer) (hf : X.env.frame = some X.env.locals) (hN : X.N.Nodup) (hi : X.N[i]? = some n) (hln : X.env.kindOf n = some .local) (hx : X.ex = []) (hc1 : Names X x1 c1) (hc2 : Names X x2 c2)
    (hb : ∀ (W : WX) (pn : List (Addr × Obj)) (xe : Value → Shared → Prop), Takes (X.tr pn xe) W → PassesOwn (model X.prog X.w) X.A X.env xe → PSs (X.tr pn xe) body (tb W))
    (hsu : ∀ (a : Addr) (pn : List (Addr × Obj)), PSs (X.suite a pn) (st :: more) (ts a)) :
    PS X (.Try body [.ExceptHandler (some (.Tuple [.Name x1 p1, .Name x2 p2] kk tp)) (some n) (st :: more) hp] [] [] pos) (fun D σ H => tb (wTup X.K [c1, c2] i ts D) D σ H) := by
  refine ⟨fun pins s σ H D I h => wpAny_Try_except ?_⟩
  have ok := I.ok
  have fr0 : X.A.frames = some (X.env :: X.outer) := ok.frames.trans (congrArg some hs)
  refine wpAny_mono ((hb (wTup X.K [c1, c2] i ts D) (X.pn ++ pins) (fun e s1 => wpAny (model X.prog X.w) X.A (noteFrame e X.env) (fun _ s2 => wpAny (model X.prog X.w) X.A (setFlight e none) (fun _ s3 =>
    wpAny (model X.prog X.w) X.A (handleBy e X.env [.ExceptHandler (some (.Tuple [.Name x1 p1, .Name x2 p2] kk tp)) (some n) (st :: more) hp]) (SP X pins D) X.xe s3) X.xe s2) X.xe s1) (fun u s' y => ?_) PassesOwn.looking).run [] s σ H D (I.toTry _) h) (fun f s1 q => ?_) (fun e s1 z => z)
  · obtain ⟨a, B, sI, pins', τ, G, cls, d, rfl, J0, nb, up, sky, na, os, ag, w⟩ := y
    have J : Inv X pins τ G sI := J0.ofTry ok
    have sky : Sky B (X.env :: X.outer) a (Zc cls d) X.env.locals s'.heap := hs ▸ sky
    show wpAny (model X.prog X.w) X.A (noteFrame (.ref a) X.env) _ _ _
    refine Sky.land Zc.steady fr0 hf sky fun h3 fl up3 => ?_
    have J3 : Inv X pins τ G { s' with heap := h3 } := J.landed nb fl.1 (up.trans up3) os ag
    obtain ⟨oe, vs, ea, ez, ed⟩ := fl.there
    have nfr : a ∉ frs (X.env :: X.outer) := fun hm => by
      obtain ⟨_, o', e', hnf⟩ := fl.2.2.1.mem hm
      rw [ea] at e'
      cases e'
      exact hnf _ ed
    have nL : a ≠ X.env.locals := fun z => nfr (List.mem_filterMap.mpr ⟨X.env, List.mem_cons_self, by rw [hf, z]⟩)
    have nF : a ∉ X.fs := fun hm => by
      obtain ⟨e, he, q⟩ := List.mem_filterMap.mp hm
      exact nfr (List.mem_filterMap.mpr ⟨e, .tail _ he, q⟩)
    have nI : sI.heap.get? a = none := by
      cases q : sI.heap.get? a with
      | none => rfl
      | some o =>
        have := nb a o q (by rw [hs]; exact nfr)
        rw [fl.2.1] at this
        cases this
    have n0 : X.s_0.heap.get? a = none := by
      cases q : X.s_0.heap.get? a with
      | none => rfl
      | some o =>
        obtain ⟨o', q'⟩ := J.base.there a o q (by rw [hx]; exact fun z => nomatch z)
        rw [nI] at q'
        cases q'
    have nP : ∀ p ∈ X.pn ++ pins, p.1 ≠ a := fun p hp z => by
      have := (J.pin p hp).1
      rw [z, nI] at this
      cases this
    have S3 := inv_suite0 J3 a
    obtain ⟨ex, w⟩ := w
    refine wpAny_handleBy_cons (codeAny_handlers_test ?_) (fun q => nomatch q)
    have name : ∀ {y : Str} {c : Value} {q : Pos} {Q : Value → Shared → Prop} {E : Value → Shared → Prop}, Names X y c → Q c { s' with heap := h3 } → wpAny (model X.prog X.w) (X.A.mark (some (.ref a))) (eval (.Name y q) X.env) Q E { s' with heap := h3 } := fun {y c q Q E} hc z => by
      obtain ⟨hg, hdb, hm | ⟨hm, hv, hnn⟩⟩ := hc
      · exact ld_glob (X := X.suite a (X.pn ++ pins)) S3 hg hm z hdb
      · exact ld_blt (X := X.suite a (X.pn ++ pins)) S3 hg hm hv z hnn hdb
    refine wpAny_Tuple ?_
    refine wpAny_items_cons (name hc1 ?_)
    refine wpAny_items_cons (name hc2 ?_)
    refine wpAny_items_nil ⟨by show 2 ≤ sizeLine; decide, ?_⟩
    have kp : ∀ b o, h3.get? b = some o → (h3.push { cls := .type "tuple", data := .seq [c1, c2].toArray }).get? b = some o := fun _ _ z => Heap.get?_push_of_some _ z
    have LT : PySem.W.Looks (model X.prog X.w) h3 (typeOf (.ref a)) cls := fun A Q E s k q => wpAny_typeOf_ref (k _ _ ea) (by rw [ez.1]; exact q)
    have fl' := flying_kept fl kp
    refine (PySem.W.exm_tup2 (M := model X.prog X.w) (J3.kIn.keeps kp) (LT.keeps kp) (Heap.get?_push_size h3 rfl) ex).here ?_
    refine codeAny_handlers_suite_as (HandSPX.lands_againZ fl' fun h4 fl4 up4 => ?_)
    have J4 : Inv X pins τ G { s' with heap := h4 } := J.landed nb fl4.1 (((up.trans up3).trans (Heap.UpToSlots.of_keeps kp)).trans up4) os ag
    obtain ⟨o4, v4, e4, z4, d4⟩ := fl4.there
    have nC : ∀ x c, X.env.cells.lookup x = some c → c ≠ a := fun x c e z => by
      obtain ⟨v, o, ho, hd⟩ := J4.cell x c e
      have ho : h4.get? c = some o := ho
      rw [z, e4] at ho
      cases ho
      rw [d4] at hd
      cases hd
    have J5 : Inv X pins τ (L2.upd G a (ExV cls d a)) { s' with heap := h4 } := inv_mark J4 na n0 nL nC nP (exV_ok e4 z4 d4)
    refine store_ok (X := X.suite a (X.pn ++ pins)) (v := .ref a) (inv_suite0 J5 a) hN hi (.inl hln) rfl (fun s5 S5 => ?_) (.inr hln)
    refine wpAny_mono ((hsu a (X.pn ++ pins)).run [] s5 _ _ _ S5 (w a G (Same.refl G) na)) (fun f s6 q => ?_) (fun _ _ z => z.elim)
    have gone : ∀ {σ6 : L2.St} {H6 : Hp} {Q : Shared → Prop}, Inv (X.suite a (X.pn ++ pins)) [] σ6 H6 s6 → (∀ s7, Inv X pins (σ6.set i none) H6 s7 → Q s7) →
        wpAny (model X.prog X.w) X.A (do bindName X.env n .none; unbindBehindTheSuite X.env n hp) (fun _ s7 => Q s7) X.xe s6 := fun {σ6 H6 Q} S6 hq => gone_ok (inv_unsuite0 S6 ok) hN hi hln hq
    match f, q with
    | .next, ⟨_, _, S6, q6⟩ => exact gone S6 fun s7 J7 => ⟨_, _, J7, q6⟩
    | .brk, ⟨_, _, S6, q6⟩ => exact gone S6 fun s7 J7 => ⟨_, _, J7, q6⟩
    | .cont, ⟨_, _, S6, q6⟩ => exact gone S6 fun s7 J7 => ⟨_, _, J7, q6⟩
    | .ret u, ⟨_, _, _, S6, r6, q6⟩ => exact gone S6 fun s7 J7 => ⟨_, _, _, J7, r6, q6⟩
  · match f, q with
    | .next, ⟨_, _, J1, q⟩ => exact wpAny_execs_nil ⟨_, _, J1.ofTry ok, q⟩
    | .brk, ⟨_, _, J1, q⟩ => exact ⟨_, _, J1.ofTry ok, q⟩
    | .cont, ⟨_, _, J1, q⟩ => exact ⟨_, _, J1.ofTry ok, q⟩
    | .ret u, ⟨_, _, _, J1, r, q⟩ => exact ⟨_, _, _, J1.ofTry ok, r, q⟩
end
end Kb
namespace Kb
open PySem PySem.Spec PyProof.Rows L2
/-! ### what is asked of an error that is a value -/
/-- an error of the class at D, with these fields -/
def ErrAt (H : Hp) (a D : Addr) (fs : List (Str × V)) : Prop := ∃ dd : Addr, H a = some (ExV (.ref D) (some dd) a) ∧ H dd = some (.xd fs)
theorem ErrAt.same {H H' : Hp} {a D : Addr} {fs : List (Str × V)} (h : ErrAt H a D fs) (s : Same H H') : ErrAt H' a D fs := let ⟨dd, x, y⟩ := h; ⟨dd, s _ _ x, s _ _ y⟩
section
variable {X : Cx} {pins : List (Addr × Obj)} {σ : L2.St} {H : Hp} {s : Shared}
theorem errAt_inst {a D : Addr} {fs : List (Str × V)} (I : Inv X pins σ H s) (h : ErrAt H a D fs) : ∃ (o od : Obj) (m : Str → Option Value), PySem.W.InstAt s.heap a o D (some od) ∧ (∀ f, PySem.W.lookIn f od = some (m f)) ∧ ∀ f, RelO (fs.lookup f) (m f) := by
  obtain ⟨dd, ha, hd⟩ := h
  obtain ⟨⟨o, vs, q1, q2, q3⟩, _, _⟩ : ObjOk X.prog X.w H s.heap a (ExV (.ref D) (some dd) a) := I.hok a _ ha
  obtain ⟨m, hn, hr⟩ : ObjOk X.prog X.w H s.heap dd (.xd fs) := I.hok dd _ hd
  obtain ⟨od, ho, hl⟩ := lookIn_ns hn
  exact ⟨o, od, m, ⟨q1, q2.1, by unfold PySem.W.notCls; rw [q3] <;> rfl, by rw [q2.2]; exact ho⟩, hl, hr⟩
end
theorem excC_kitx {K : PySem.W.Frag} {x : Addr} {o : Obj} {D : Addr} {od : Obj} (C : ExcC K D) : PySem.W.KitX K (.ref x) (.ref D) (fun h => PySem.W.InstAt h x o D (some od)) := by
  have hcl : (PySem.W.clsIn K D).isSome = true := by
    obtain ⟨cd, hc, _⟩ := PySem.W.any_some C.hd
    rw [hc]; rfl
  exact PySem.W.kitx_exc hcl C.hg C.hk C.hs C.ha C.hn C.ht C.hm
/-- isinstance(e, c), e an error that is a value -/
def rIsE (K : PySem.W.Frag) : List V → Hp → VK → Prop := fun xs H Q => ∃ (a D : Addr) (fs : List (Str × V)) (c : V) (u : Value) (b : Bool), xs = [.ref a, c] ∧ ErrAt H a D fs ∧ ClsV c u ∧ ExcC K D ∧ PySem.W.kitOne K (.ref D) u = some b ∧ Q (.bl b) H
/-- isinstance(e, (c1, c2)) -/
def rIsET (K : PySem.W.Frag) : List V → Hp → VK → Prop := fun xs H Q => ∃ (a D tp : Addr) (fs : List (Str × V)) (cs : List V) (us : List Value) (b : Bool), xs = [.ref a, .ref tp] ∧ ErrAt H a D fs ∧ H tp = some (.tup cs) ∧ Paired ClsV cs us ∧ ExcC K D ∧ PySem.W.kitAny K (.ref D) us = some b ∧ Q (.bl b) H
/-- e.f -/
def tXv (C : Addr) (f : Str) (te : TE) : TE := fun σ H Q => te σ H fun x H1 => ∃ (a : Addr) (fs : List (Str × V)) (v : V), x = .ref a ∧ ErrAt H1 a C fs ∧ fs.lookup f = some v ∧ Q v H1
section
variable {X : Cx}
theorem call_isE : CallR X (.builtin "isinstance") (rIsE X.K) := by
  intro pins s σ H xs us Q I r h
  obtain ⟨a, D, fs, c, u, b, rfl, hE, hc, C, e, q⟩ := h
  obtain ⟨u1, u2, rfl, r1, r2⟩ : ∃ u1 u2, us = [u1, u2] ∧ RelV (.ref a) u1 ∧ RelV c u2 := by
    cases r with
    | cons x1 rr =>
      cases rr with
      | cons x2 r3 => cases r3; exact ⟨_, _, rfl, x1, x2⟩
  cases (show u1 = Value.ref a from r1)
  obtain rfl := hc.eq r2
  obtain ⟨o, od, m, J, _⟩ := errAt_inst I hE
  exact PySem.W.kia_one (excC_kitx C) I.kIn J e (fun z => nomatch z) fun tk => ⟨.bl b, H, I.tok tk, rfl, q⟩
theorem call_isET : CallR X (.builtin "isinstance") (rIsET X.K) := by
  intro pins s σ H xs us Q I r h
  obtain ⟨a, D, tp, fs, cs, ws, b, rfl, hE, hT, hk, C, e, q⟩ := h
  obtain ⟨u1, u2, rfl, r1, r2⟩ : ∃ u1 u2, us = [u1, u2] ∧ RelV (.ref a) u1 ∧ RelV (.ref tp) u2 := by
    cases r with
    | cons x1 rr =>
      cases rr with
      | cons x2 r3 => cases r3; exact ⟨_, _, rfl, x1, x2⟩
  cases (show u1 = Value.ref a from r1)
  cases (show u2 = Value.ref tp from r2)
  obtain ⟨o, od, m, J, _⟩ := errAt_inst I hE
  obtain ⟨_, its, rv, t, h1, h2, n, h3⟩ : ObjOk X.prog X.w H s.heap tp (.tup cs) := I.hok tp _ hT
  cases ClsV.all hk rv
  obtain ⟨oc, oe, dt, sl⟩ := t
  simp only at h2 h3
  subst h2 h3
  exact PySem.W.kia_tup (excC_kitx C) I.kIn J h1 e (fun z => nomatch z) fun tk => ⟨.bl b, H, I.tok tk, rfl, q⟩
theorem pe_xv {C : Addr} {e : Expr} {te : TE} {pos : Pos} {n : Str} (T : XfC X.K C) (hno : PySem.W.findIn X.K (.ref C) n = some none) (he : PE X e te) (hb : attributeBase e n X.env (eval e X.env) = eval e X.env := by rfl) : PE X (.Attribute e n pos) (tXv C n te) := by
  refine ⟨fun pins s σ H Q I h => attr_of hb (thn (he.run pins s σ H _ I h) fun u s1 hh => ?_)⟩
  obtain ⟨x, H1, I1, rx, a, fs, v, ex, hE, l, q⟩ := hh
  subst ex
  cases (show u = Value.ref a from rx)
  obtain ⟨o, od, m, J, hl, hr⟩ := errAt_inst I1 hE
  obtain ⟨z, hz, rz⟩ := RelO.some_of (v := v) (o := m n) (by rw [← l]; exact hr n)
  exact HandSPX.exc_get I1.kIn J T.ga T.gg T.exC (PySem.W.findObj_own T.hdC hno rfl (by rw [hl, hz])) (handed_of rz) ⟨v, H1, I1.tok _, rz, q⟩
end
/-! ### the facts of the classes -/
/-- R is caught by (B1, B2), and is of these classes, or not -/
def ExF (K : PySem.W.Frag) (mg : Str → Option Value) (R B1 B2 : Str) (Ss : List (Str × Bool)) : Prop := ∃ D C1 C2 : Addr, mg R = some (.ref D) ∧ mg B1 = some (.ref C1) ∧ mg B2 = some (.ref C2) ∧ ExcC K D ∧ PySem.W.exmAny K (.ref D) [.ref C1, .ref C2] = some true ∧ ∀ p ∈ Ss, ∃ C : Addr, mg p.1 = some (.ref C) ∧ PySem.W.kitOne K (.ref D) (.ref C) = some p.2
def KitAll (K : PySem.W.Frag) (mg : Str → Option Value) (D : Addr) : List (Str × Bool) → Prop
  | [] => True
  | p :: r => (∃ C : Addr, mg p.1 = some (.ref C) ∧ PySem.W.kitOne K (.ref D) (.ref C) = some p.2) ∧ KitAll K mg D r
theorem KitAll.all {K : PySem.W.Frag} {mg : Str → Option Value} {D : Addr} : ∀ {l : List (Str × Bool)}, KitAll K mg D l → ∀ p ∈ l, ∃ C : Addr, mg p.1 = some (.ref C) ∧ PySem.W.kitOne K (.ref D) (.ref C) = some p.2
  | _ :: _, h, p, m => (List.mem_cons.mp m).elim (fun e => e ▸ h.1) fun m => KitAll.all h.2 p m
theorem KitAll.own {K : PySem.W.Frag} {mg : Str → Option Value} {h : Heap} {D : Addr} {x : Str} {r : List (Str × Bool)} (X : K.In h) (G : h.Ns PySem.mainGlobals mg) (a : PySem.W.nsIn K PySem.mainGlobals x = some (some (.ref D))) (k : KitAll K mg D r) : KitAll K mg D ((x, true) :: r) :=
  ⟨⟨D, PySem.W.mg_of X G a, by unfold PySem.W.kitOne; simp⟩, k⟩
theorem KitAll.not {K : PySem.W.Frag} {mg : Str → Option Value} {h : Heap} {D C : Addr} {x : Str} {r : List (Str × Bool)} (X : K.In h) (G : h.Ns PySem.mainGlobals mg) (a : PySem.W.nsIn K PySem.mainGlobals x = some (some (.ref C))) (ic : PySem.W.isClsIn K C = true) (ty : PySem.W.typeIn K (.ref C) = some (.type "type"))
    (hs : PySem.W.subIn K (.ref D) (.ref C) = some false) (hn : (D == C) = false) (k : KitAll K mg D r) : KitAll K mg D ((x, false) :: r) := by
  have hn : D ≠ C := fun z => by rw [z] at hn; simp at hn
  refine ⟨⟨C, PySem.W.mg_of X G a, ?_⟩, k⟩
  unfold PySem.W.isClsIn at ic
  unfold PySem.W.kitOne PySem.W.kitCls
  simp [ic, ty, hs, hn]
theorem exm_val {K : PySem.W.Frag} {S T : Addr} {b : Bool} (h1 : PySem.W.subIn K (.ref T) (.type "BaseException") = some true) (h2 : PySem.W.isClsIn K T = true) (h3 : PySem.W.typeIn K (.ref T) = some (.type "type")) (h4 : PySem.W.subIn K (.ref S) (.ref T) = some b) : PySem.W.exmOne K (.ref S) (.ref T) = some b := by
  unfold PySem.W.isClsIn at h2
  unfold PySem.W.exmOne
  simp only [h1]
  unfold PySem.W.kitCls
  simp [h2, h3, h4]
theorem ExF.mk {K : PySem.W.Frag} {mg : Str → Option Value} {h : Heap} {R B1 B2 : Str} {Ss : List (Str × Bool)} {S T U : Addr} {b c : Bool} (X : K.In h) (G : h.Ns PySem.mainGlobals mg) (a0 : PySem.W.nsIn K PySem.mainGlobals R = some (some (.ref S))) (a1 : PySem.W.nsIn K PySem.mainGlobals B1 = some (some (.ref T))) (a2 : PySem.W.nsIn K PySem.mainGlobals B2 = some (some (.ref U)))
    (t1 : PySem.W.subIn K (.ref T) (.type "BaseException") = some true) (t2 : PySem.W.isClsIn K T = true) (t3 : PySem.W.typeIn K (.ref T) = some (.type "type")) (t4 : PySem.W.subIn K (.ref S) (.ref T) = some b)
    (u1 : PySem.W.subIn K (.ref U) (.type "BaseException") = some true) (u2 : PySem.W.isClsIn K U = true) (u3 : PySem.W.typeIn K (.ref U) = some (.type "type")) (u4 : PySem.W.subIn K (.ref S) (.ref U) = some c) (bc : (b || c) = true)
    (c1 : PySem.W.findIn K (.ref S) "__getattribute__" = some (some (.builtin "BaseException.__getattribute__"))) (c2 : PySem.W.findIn K (.ref S) "__getattr__" = some none) (c3 : PySem.W.subIn K (.ref S) (.type "BaseException") = some true) (c4 : PySem.W.hasDictIn K S = true)
    (c5 : PySem.W.findIn K (.ref S) "__class__" = some (some (.builtin "object.__class__"))) (c6 : PySem.W.specialIn K (.builtin "object.__class__") "__get__" = some (some (.builtin "getset_descriptor.__get__"))) (c7 : PySem.W.takesIn K (.builtin "object.__class__") = some true)
    (c8 : PySem.W.mroIn K S (.type "object") = some true) (ks : KitAll K mg S Ss) : ExF K mg R B1 B2 Ss := by
  refine ⟨S, T, U, PySem.W.mg_of X G a0, PySem.W.mg_of X G a1, PySem.W.mg_of X G a2, ⟨c1, c2, c3, c4, c5, c6, c7, c8⟩, ?_, ks.all⟩
  have e1 := exm_val (S := S) t1 t2 t3 t4
  have e2 := exm_val (S := S) u1 u2 u3 u4
  simp only [PySem.W.exmAny, e1, e2]
  simpa using bc
end Kb
namespace Kb
open PySem PySem.Spec PyProof.Rows L2
/-! ### a def that a variable holds is called -/
def tFv (i : Nat) (mg : Str → Option Value) (x : Str) (sp : Sp) (W : WX) (t : TA) : TE := fun σ H Q => ∃ g : Addr, σ[i]? = some (some (.ref g)) ∧ mg x = some (.ref g) ∧ t σ H fun vs H1 => sp vs H1 Q (WE W σ)
theorem pe_fv {X : Cx} {W : WX} {i j k : Nat} {x y : Str} {ps : List Str} {sp : Sp} {p pos : Pos} {e : Expr} {es : List Expr} {t : TA} (c : Cal X.prog X.w X.K X.mg X.base (L2.CX X.prog X.w) j x ps sp) (hr : Room k X.A) (hjk : j ≤ k) (hN : X.N[i]? = some y) (hv : Vis X.env.scope y) (tk : Takes X W)
    (ha : PA X (e :: es) t) (hd : (y == ("__debug__" : Str)) = false := by decide) (hcd : (y == ("__classdict__" : Str)) = false := by decide) (he : starEach (e :: es) X.env = (false, eval e X.env) :: starEach es X.env := by rfl) (hpl : (backTo pos (starEach es X.env)).any (·.1) = false := by rfl) :
    PE X (.Call (.Name y p) (e :: es) [] pos) (tFv i X.mg x sp W t) := by
  obtain ⟨f, fd, F, m, kp, b⟩ := c
  refine ⟨fun pins s σ H Q I ⟨g, hs, hm, h⟩ => ?_⟩
  cases m.symm.trans hm
  refine wpAny_Call_Name_kw (thn ((pe_var (pos := p) hN hv hd hcd).run pins s σ H (fun v H1 => v = .ref f ∧ H1 = H) I ⟨_, hs, rfl, rfl⟩) fun u s1 ⟨v, H1, I1, r1, q1, q2⟩ => ?_)
  subst q1 q2
  cases (show u = Value.ref f from r1)
  refine PySem.W.callWith_K (h₀ := X.base) I1.ok.mod.kin kp (thn (ha.run pos pins s1 σ H1 _ I1 h) fun us s2 ⟨vs, H2, I2, r, q⟩ => ⟨I2.kIn, ?_⟩) he hpl
  exact run_fnS F (hr.mono hjk) b (passAt tk σ) I2 r q
theorem pe_alt {X : Cx} {e : Expr} {t u : TE} (h1 : PE X e t) (h2 : PE X e u) : PE X e (fun σ H Q => t σ H Q ∨ u σ H Q) := ⟨fun pins s σ H Q I h => h.elim (h1.run pins s σ H Q I) (h2.run pins s σ H Q I)⟩
end Kb
namespace Kb
open PySem PySem.Spec PyProof.Rows L2
/-- f() -/
theorem pe_c0 {X : Cx} {CX : CXT} {E : XK} {j k : Nat} {x : Str} {ps : List Str} {sp : Sp} {p pos : Pos} (c : Cal X.prog X.w X.K X.mg X.base CX j x ps sp) (hr : Room k X.A) (hjk : j ≤ k) (hg : Gl X x) (hx : Passes CX X E) (hdb : (x == ("__debug__" : Str)) = false := by decide) :
    PE X (.Call (.Name x p) [] [] pos) (tCall sp [] E tNil) := by
  obtain ⟨f, fd, F, m, kp, b⟩ := c
  exact pe_call0 F (hr.mono hjk) hg m kp b .nil hx hdb
end Kb
namespace Kb
open PySem PySem.Spec PyProof.Rows L2
/-- .. one of three -/
def tF3 (i : Nat) (mg : Str → Option Value) (x y z : Str) (sx sy sz : Sp) (W : WX) (t : TA) : TE := fun σ H Q => tFv i mg x sx W t σ H Q ∨ tFv i mg y sy W t σ H Q ∨ tFv i mg z sz W t σ H Q
theorem pe_fv3 {X : Cx} {W : WX} {jx jy jz k : Nat} {x y z n : Str} {px py pz : List Str} {sx sy sz : Sp} {p pos : Pos} {e : Expr} {es : List Expr} {t : TA} (i : Nat) (m : Str → Option Value) (cx : Cal X.prog X.w X.K X.mg X.base (L2.CX X.prog X.w) jx x px sx) (cy : Cal X.prog X.w X.K X.mg X.base (L2.CX X.prog X.w) jy y py sy)
    (cz : Cal X.prog X.w X.K X.mg X.base (L2.CX X.prog X.w) jz z pz sz) (hm : X.mg = m) (hr : Room k X.A) (hx : jx ≤ k) (hy : jy ≤ k) (hz : jz ≤ k) (hN : X.N[i]? = some n) (hv : Vis X.env.scope n) (tk : Takes X W) (ha : PA X (e :: es) t) (hd : (n == ("__debug__" : Str)) = false := by decide)
    (hcd : (n == ("__classdict__" : Str)) = false := by decide) (he : starEach (e :: es) X.env = (false, eval e X.env) :: starEach es X.env := by rfl) (hpl : (backTo pos (starEach es X.env)).any (·.1) = false := by rfl) : PE X (.Call (.Name n p) (e :: es) [] pos) (tF3 i m x y z sx sy sz W t) := by
  subst hm
  exact pe_alt (pe_fv cx hr hx hN hv tk ha hd hcd he hpl) (pe_alt (pe_fv cy hr hy hN hv tk ha hd hcd he hpl) (pe_fv cz hr hz hN hv tk ha hd hcd he hpl))
end Kb

namespace Kb
open PySem PySem.Spec PyProof.Rows L2 LamX
/-! ### lambdas whose parameters all have defaults, handed to a def -/
/-- the defaults' object -/
def Dfl (H : Hp) (ds : List V) (dV : Value) : Prop := (ds = [] ∧ dV = .none) ∨ ∃ t : Addr, ds ≠ [] ∧ dV = .ref t ∧ H t = some (.tup ds)
abbrev lamO (q : Str) (params : Arguments) (body : Expr) (scope : Scope) (cl : List (Str × Addr)) (dV doc pm : Value) (c' : Addr) (ctv : Value) : Obj :=
  PySem.W.kdv_obj "<lambda>" q params (.expr body) scope cl dV doc pm c' ctv
/-- how it binds where nothing is handed in -/
def LamB (params : Arguments) (body : Expr) (scope : Scope) (ps : List Str) (ds : List V) : Prop :=
  (ds = [] ∧ ps = [] ∧ ∀ (q : Str) (cl : List (Str × Addr)) (doc pm cv ctv : Value), bindArgs (PySem.W.kdv_fn "<lambda>" q params (.expr body) scope cl .none doc pm cv ctv) ⟨[], []⟩ = pure []) ∨
  (ds.length = ps.length ∧ ds ≠ [] ∧ ∀ (q : Str) (cl : List (Str × Addr)) (t : Addr) (doc pm cv ctv : Value) (its : List Value), its.length = ds.length →
    ∃ k, bindArgs (PySem.W.kdv_fn "<lambda>" q params (.expr body) scope cl (.ref t) doc pm cv ctv) ⟨[], []⟩ = seqItems? (.ref t) >>= k ∧ k (some its.toArray) = pure (ps.zip its))
/-- its names: own parameters (none of them a name of the maker), captured ones, globals -/
structure LamP (N : List Str) (sc scope : Scope) (ps : List Str) : Prop where
  kind : scope.kind = .function
  co : scope.isCoroutine = false
  gen : scope.isGenerator = false
  own : ∀ y ∈ scope.names, y.2 ≠ .cell
  loc : ∀ y ∈ scope.names, y.2 = .local → y.1 ∉ N
  par : ∀ x ∈ ps, scope.names.lookup x = some .local
  free : ∀ y ∈ scope.names, y.2 = .free → sc.names.lookup y.1 = some .cell ∨ sc.names.lookup y.1 = some .free
def lamPB (N : List Str) (sc scope : Scope) (ps : List Str) : Bool :=
  decide (scope.kind = .function) && (!scope.isCoroutine && (!scope.isGenerator && ((scope.names.all fun y => !decide (y.2 = .cell)) && ((scope.names.all fun y => !decide (y.2 = .local) || !decide (y.1 ∈ N)) &&
    ((ps.all fun x => decide (scope.names.lookup x = some .local)) && (scope.names.all fun y => !decide (y.2 = .free) || (decide (sc.names.lookup y.1 = some .cell) || decide (sc.names.lookup y.1 = some .free))))))))
theorem lamP_by {N : List Str} {sc scope : Scope} {ps : List Str} (h : lamPB N sc scope ps = true) : LamP N sc scope ps := by
  unfold lamPB at h
  simp only [Bool.and_eq_true, Bool.or_eq_true, Bool.not_eq_true', decide_eq_true_eq, decide_eq_false_iff_not, List.all_eq_true] at h
  obtain ⟨g1, g2, g3, g4, g5, g6, g7⟩ := h
  refine ⟨g1, g2, g3, fun y hy => g4 y hy, fun y hy e => (g5 y hy).elim (fun z => absurd e z) id, g6, fun y hy e => ?_⟩
  rcases g7 y hy with z | z
  · exact absurd e z
  · exact z
theorem LamP.has {X : Cx} {N : List Str} {scope : Scope} {ps : List Str} (L : LamP N X.env.scope scope ps) (ok : X.Ok) : ∀ y ∈ scope.names, y.2 = .free → ∃ c, X.env.cells.lookup y.1 = some c :=
  fun y hy e => ok.has _ (L.free y hy e)
section
variable {X : Cx} {pins : List (Addr × Obj)} {σ : L2.St} {H : Hp} {s : Shared}
/-- made, its defaults at dV -/
theorem lam_tail {T : List (Addr × Str)} {c P : Addr} {params : Arguments} {body : Expr} {scope : Scope} {pos : Pos} {E Q : Value → Shared → Prop} {dV : Value} (I : Inv X pins σ H s) (TB : TabB X.base X.mg c P) (hcode : X.env.code = .ref c)
    (hm : (P, X.env.qual ++ "<lambda>") ∈ T) (hu : ∀ p ∈ T, p.1 = P → p.2 = X.env.qual ++ "<lambda>") (hT : Tabs T H) (hfree : ∀ y ∈ scope.names, y.2 = .free → ∃ c, X.env.cells.lookup y.1 = some c)
    (h : ∀ (f c' : Addr) (doc pm ctv : Value) (H1 : Hp) (s' : Shared), Inv X pins σ H1 s' → ExtN H H1 → Tabs T H1 → s'.heap.get? f = some (lamO (X.env.qual ++ "<lambda>") params body scope (cloFrom X.env.cells scope.names []) dV doc pm c' ctv) →
      H1 f = none → f ∉ frs X.stack → H1 c' = some (CodeO c' (X.env.qual ++ "<lambda>")) → Q (.ref f) s') :
    wpAny (model X.prog X.w) X.A (makeTail "<lambda>" (X.env.qual ++ "<lambda>") params (.expr body) scope X.env dV .none none pos pos.line) Q E s := by
  generalize hq : X.env.qual ++ "<lambda>" = q at *
  obtain ⟨ps, hP, ht, ha⟩ := hT _ hm
  have bP := TB.bm.keeps I.bk
  have gP : s.heap.get? P = some (PySem.W.tabObj ps) := I.hok P _ hP
  have out : ∀ f, s.heap.objs.size ≤ f → f ∉ frs X.stack := fun f hf z => (List.mem_cons.mp (I.stkSub _ z)).elim (fun e => by
    have lt := I.lt
    rw [← e] at lt
    exact Nat.lt_irrefl _ (Nat.lt_of_lt_of_le lt hf)) fun e => I.nofs hf e
  cases hc : codeAmong pos ps.toList with
  | some cv =>
    obtain ⟨c', rfl, hco⟩ := ha pos cv hc
    refine PySem.W.kdv_makeTailHit (closure_ok hfree) I.ok.glob (I.mod.glob.keeps I.bk) hcode (TB.code.keeps I.bk) gP ht hc bP fun ctv doc h' tk hx hsz => ?_
    exact h h'.objs.size c' doc _ ctv H _ (I.kept fun b o e => Heap.get?_push_of_some _ (hx b o e)) (ExtN.refl H) hT (Heap.get?_push_size _ rfl) (I.hok.fresh hsz) (out _ hsz) hco
  | none =>
    refine PySem.W.kdv_makeTail (closure_ok hfree) I.ok.glob (I.mod.glob.keeps I.bk) hcode (TB.code.keeps I.bk) gP ht hc TB.gP bP fun c' ctv doc h' tk hx hge hlt hrec htb => ?_
    obtain ⟨c2, oc, vs, t, e2, hoc, hd, hv⟩ := hrec
    cases e2
    have hsz := Nat.le_trans hge (Nat.le_of_lt hlt)
    have nC : H c' = none := I.hok.fresh hge
    have I1 := inv_table (q := q) (t' := tk) (more := #[rawInt pos.line, rawInt pos.col, .ref c']) (h' := h'.push (lamO q params body scope (cloFrom X.env.cells scope.names []) dV doc ((X.mg "__name__").getD .none) c' ctv)) I hP
      (fun b o hb e => Heap.get?_push_of_some _ (hx b o hb e)) (Heap.get?_push_of_some _ htb) hge ⟨oc, vs, t, Heap.get?_push_of_some _ hoc, hd, hv⟩
    have hE : ExtN H (upd (upd H P (.tbl (ps ++ #[rawInt pos.line, rawInt pos.col, .ref c']))) c' (CodeO c' q)) := fun b o e n => by
      have n1 := ne_of_none e nC
      have n2 : b ≠ P := fun z => n ps (by rw [z, hP] at e; exact (Option.some.inj e).symm)
      rw [upd_ne n1, upd_ne n2, e]
    have more : (ps ++ #[rawInt pos.line, rawInt pos.col, .ref c']).toList = ps.toList ++ [rawInt pos.line, rawInt pos.col, .ref c'] := by simp
    refine h h'.objs.size c' doc _ ctv _ _ I1 hE (fun p hp => ?_) (Heap.get?_push_size _ rfl) ?_ (out _ hsz) upd_same
    · by_cases hb : p.1 = P
      · rw [hu p hp hb, hb]
        refine ⟨_, (upd_ne (ne_of_none hP nC)).trans upd_same, ?_, fun p' cv hcv => ?_⟩
        · rw [more]; exact PySem.TriplesOk_snoc _ _ _ _ ht
        · rw [more] at hcv
          rcases among_app _ ht hcv with z | z
          · obtain ⟨c0, e1, e2⟩ := ha p' cv z
            exact ⟨c0, e1, hE _ _ e2 codeO_ne⟩
          · exact ⟨c', z, upd_same⟩
      · obtain ⟨qs, a1, a2, a3⟩ := hT p hp
        refine ⟨qs, (upd_ne (ne_of_none a1 nC)).trans ((upd_ne hb).trans a1), a2, fun p' cv hcv => ?_⟩
        obtain ⟨c0, e1, e2⟩ := a3 p' cv hcv
        exact ⟨c0, e1, hE _ _ e2 codeO_ne⟩
    · have n2 : h'.objs.size ≠ P := Nat.ne_of_gt (Nat.lt_of_lt_of_le (Heap.lt_size gP) hsz)
      rw [upd_ne (Nat.ne_of_gt hlt), upd_ne n2]
      exact I.hok.fresh hsz
/-- what stands in the place of the defaults: nothing, or one number -/
def DefE (es : List Expr) (ds : List V) : Prop := (es = [] ∧ ds = []) ∨ ∃ (z : Int) (j : Nat) (p : Pos), es = [.Constant (.int z) j p] ∧ ds = [.int z]
theorem lam_new {T : List (Addr × Str)} {c P : Addr} {params : Arguments} {body : Expr} {scope : Scope} {pos : Pos} {E Q : Value → Shared → Prop} {ds : List V} (I : Inv X pins σ H s) (TB : TabB X.base X.mg c P) (hcode : X.env.code = .ref c)
    (hm : (P, X.env.qual ++ "<lambda>") ∈ T) (hu : ∀ p ∈ T, p.1 = P → p.2 = X.env.qual ++ "<lambda>") (hT : Tabs T H) (hfree : ∀ y ∈ scope.names, y.2 = .free → ∃ c, X.env.cells.lookup y.1 = some c) (hk0 : params.kw_defaults = []) (hde : DefE params.defaults ds) (hE : E = X.xe)
    (h : ∀ (f c' : Addr) (dV doc pm ctv : Value) (H1 : Hp) (s' : Shared), Inv X pins σ H1 s' → ExtN H H1 → Tabs T H1 → s'.heap.get? f = some (lamO (X.env.qual ++ "<lambda>") params body scope (cloFrom X.env.cells scope.names []) dV doc pm c' ctv) →
      H1 f = none → f ∉ frs X.stack → H1 c' = some (CodeO c' (X.env.qual ++ "<lambda>")) → Dfl H1 ds dV → Q (.ref f) s') :
    wpAny (model X.prog X.w) X.A (eval (.Lambda params body scope pos) X.env) Q E s := by
  rcases hde with ⟨he, rfl⟩ | ⟨z, j, p, he, rfl⟩
  · refine PySem.W.kla_eval (by rw [defaultsOf_eq, he, hk0]; rfl) ?_
    rw [makeFunction_eq]
    simp only [List.zip_nil_right, List.filterMap_nil, List.isEmpty_nil, if_true, pure_bind]
    exact lam_tail I TB hcode hm hu hT hfree fun f c' doc pm ctv H1 s' I1 e1 T1 h1 h2 h3 h4 => h f c' .none doc pm ctv H1 s' I1 e1 T1 h1 h2 h3 h4 (.inl ⟨rfl, rfl⟩)
  · refine PySem.W.kdv_lam (by rw [he]; rfl) hk0 ?_
    rw [he]
    refine PySem.W.kdv_all1 ?_
    subst hE
    refine thn ((pe_int (X := X) (i := z)).run pins s σ H (fun v H1 => v = .int z ∧ H1 = H) I ⟨rfl, rfl⟩) fun u s1 ⟨v, H1, I1, r1, q1, q2⟩ => PySem.W.kdv_all0 ?_
    subst q1 q2
    rw [makeFunction_eq]
    simp only [List.zip_nil_right, List.filterMap_nil, List.isEmpty_nil, if_true, pure_bind, List.isEmpty_cons, Bool.false_eq_true, if_false]
    refine wpAny_bind (wpAny_newTextTuple ?_)
    have nt : H1 s1.heap.objs.size = none := I1.hok.fresh (Nat.le_refl _)
    have I2 : Inv X pins σ (upd H1 s1.heap.objs.size (.tup [.int z])) { s1 with heap := s1.heap.push { cls := .type "tuple", data := .seq [u].toArray } } :=
      I1.laid (t' := s1.toks) (fun b o e => Heap.get?_push_of_some _ e) (Nat.le_refl _) (show ObjOk X.prog X.w _ _ _ (.tup [.int z]) from ⟨by show 1 ≤ _; decide, [u], .cons r1 .nil, IsTup.new _ _⟩)
    have ex : ∀ b o, H1 b = some o → (upd H1 s1.heap.objs.size (.tup [.int z])) b = some o := fun b o e => by rw [upd_ne (ne_of_none e nt)]; exact e
    exact lam_tail I2 TB hcode hm hu (hT.ext ex) hfree fun f c' doc pm ctv H3 s' I3 e3 T3 h1 h2 h3 h4 => h f c' _ doc pm ctv H3 s' I3 ((ExtN.of ex).trans e3) T3 h1 h2 h3 h4 (.inr ⟨_, by simp, rfl, e3 _ _ upd_same fun qs z => by cases z⟩)
end
end Kb
namespace Kb
open PySem PySem.Spec PyProof.Rows L2 LamX
section
variable {X : Cx} {pins : List (Addr × Obj)} {σ : L2.St} {H HZ : Hp} {s s1 : Shared}
/-- its body is entered -/
theorem lam_enter {A : Around} {outer : List Env} {E : XK} {scope : Scope} {f c' : Addr} {h₁ : Heap} {tk : Nat} {ps : List Str} {m : Str → Option Value} (I : Inv X pins σ H s) (L : LamP X.N X.env.scope scope ps) (e0 : Env0 X.prog X.w X.K X.mg X.base A outer s1 HZ) (hd : A.handled = none)
    (un : Un (frs X.stack) [] H HZ s.heap s1.heap) (hns : h₁.Ns s1.heap.objs.size m) (kp : ∀ b o, s1.heap.get? b = some o → h₁.get? b = some o) :
    Inv (lamCx X A outer s1 HZ E scope f c') [] σ HZ { s1 with heap := h₁, toks := tk } := by
  have cells : ∀ {y c}, (cloFrom X.env.cells scope.names []).lookup y = some c → X.env.cells.lookup y = some c := fun {y c} e => by
    rcases cloFrom_mem (PySem.mem_of_lookup e) with z | ⟨h1, h2⟩
    · cases z
    · obtain ⟨c1, hc⟩ := L.has I.ok _ h1 rfl
      have hc : X.env.cells.lookup y = some c1 := hc
      rw [hc]
      have : c = c1 := by rw [h2, hc]; rfl
      rw [this]
  have look : ∀ {y}, scope.names.lookup y = some .free → ∃ c, (cloFrom X.env.cells scope.names []).lookup y = some c := fun {y} hl =>
    mem_lookup (cloFrom_has (cells := X.env.cells) (acc := []) (PySem.mem_of_lookup hl : (y, NameKind.free) ∈ scope.names))
  have keepC : ∀ {c : Addr} {v : Option Value}, H c = none → s.heap.IsCell c v → h₁.IsCell c v := fun {c v} n ⟨o, ho, hd⟩ => by
    obtain ⟨sl, q⟩ := un.any ho n (by simp)
    exact ⟨_, kp _ _ q, hd⟩
  have nex : ∀ b : Addr, b ∉ (lamCx X A outer s1 HZ E scope f c').ex := fun b z => nomatch (show b ∈ ([] : List Addr) from z)
  have okC : (lamCx X A outer s1 HZ E scope f c').Ok := by
    refine ⟨e0.mod, L.kind, rfl, rfl, Nat.le_refl _, fun y z c e1 e2 => I.ok.inj y z c (cells e1) (cells e2), fun y hy => ?_, fun y c z _ => ?_, fun _ => hd, Around.frames_deeper e0.frames, .inr ⟨rfl, rfl⟩, fun b z => absurd z (nex b),
      e0.bs, e0.bsz, fun b _ _ => nex b, fun b z => absurd z (nex b), e0.funs, e0.frf⟩
    · have hy : scope.names.lookup y = some .cell ∨ scope.names.lookup y = some .free := hy
      rcases hy with hy | hy
      · exact absurd rfl (L.own _ (PySem.mem_of_lookup hy))
      · exact look hy
    · cases (show false = true from z)
  refine ⟨okC, rfl, e0.bare, Un.kept kp, ⟨_, hns, fun i y v e1 e2 e3 => ?_⟩, fun y c e => ?_, e0.hok.fresh (Nat.le_refl _), fun y c e => ?_, fun q hq => (nomatch (show q ∈ ([] : List (Addr × Obj)) ++ [] from hq)), e0.hok.kept kp, I.len⟩
  · have e3 : Vis scope y := e3
    rcases e3 with k | k | k
    · exact absurd (List.mem_of_getElem? (show X.N[i]? = some y from e1)) (L.loc _ (PySem.mem_of_lookup k) rfl)
    · exact absurd rfl (L.own _ (PySem.mem_of_lookup k))
    · obtain ⟨m, hn, hl⟩ := I.loc
      have vis : Vis X.env.scope y := by
        rcases L.free _ (PySem.mem_of_lookup k) rfl with k | k
        · exact .inr (.inl k)
        · exact .inr (.inr k)
      obtain ⟨w', r, q⟩ := hl i y v e1 e2 vis
      obtain ⟨c2, h2⟩ := look k
      have c1 := cells h2
      refine ⟨w', r, .inr ⟨.inr k, c2, h2, ?_⟩⟩
      rcases q with ⟨k', _⟩ | ⟨_, c3, e', z⟩
      · have k' : X.env.scope.names.lookup y = some .local := k'
        exact (L.free _ (PySem.mem_of_lookup k) rfl).elim (fun k2 => by have k2 : X.env.scope.names.lookup y = some .cell := k2; rw [k'] at k2; cases k2) fun k2 => by have k2 : X.env.scope.names.lookup y = some .free := k2; rw [k'] at k2; cases k2
      · rw [c1] at e'
        cases e'
        exact keepC (I.freeC y _ c1) z
  · obtain ⟨w', z⟩ := I.cell y c (cells e)
    exact ⟨w', keepC (I.freeC y c (cells e)) z⟩
  · obtain ⟨v, o, ho, hd⟩ := I.cell y c (cells e)
    exact un.free c o ho (I.freeC y c (cells e)) (by simp)
/-- what a reading says of a lambda: what may be raised, the heap, what is wanted -/
abbrev LT := XK → Hp → VK → Prop
/-- the lambda is called: E holds what it raises -/
def tAct (f : Addr) (ok : Hp → Prop) (tl : LT) (W : WX) : TE := fun σ H Q => σ[0]? = some (some (.ref f)) ∧ ok H ∧ ∃ (E : XK) (Q0 : VK), (∀ cls d H', E cls d H' → W cls d σ H') ∧ (∀ v H', Q0 v H' → Q v H') ∧ tl E H Q0
/-- the frame of a def that calls what it got -/
abbrev gCx (P : Program) (w : World) (K : PySem.W.Frag) (mg : Str → Option Value) (base : Heap) (N : List Str) (x : Str) (sg : Scope) (g : Addr) (cdg : Value) (A : Around) (outer : List Env) (s : Shared) (H : Hp) : Cx :=
  cxOf CX0 P w K mg base N x sg g cdg A outer s H fun _ _ _ => False
theorem lam_act {Ng : List Str} {qg : Str} {sg : Scope} {g f c' : Addr} {cdg dV doc pm ctv : Value} {params : Arguments} {body : Expr} {scope : Scope} {k : Nat} {a : Str} {pn : List (Addr × Obj)} {xe : Value → Shared → Prop} {W : WX} {tb : XK → TE} {p1 p2 : Pos} {ps : List Str} {ds : List V}
    (I : Inv X pins σ H s) (L : LamP X.N X.env.scope scope ps) (B : LamB params body scope ps ds) (hf : s.heap.get? f = some (lamO (X.env.qual ++ "<lambda>") params body scope (cloFrom X.env.cells scope.names []) dV doc pm c' ctv)) (hfn : H f = none) (hfr : f ∉ frs X.stack)
    (hc0 : H c' = some (CodeO c' (X.env.qual ++ "<lambda>")))
    (tk : Takes ((gCx X.prog X.w X.K X.mg X.base Ng qg sg g cdg X.A X.stack s H).tr pn xe) W) (hr : Room (k + 1) (X.A.deeper (envOfC qg sg s.heap.objs.size g cdg)))
    (hbody : ∀ (A : Around) (outer : List Env) (s : Shared) (H : Hp) (E : XK), A.guards = X.A.guards → Room k (A.deeper (lamEnv X scope s.heap.objs.size f c')) → PE (lamCx X A outer s H E scope f c') body (tb E))
    (hN : Ng[0]? = some a) (hv : Vis sg a) (hd : (a == ("__debug__" : Str)) = false := by decide) (hcd : (a == ("__classdict__" : Str)) = false := by decide) :
    PE ((gCx X.prog X.w X.K X.mg X.base Ng qg sg g cdg X.A X.stack s H).tr pn xe) (.Call (.Name a p1) [] [] p2)
      (tAct f (fun HZ => HZ c' = some (CodeO c' (X.env.qual ++ "<lambda>")) ∧ Dfl HZ ds dV) (fun E H' Q' => tb E σ H' Q') W) := by
  refine ⟨fun pinsZ sZ σZ HZ Q IZ ⟨hs, ⟨hc, hD⟩, E, Q0, hW, hQ, ht⟩ => ?_⟩
  refine wpAny_Call_Name_kw (thn ((pe_var (pos := p1) (i := 0) hN hv hd hcd).run pinsZ sZ σZ HZ (fun v H1 => v = .ref f ∧ H1 = HZ) IZ ⟨.ref f, hs, rfl, rfl⟩) fun u s1 ⟨v, H1, I1, r1, q1, q2⟩ => ?_)
  subst q1 q2
  obtain rfl : u = Value.ref f := r1
  have of1 := I1.base.keep f _ hf hfn hfr (fun z => nomatch (show f ∈ ([] : List Addr) from z))
  refine PySem.W.callWith_F0 ⟨_, _, _, _, of1⟩ ?_
  have un : Un (frs X.stack) [] H H1 s.heap s1.heap := I1.base
  obtain ⟨⟨oc, vs, t, hoc, hdc, hvc⟩, _, _⟩ := I1.hok c' _ hc
  obtain ⟨us, hb, hloc⟩ : ∃ us : List Value, BindsTo s1 (PySem.W.kdv_fn "<lambda>" (X.env.qual ++ "<lambda>") params (.expr body) scope (cloFrom X.env.cells scope.names []) dV doc pm (.ref c') ctv) ⟨[], []⟩ (ps.zip us) ∧ ∀ y ∈ ps.zip us, scope.names.lookup y.1 = some .local := by
    rcases B with ⟨e1, e2, e3⟩ | ⟨l1, n1, e3⟩
    · subst e1 e2
      have hdv : dV = .none := by
        rcases hD with ⟨_, z⟩ | ⟨t, z, _⟩
        · exact z
        · exact absurd rfl z
      subst hdv
      exact ⟨[], .of_eq (e3 _ _ _ _ _ _), fun y hy => nomatch hy⟩
    · rcases hD with ⟨z, _⟩ | ⟨t, _, rfl, hz⟩
      · exact absurd z n1
      · obtain ⟨_, its, hv, o, ho, _, n, hdat⟩ := I1.hok t _ hz
        obtain ⟨k, k1, k2⟩ := e3 (X.env.qual ++ "<lambda>") (cloFrom X.env.cells scope.names []) t doc pm (.ref c') ctv its hv.length.symm
        exact ⟨its, BindsTo.of_defaults rfl ho hdat k1 k2, fun y hy => L.par _ (List.of_mem_zip hy).1⟩
  have rc : codeAny (model X.prog X.w) (X.A.deeper (envOfC qg sg s.heap.objs.size g cdg)) (.call (.ref f) ⟨[], []⟩) (CR (L2.CX X.prog X.w) (envOfC qg sg s.heap.objs.size g cdg :: X.stack) X.prog X.w H1 s1 Q0 E) s1 := by
    refine PySem.W.kla_callFunE hr.depth of1 rfl L.co L.gen rfl ⟨c', oc, vs, t, rfl, hoc, hdc, hvc⟩ (hb _ _ _ _ (wpAny_newFunctionEnv L.own hloc (fun h₁ hns hsb => ⟨I1.nolimit.fresh _ hsb, ?_⟩) L.kind))
    show codeAny _ _ (.expr body (lamEnv X scope s1.heap.objs.size f c')) _ _
    have J := lam_enter (E := E) (f := f) (c' := c') (tk := s1.toks + (ps.zip us).length) I L I1.env0 hr.hd un hns fun b o e => hsb.extBut b o (Nat.ne_of_lt (Heap.lt_size e)) (Heap.get?_push_of_some _ e)
    refine PySem.W.kla_codeExpr (wpAny_mono ((hbody (X.A.deeper (envOfC qg sg s.heap.objs.size g cdg)) _ s1 H1 E rfl (hr.deeper _)).run [] _ _ H1 Q0 J ht) (fun v s' ⟨w', H', J', rv, q⟩ => ?_) fun e s' hq => hq)
    exact ⟨w', H', J'.os, J'.bare, J'.base, J'.hok, rv, q⟩
  refine wpAny_call (codeAny_mono rc fun r s' hq => ?_)
  match r, hq with
  | .error e, hq => exact tk e s' (XE.of_call I1 (fun cls d H' z => hW cls d H' z) hq)
  | .ok (.ret u), ⟨v, H', a1, a2, a3, a4, a5, a6⟩ => exact I1.after ⟨v, H', a1, a2, a3, a4, a5, hQ _ _ a6⟩
end
end Kb
namespace Kb
open PySem PySem.Spec PyProof.Rows L2 LamX
/-- what a def does that calls what it got: TT of the lambda's reading -/
def GivesL (P : Program) (w : World) (K : PySem.W.Frag) (mg : Str → Option Value) (base : Heap) (N : List Str) (x : Str) (sg : Scope) (bg : List Stmt) (a : Str) (k : Nat) (TT : LT → Hp → VK → Prop) : Prop :=
  ∀ (g : Addr) (cdg : Value) (A : Around) (outer : List Env) (f : Addr) (s : Shared) (H : Hp) (Q : VK) (ok : Hp → Prop) (tl : LT), A.guards = some [] → Room k (A.deeper (envOfC x sg s.heap.objs.size g cdg)) →
    (∀ (W : WX) (pn : List (Addr × Obj)) (xe : Value → Shared → Prop) (p1 p2 : Pos), Takes ((gCx P w K mg base N x sg g cdg A outer s H).tr pn xe) W → PE ((gCx P w K mg base N x sg g cdg A outer s H).tr pn xe) (.Call (.Name a p1) [] [] p2) (tAct f ok tl W)) →
    ok H → TT tl H Q → ∃ t, PSs (gCx P w K mg base N x sg g cdg A outer s H).nox bg t ∧ t { nx := fun _ H' => Q .non H', rt := Q } (L2.start N [.ref f]) H
/-- x(lambda: body): the tables, what is asked of the heap behind the making -/
def tLamL (P : Addr) (q : Str) (TT : LT → Hp → VK → Prop) (t : XK → TE) : TE := fun σ H Q => TabS H P q ∧ ∀ H1, ExtN H H1 → TabS H1 P q → TT (fun E H' Q' => t E σ H' Q') H1 Q
section
variable {X : Cx}
theorem pe_lamL {TT : LT → Hp → VK → Prop} {x a : Str} {st : Stmt} {N : List Str} {c P : Addr} {j k : Nat} {params : Arguments} {body : Expr} {scope : Scope} {t : XK → TE} {p lpos pos : Pos} {ps : List Str} {ds : List V} (hg : Gl X x) (D : Df X.K X.mg x st [a]) (S : FnScope N [a] (defScope st))
    (h0 : N[0]? = some a) (hva : Vis (defScope st) a) (G : GivesL X.prog X.w X.K X.mg X.base N x (defScope st) (defBody st) a (j + 1) TT) (hgd : X.A.guards = some []) (TB : TabB X.base X.mg c P) (hcode : X.env.code = .ref c) (hr : Room k X.A) (hk : j + 2 ≤ k) (L : LamP X.N X.env.scope scope ps) (B : LamB params body scope ps ds)
    (hk0 : params.kw_defaults = []) (hde : DefE params.defaults ds)
    (hbody : ∀ (A : Around) (outer : List Env) (s : Shared) (H : Hp) (E : XK) (f c' : Addr), A.guards = some [] → Room j (A.deeper (lamEnv X scope s.heap.objs.size f c')) → PE (lamCx X A outer s H E scope f c') body (t E))
    (hdb : (x == ("__debug__" : Str)) = false := by decide) (hd : (a == ("__debug__" : Str)) = false := by decide) (hcd : (a == ("__classdict__" : Str)) = false := by decide) :
    PE X (.Call (.Name x p) [.Lambda params body scope lpos] [] pos) (tLamL P (X.env.qual ++ "<lambda>") TT t) := by
  obtain ⟨g, fd, F, hm, hbi⟩ := D
  have hkp := F.kp
  obtain ⟨oc, od, kV, doc, pm, an, cdv, ct, osl, rfl, lk, hcg⟩ := F.ex
  refine ⟨fun pins s σ H Q I ⟨hT, h⟩ => ?_⟩
  refine wpAny_Call_Name_kw (ld_glob I hg hm ?_ hdb)
  refine PySem.W.callWith_K (h₀ := X.base) I.ok.mod.kin hkp ?_ (by rfl) (by rfl)
  show wpAny _ _ (spliced ((false, eval (.Lambda params body scope lpos) X.env) :: backTo pos (starEach [] X.env))) _ _ s
  have only : ∀ p ∈ [(P, X.env.qual ++ "<lambda>")], p.1 = P → p.2 = X.env.qual ++ "<lambda>" := fun p hp _ => by rw [List.mem_singleton.mp hp]
  refine Calls.spliced_cons (lam_new (T := [(P, X.env.qual ++ "<lambda>")]) I TB hcode (List.mem_singleton.mpr rfl) only (fun p hp => by rw [List.mem_singleton.mp hp]; exact hT) (L.has I.ok) hk0 hde rfl fun f c' dV doc' pm' ctv H1 s' I1 eN T1 hf hfn hfr hco hD => ?_)
  refine Calls.spliced_nil ⟨I1.kIn, ?_⟩
  have rc : codeAny (model X.prog X.w) X.A (.call (.ref g) ⟨[.ref f], []⟩) (CR CX0 X.stack X.prog X.w H1 s' Q fun _ _ _ => False) s' := by
    refine run_ofS (N := N) (ps := [a]) (us := [.ref f]) (vs := [.ref f]) lk hcg S (hr.mono hk) I1.env0 (BindsTo.of_eq (hbi [.ref f] rfl)) (.cons rfl .nil) rfl fun hr' => ?_
    obtain ⟨t', ht', hq'⟩ := G g cdv X.A X.stack f s' H1 Q (fun HZ => HZ c' = some (CodeO c' (X.env.qual ++ "<lambda>")) ∧ Dfl HZ ds dV) (fun E H' Q' => t E σ H' Q') hgd hr'
      (fun W pn xe p1 p2 tk => lam_act I1 L B hf hfn hfr hco tk hr' (fun A outer s H E hg2 hr2 => hbody A outer s H E f c' (hg2.trans hgd) hr2) h0 hva hd hcd) ⟨hco, hD⟩ (h H1 eN (T1 _ (List.mem_singleton.mpr rfl)))
    exact ⟨t', ht'.nox, hq'⟩
  refine wpAny_call (codeAny_mono rc fun r s2 hq => ?_)
  match r, hq with
  | .error e, hq => exact (show False from hq).elim
  | .ok (.ret u), hq => exact I1.after hq
end
/-! ### what stays -/
theorem TabS.same {H H' : Hp} {P : Addr} {q : Str} (t : TabS H P q) (s : Same H H') : TabS H' P q := TabS.ext t s
theorem ExtN.seqL {K : PySem.W.Frag} {H H' : Hp} {a : Addr} {xs : List V} (e : ExtN H H') (h : SqL K H a xs) : SqL K H' a xs := by
  rcases h with (h | ⟨o, h⟩) | h
  · exact .inl (.inl (e _ _ h fun ps z => by cases z))
  · exact .inl (.inr ⟨o, e _ _ h fun ps z => by cases z⟩)
  · exact .inr h
theorem ExtN.seqT {K : PySem.W.Frag} {H H' : Hp} {a : Addr} {xs : List V} (e : ExtN H H') (h : SqT K H a xs) : SqT K H' a xs := by
  rcases h with (h | ⟨o, h⟩) | h
  · exact .inl (.inl (e _ _ h fun ps z => by cases z))
  · exact .inl (.inr ⟨o, e _ _ h fun ps z => by cases z⟩)
  · exact .inr h
theorem ExtN.ofSame {H H' : Hp} (s : Same H H') : ExtN H H' := ExtN.of s
end Kb
namespace Kb
open PySem PySem.Spec PyProof.Rows L2 LamX
theorem TabS.keep {H H' : Hp} {P d : Addr} {q : Str} {kvs : List (Key × V)} (t : TabS H P q) (k : Keep d H H') (hd : H d = some (.dK kvs)) : TabS H' P q := by
  obtain ⟨ps, h1, h2, h3⟩ := t
  refine ⟨ps, k _ _ h1 (fun z => by rw [z, hd] at h1; cases h1), h2, fun pos cv hc => ?_⟩
  obtain ⟨c, e1, e2⟩ := h3 pos cv hc
  exact ⟨c, e1, k _ _ e2 fun z => by rw [z, hd] at e2; unfold CodeO at e2; cases e2⟩
theorem TabS.keepD {H H' : Hp} {P d : Addr} {q : Str} {n : Nat} (t : TabS H P q) (k : Keep d H H') (hd : DrawAt H d n) : TabS H' P q :=
  let ⟨_, _, _, h, _⟩ := hd; TabS.keep t k h
theorem DrawAt.ext {H H' : Hp} {d : Addr} {n : Nat} (h : DrawAt H d n) (e : ExtN H H') : DrawAt H' d n :=
  let ⟨l, c, t, h1, h2⟩ := h; ⟨l, c, t, e _ _ h1 (fun ps z => by cases z), h2⟩
/-! ### a def whose code object is told -/
def DfC (K : PySem.W.Frag) (mg : Str → Option Value) (x : Str) (st : Stmt) (ps : List Str) (c Tb : Addr) : Prop :=
  ∃ (f : Addr) (fd : FuncData), Fun K x x st f fd ∧ fd.code = .ref c ∧ mg x = some (.ref f) ∧ PySem.W.tabIn K x = some (c, Tb) ∧ ∀ us : List Value, us.length = ps.length → bindArgs fd ⟨us, []⟩ = pure (ps.zip us)
theorem DfC.mk {K : PySem.W.Frag} {mg : Str → Option Value} {h : Heap} {x : Str} {st : Stmt} {ps : List Str} {f c Tb : Addr} {oc ec : Value} {od an dc : Option Addr} {sl s2 : Array (Option Value)} {cvs : Array Value} {kV doc pm ct : Value} (X : K.In h) (G : h.Ns PySem.mainGlobals mg)
    (b : ∀ (kV doc pm : Value) (an : Option Addr) (cdv ct : Value) (us : List Value), us.length = ps.length → bindArgs (PySem.W.fnOf x x (defArgs st) (defBody st) (defScope st) .none kV doc pm an cdv ct) ⟨us, []⟩ = pure (ps.zip us))
    (a : PySem.W.nsIn K PySem.mainGlobals x = some (some (.ref f)))
    (l : K.lookup f = some ⟨oc, od, .func (PySem.W.fnOf x x (defArgs st) (defBody st) (defScope st) .none kV doc pm an (.ref c) ct), sl⟩)
    (cc : PySem.W.codeIn K (.ref c) x = true) (k : PySem.W.keepIn K (.ref f) = true) (lc : K.lookup c = some ⟨ec, dc, .fields cvs, s2⟩) (h11 : cvs[11]? = some (.ref Tb)) : DfC K mg x st ps c Tb :=
  ⟨f, _, fun_mk l cc k, rfl, PySem.W.mg_of X G a, by unfold PySem.W.tabIn; simp only [a, l, lc, h11], b kV doc pm an (.ref c) ct⟩
theorem Fun.okGC {P : Program} {w : World} {K : PySem.W.Frag} {mg : Str → Option Value} {base : Heap} {k : Nat} {f c : Addr} {x qual : Str} {st : Stmt} {fd : FuncData} {N ps : List Str} {sp : Sp} (F : Fun K x qual st f fd) (hc : fd.code = .ref c) (S : FnScope N ps (defScope st)) (len : ∀ vs H Q E, sp vs H Q E → vs.length = ps.length)
    (hbody : ∀ (A : Around) (outer : List Env) (s : Shared) (H : Hp) (vs : List V) (Q : VK) (E : XK), A.guards = some [] → Room k (A.deeper (envOfC qual (defScope st) s.heap.objs.size f (.ref c))) → sp vs H Q E →
      ∃ t, PSs (cxOf CX0 P w K mg base N qual (defScope st) f (.ref c) A outer s H E).nox (defBody st) t ∧ t { nx := fun _ H' => Q .non H', rt := Q } (start N vs) H) : FnG P w K mg base CX0 (k + 1) f fd ps sp := by
  obtain ⟨oc, od, kV, doc, pm, an, cdv, ct, osl, rfl, lk, hcd⟩ := F.ex
  obtain rfl : cdv = .ref c := hc
  have F2 : Fun K x qual st f (PySem.W.fnOf x qual (defArgs st) (defBody st) (defScope st) .none kV doc pm an (.ref c) ct) := F
  refine ⟨len, fun A outer s H args us vs Q E hgd hr e0 hb r hsp => ?_⟩
  have KX : K.In s.heap := e0.mod.kin.keeps fun b o e => (e0.bs b o e).1
  have hkind : ∀ y ∈ ps.zip us, (defScope st).names.lookup y.1 = some .local ∨ ((defScope st).names.lookup y.1 = some .cell ∧ ((cellsFrom (s.heap.objs.size + 1) (defScope st).names []).lookup y.1).isSome = true) := fun ⟨n, v⟩ hy =>
    (S.par n (List.of_mem_zip hy).1).elim .inl fun q => .inr ⟨q, PySem.W.cellsFrom_some _ _ _ (.inl q)⟩
  refine codeAny_call_function hr.depth (KX _ _ lk) rfl S.co S.gen rfl (PySem.W.codeRec_of KX hcd) (hb _ _ _ _ (wpAny_newFunctionEnv_cells S.kind hkind fun env he s1 x => ?_))
  subst he
  refine ⟨(e0.mod.nolimit.keeps fun b o e => (e0.bs b o e).1).keeps x.toInCall.keep, codeAny_func ?_⟩
  obtain ⟨t, ht, hq⟩ := hbody A outer s H vs Q E hgd (hr.deeper _) hsp
  refine wpAny_mono (ht.nox.run [] s1 (start N vs) H _ (inv_start S hr.hd e0 (len _ _ _ _ hsp) r x) hq) (fun fl s' hs => ?_) fun e s' hs => hs
  cases fl with
  | ret u => obtain ⟨v, σ', H', J, rv, q⟩ := hs; exact ⟨v, H', J.os, J.bare, J.base, J.hok, rv, q⟩
  | next => obtain ⟨σ', H', J, q⟩ := hs; exact ⟨V.non, H', J.os, J.bare, J.base, J.hok, rfl, q⟩
  | brk => obtain ⟨_, _, _, q⟩ := hs; exact q.elim
  | cont => obtain ⟨_, _, _, q⟩ := hs; exact q.elim
/-! ### the law's call where the law makes lambdas: the script and its table are tracked -/
theorem law_callGT {P : Program} {w : World} {K : PySem.W.Frag} {mg mb : Str → Option Value} {CX : CXT} {k : Nat} {fa a c Tb : Addr} {fd : FuncData} {x : Str} {sp : Sp} {s₁ : Shared} {vs : List Value} {ns : List Int}
    (KX : K.In s₁.heap) (hns : s₁.heap.Ns PySem.mainGlobals mg) (hb : s₁.heap.Ns builtinsNs mb) (hbb : ∀ x : Str, x ≠ "__name__" → mb x = bootBuiltins x) (hlim : s₁.heap.NoLimit) (hg : s₁.gens = #[])
    (hT : s₁.heap.get? Tb = some (PySem.W.tabObj #[])) (nT : K.lookup Tb = none) (C : PySem.W.CodeHd s₁.heap c Tb)
    (hbm : ∃ (bm : Addr) (ob : Obj), mg "__builtins__" = some (.ref bm) ∧ bm ≠ builtinsNs ∧ s₁.heap.get? bm = some ob ∧ ob.cls = .type "module" ∧ ob.dict = some builtinsNs ∧ ob.data = .plain)
    (ha : s₁.heap.get? a = some { cls := .type "list", data := .seq vs.toArray }) (hi : IntsAre vs ns) (hl : ns.length ≤ sizeLine) (hr : Room k callerA)
    (F : ∀ base : Heap, K.In base → base.Ns PySem.mainGlobals mg → TabB base mg c Tb → FnG P w K mg base CX k fa fd [x] sp) (hbind : ∀ (s : Shared) (u : Value), BindsTo s fd ⟨[u], []⟩ [(x, u)])
    (hsp : ∀ H : Hp, H Tb = some (.tbl #[]) → SqL K H a (ns.map V.int) → sp [.ref a] H (fun v _ => v = .bl true) fun _ _ _ => False)
    (hCX : ∀ H e s', CX [] H s₁ (fun _ _ _ => False) e s' → False) :
    codeAny (model P w) callerA (.call (.ref fa) ⟨[.ref a], []⟩) (fun r s' => r = .ok (.ret (.bool true)) ∧ OldK s₁.heap s'.heap ∧ s'.os = s₁.os ∧ AllBare s'.gens) s₁ := by
  have rv := vals_ints hi
  have aT : a ≠ Tb := fun z => by
    rw [← z, ha] at hT
    cases hT
  have core : ∀ H : Hp, H Tb = some (.tbl #[]) → (∀ b, H b = none ∨ b = Tb ∨ ∃ o xs, H b = some (.frz o (.lst xs))) → SqL K H a (ns.map V.int) → HOk P w H s₁.heap → (∀ b, H b ≠ none → b = a ∨ b = Tb) → (H a ≠ none → K.lookup a = none) →
      codeAny (model P w) callerA (.call (.ref fa) ⟨[.ref a], []⟩) (fun r s' => r = .ok (.ret (.bool true)) ∧ OldK s₁.heap s'.heap ∧ s'.os = s₁.os ∧ AllBare s'.gens) s₁ := by
    intro H hH hO hS hok hA hK
    have one : ∀ b, b ≠ a → b ≠ Tb → H b = none := fun b n1 n2 => Classical.byContradiction fun q => (hA b q).elim n1 n2
    have plain : ∀ {b : Addr} {o : Obj}, s₁.heap.get? b = some o → o ≠ { cls := .type "list", data := .seq vs.toArray } → o ≠ PySem.W.tabObj #[] → (hidT s₁.heap H).get? b = some o := fun {b o} e n1 n2 =>
      hidT_get e (one b (fun z => n1 (by rw [z, ha] at e; exact (Option.some.inj e).symm)) fun z => n2 (by rw [z, hT] at e; exact (Option.some.inj e).symm))
    have spaces : ∀ {b : Addr} {m : Str → Option Value}, s₁.heap.Ns b m → (hidT s₁.heap H).Ns b m := fun ⟨o, es, ep, e, d, r⟩ => ⟨o, es, ep, plain e (fun z => by rw [z] at d; cases d) (fun z => by rw [z] at d; cases d), d, r⟩
    have kin : K.In (hidT s₁.heap H) := fun b o e => hidT_get (KX b o e) (Classical.byContradiction fun q => by
      rcases hA b q with z | z
      · subst z
        rw [hK q] at e
        cases e
      · rw [z, nT] at e
        cases e)
    have TB : TabB (hidT s₁.heap H) mg c Tb := by
      refine ⟨?_, ?_, fun z => ?_⟩
      · obtain ⟨o, us, file, tf, flags, tg, inF, text, tt, e1, r1, r2, r3, r4⟩ := C
        refine ⟨o, us, file, tf, flags, tg, inF, text, tt, plain e1 (fun z => ?_) (fun z => ?_), r1, r2, r3, r4⟩
        · rw [z] at r2; cases r2
        · rw [z] at r2; cases r2; simp at r3
      · obtain ⟨bm, ob, b1, b2, b3, b4, b5, b6⟩ := hbm
        have nG : bm ≠ PySem.mainGlobals := fun q => by
          obtain ⟨o, es, ep, e, hd, _⟩ := hns
          rw [q, e] at b3
          cases b3
          rw [hd] at b6
          cases b6
        have nP : bm ≠ Tb := fun q => by
          rw [q, hT] at b3
          cases b3
          cases b6
        exact ⟨bm, ob, b1, b2, nG, nP, plain b3 (fun z => by rw [z] at b6; cases b6) (fun z => by rw [z] at b6; cases b6), b4, b5, b6⟩
      · obtain ⟨o, es, ep, e, hd, _⟩ := hns
        rw [z, hT] at e
        cases e
        cases hd
    obtain ⟨mc, l1, l2⟩ := hlim
    refine codeAny_mono ((F _ kin (spaces hns) TB).run callerA [] s₁ H ⟨[.ref a], []⟩ [.ref a] [.ref a] _ _ rfl hr
      ⟨rfl, ⟨kin, spaces hns, ⟨mb, spaces hb, hbb⟩, ⟨mc, spaces l1, l2⟩⟩, fun b o e => of_hidT e, Nat.le_of_eq (hidT_size _ _), trivial, fun b hb => absurd (show b ∈ ([] : List Addr) from hb) (by simp), hok, .of_eq hg⟩
      (hbind s₁ (.ref a)) (.cons rfl .nil) (hsp H hH hS)) fun r s' h => ?_
    match r, h with
    | .error e, h => exact (hCX H e s' h).elim
    | .ok (.ret u), ⟨v, H', os, bare, un, hok', r', q⟩ =>
      cases (show v = .bl true from q)
      cases (show u = Value.bool true from r')
      obtain ⟨more, hm⟩ := un.tbls Tb #[] hH
      have grown : s'.heap.get? Tb = some { cls := .none, data := .fields (#[] ++ more) } := hok' Tb _ hm
      have key : ∀ b o, b ≠ Tb → s₁.heap.get? b = some o → s'.heap.get? b = some o := fun b o n e => by
        rcases hO b with z | z | ⟨ob, xs, z⟩
        · exact un.keep b o e z (fun y => absurd (show b ∈ ([] : List Addr) from y) (by simp)) (by simp)
        · exact absurd z n
        · obtain ⟨e1, _⟩ := hok b _ z
          obtain ⟨e2, _⟩ := hok' b _ (un.frzs b ob _ z)
          rw [e] at e1
          cases e1
          exact e2
      refine ⟨rfl, ⟨fun b o e => ?_, fun b o e => ?_⟩, os, bare⟩
      · by_cases hbT : b = Tb
        · subst hbT
          rw [hT] at e
          cases e
          exact .inr (.inl ⟨(C.tab hT).isCodeTable, rfl, #[], more, rfl, grown⟩)
        · exact .inl (key b o hbT e)
      · by_cases hbT : b = Tb
        · subst hbT
          exact ⟨_, grown⟩
        · exact ⟨o, key b o hbT e⟩
  cases hk : K.lookup a with
  | some o =>
    have e := KX a o hk
    rw [ha] at e
    cases e
    have at' : ∀ b, b ≠ Tb → (if b = Tb then some (HO.tbl #[]) else none) = none := fun b n => if_neg n
    refine core (fun b => if b = Tb then some (.tbl #[]) else none) (if_pos rfl) (fun b => ?_) (.inr ⟨_, vs.toArray, _, hk, rfl, rfl, rfl, by rw [List.size_toArray, hi.length]; exact hl, by simpa using rv⟩) (fun b u z => ?_) (fun b z => .inr (Classical.byContradiction fun n => z (at' b n))) fun z => absurd (at' a aT) z
    · by_cases hbT : b = Tb
      · exact .inr (.inl hbT)
      · exact .inl (at' b hbT)
    · by_cases hbT : b = Tb
      · subst hbT
        cases (if_pos rfl).symm.trans z
        exact hT
      · cases (at' b hbT).symm.trans z
  | none =>
    have at1 : ∀ b, b ≠ a → b ≠ Tb → (if b = a then some (HO.frz { cls := .type "list", data := .seq vs.toArray } (.lst (ns.map V.int))) else if b = Tb then some (.tbl #[]) else none) = none := fun b n1 n2 => (if_neg n1).trans (if_neg n2)
    have at2 : (if Tb = a then some (HO.frz { cls := .type "list", data := .seq vs.toArray } (.lst (ns.map V.int))) else if Tb = Tb then some (.tbl #[]) else none) = some (.tbl #[]) := (if_neg (Ne.symm aT)).trans (if_pos rfl)
    refine core (fun b => if b = a then some (.frz { cls := .type "list", data := .seq vs.toArray } (.lst (ns.map V.int))) else if b = Tb then some (.tbl #[]) else none) at2 (fun b => ?_) (.inl (.inr ⟨{ cls := .type "list", data := .seq vs.toArray }, if_pos rfl⟩)) (fun b u z => ?_)
      (fun b z => Classical.byContradiction fun n => z (at1 b (fun q => n (.inl q)) fun q => n (.inr q))) fun _ => hk
    · by_cases hba : b = a
      · exact .inr (.inr ⟨_, _, if_pos hba⟩)
      · by_cases hbT : b = Tb
        · exact .inr (.inl hbT)
        · exact .inl (at1 b hba hbT)
    · by_cases hba : b = a
      · subst hba
        cases (if_pos rfl).symm.trans z
        exact ⟨ha, by rw [List.length_map]; exact hl, vs, _, rv, ha⟩
      · by_cases hbT : b = Tb
        · subst hbT
          cases at2.symm.trans z
          exact hT
        · cases (at1 b hba hbT).symm.trans z
theorem walkGT {l : PySem.W.OpenLaw} {n k : Nat} {q : Program} {loose : List Str} {XP : (Str → Option Value) → Heap → Prop} {YP : World → Heap → Prop} {d : DefRec} {K : Params → PySem.W.Frag} {CX : World → CXT} {sp : World → Addr → Sp} {x : Str}
    (hn : l.most = some n) (hn2 : n ≤ sizeLine) (hdf : d.params.defaults = []) (hr : Room k callerA) (hY : ∀ (w : World) (h : Heap), YP w h → (K w.params).In h) (hrec : (recsOf q).find? (fun e => e.name == d.name) = some d)
    (F : ∀ (w : World) (mg : Str → Option Value) (fa : Addr) (h : Heap), (K w.params).In h → h.Ns PySem.mainGlobals mg → mg d.name = some (.ref fa) →
      ∃ (fd : FuncData) (c Tb : Addr), PySem.W.tabIn (K w.params) d.name = some (c, Tb) ∧ (K w.params).lookup Tb = none ∧ (∀ (s : Shared) (u : Value), BindsTo s fd ⟨[u], []⟩ [(x, u)]) ∧
        ∀ base : Heap, (K w.params).In base → base.Ns PySem.mainGlobals mg → TabB base mg c Tb → FnG l.prog w (K w.params) mg base (CX w) k fa fd [x] (sp w Tb))
    (hsp : ∀ (w : World) (H : Hp) (a Tb : Addr) (ns : List Int), ns.length ≤ n → H Tb = some (.tbl #[]) → SqL (K w.params) H a (ns.map V.int) → sp w Tb [.ref a] H (fun v _ => v = .bl true) fun _ _ _ => False)
    (hCX : ∀ (w : World) (H : Hp) (s : Shared) (e : Value) (s' : Shared), CX w [] H s (fun _ _ _ => False) e s' → False) :
    PySem.W.WalkO q loose XP YP l.row.toRowW d [] (fun f vs => PySem.call f vs) := by
  refine Att.attach_call hn hdf fun w s₀ s₁ mg mb fa o pm cd doc a vs ns G Y ho hd hcd hmg hobj hints hlen hg => ?_
  have KX := hY w _ Y
  obtain ⟨fd, c, Tb, tb, nT, hb, hF⟩ := F w mg fa _ KX G.T.g hmg
  obtain ⟨C, hT⟩ := PySem.W.tab_of G.T KX hrec tb
  exact law_callGT KX G.T.g G.T.b G.T.builtins G.T.nolimit hg hT nT C G.T.bmain hobj hints (Nat.le_trans hlen hn2) hr hF hb (fun H h1 h2 => hsp w H a Tb ns hlen h1 h2) fun H e s' => hCX w H s₁ e s'
end Kb

namespace Kb
open PySem PySem.Spec PyProof.Rows L2
/-! ### a new list, not the table of modules; repr of a list with an empty dict in it -/
def tLstS (ta : TA) : TE := fun σ H Q => ta σ H fun xs H1 => xs.length ≤ sizeLine ∧ ∀ p, H1 p = none → (p == sysModules) = false → Q (.ref p) (upd H1 p (.lst xs))
section
variable {X : Cx}
theorem pe_lstS {es : List Expr} {ta : TA} {pos : Pos} (h : PA X es ta) : PE X (.List es pos) (tLstS ta) := by
  refine ⟨fun pins s σ H Q I hq => ?_⟩
  refine wpAny_List_spliced (thn (h.run pos pins s σ H _ I hq) fun us s1 ⟨xs, H1, I1, r, z, q⟩ => ⟨by rw [← r.length]; exact z, ?_⟩)
  have fr : H1 s1.heap.objs.size = none := I1.hok.fresh (Nat.le_refl _)
  have nm : (s1.heap.objs.size == sysModules) = false := beq_eq_false_iff_ne.mpr (Nat.ne_of_gt I1.big)
  exact ⟨.ref s1.heap.objs.size, upd H1 s1.heap.objs.size (.lst xs), I1.laid (t' := s1.toks) (fun b u e => Heap.get?_push_of_some _ e) (Nat.le_refl _) ⟨z, us, 0, r, Heap.get?_push_size _ rfl⟩, rfl, q _ fr nm⟩
def rReprE (K : PySem.W.Frag) : List V → Hp → VK → Prop := fun xs H Q => rRepr K xs H Q ∨
  ∃ L d : Addr, xs = [.ref L] ∧ H L = some (.lst [.ref d]) ∧ H d = some (.dK []) ∧ (L == sysModules) = false ∧ Q (.str (PyData.list [.dict []]).shown) H
theorem call_reprE (hu : X.A.units + 65 < cLine) (hg : X.A.guards = some []) : CallR X (.builtin "repr") (rReprE X.K) := by
  intro pins s σ H xs us Q I r h
  rcases h with h | ⟨L, d, rfl, hL, hd, nm, q⟩
  · exact call_reprD hu hg pins s σ H xs us Q I r h
  · obtain ⟨u, rfl, r1⟩ := vals1 r
    cases r1
    obtain ⟨_, its, n, hv, eL⟩ := I.hok L _ hL
    obtain ⟨_, sd, vs, kv, dd⟩ := I.hok d _ hd
    have e1 : its = [.ref d] := by
      cases hv with
      | cons a b => cases b; cases a; rfl
    subst e1
    have e2 : vs = [] := by cases kv; rfl
    subst e2
    obtain ⟨o, es, ep, eo, ex, ed, _, hp, _⟩ := dd
    have hes : es.toList = [] := by
      cases h : es.toList with
      | nil => rfl
      | cons x r => rw [h] at hp; cases hp
    have rd : Reads s.heap (.ref L) (.list [.dict []]) (L :: ((d :: [] ++ []) ++ [])) := by
      refine .list eL rfl rfl (.cons (.dict (kvs := []) eo ex.1 ed ?_ ?_) .nil)
      · rw [hes]; exact .nil
      · rw [hes]; exact .nil
    refine repr_of_reads' rd (by simp [PyData.showable, PyData.showableAll, PyData.showableKv]) (fun _ => ?_) hg (by simp [PyData.depth, PyData.depthAll, PyData.depthKv]; omega) (fun _ _ e => e) (fun h' t tk k => ⟨.str _, H, I.kept (t' := tk) k, ⟨t, rfl⟩, q⟩) ?_
    · have n1 : sysModules ≠ L := fun z => by rw [z] at nm; simp at nm
      have n2 : sysModules ≠ d := fun z => by rw [z] at sd; simp at sd
      simp [n1, n2]
    · decide
end
end Kb

namespace Kb
open PySem PySem.Spec PyProof.Rows L2 TL
/-! ### how long the repr of data is -/
mutual
def wtD : PyData → Nat
  | .none => 4
  | .bool _ => 5
  | .int i => (toString i : Str).length
  | .str x => 10 * x.length + 2
  | .list xs => 3 + wtAll xs
  | .tuple xs => 3 + wtAll xs
  | .dict _ => 0
def wtAll : List PyData → Nat
  | [] => 0
  | x :: xs => wtD x + 2 + wtAll xs
end
mutual
def plainD : PyData → Prop
  | .str x => ∀ c ∈ tl x, c < 128
  | .list xs => plainAll xs
  | .tuple xs => plainAll xs
  | .dict _ => False
  | _ => True
def plainAll : List PyData → Prop
  | [] => True
  | x :: xs => plainD x ∧ plainAll xs
end
theorem textFrom_le : ∀ (ts : List Str) (k : Nat) (acc : Str), (textFrom k acc ts).length ≤ acc.length + (ts.map fun t => t.length + 2).sum
  | [], k, acc => by show acc.length ≤ acc.length + 0; omega
  | t :: r, k, acc => by
    show (textFrom (k + 1) (acc ++ (if k > 0 then ", " else "" : String) ++ t) r).length ≤ _
    have ih := textFrom_le r (k + 1) (acc ++ (if k > 0 then ", " else "" : String) ++ t)
    have h2 : ((if k > 0 then ", " else "" : String) : Str).length ≤ 2 := by
      split
      · decide +kernel
      · decide +kernel
    rw [Str.length_append, Str.length_append] at ih
    rw [List.map_cons, List.sum_cons]
    omega
theorem join_le : ∀ ts : List Str, (Str.join ", " ts).length ≤ (ts.map fun t => t.length + 2).sum
  | [] => by show (0 : Nat) ≤ _; omega
  | t :: r => by
    have := join_length_add (t :: r) (by simp)
    have e : piled (t :: r) = ((t :: r).map fun t => t.length + 2).sum := rfl
    omega
mutual
theorem shown_le : ∀ d : PyData, plainD d → d.shown.length ≤ wtD d
  | .none, _ => by decide +kernel
  | .bool b, _ => by cases b <;> decide +kernel
  | .int i, _ => by simp only [PyData.shown, wtD]; exact Nat.le_refl _
  | .str x, h => by
    simp only [PyData.shown, wtD]
    exact PySem.StrLaws.reprText_len x fun c hc => by
      simp only [plainD] at h
      have := h c hc
      omega
  | .list xs, h => by
    simp only [plainD] at h
    simp only [PyData.shown, wtD, listText]
    have a := textFrom_le (PyData.shownAll xs) 0 "["
    have b := shownAll_le xs h
    rw [Str.length_append]
    have c1 : ("[" : Str).length = 1 := by decide +kernel
    have c2 : ("]" : Str).length = 1 := by decide +kernel
    omega
  | .tuple xs, h => by
    simp only [plainD] at h
    simp only [PyData.shown, wtD, tupleText]
    have a := join_le (PyData.shownAll xs)
    have b := shownAll_le xs h
    rw [Str.length_append, Str.length_append]
    have c1 : ("(" : Str).length = 1 := by decide +kernel
    have c2 : ((if (PyData.shownAll xs).length == 1 then ",)" else ")" : String) : Str).length ≤ 2 := by
      split <;> decide +kernel
    omega
  | .dict _, h => by simp only [plainD] at h
theorem shownAll_le : ∀ xs : List PyData, plainAll xs → ((PyData.shownAll xs).map fun t => t.length + 2).sum ≤ wtAll xs
  | [], _ => by simp [PyData.shownAll, wtAll]
  | x :: xs, h => by
    simp only [plainAll] at h
    have a := shown_le x h.1
    have b := shownAll_le xs h.2
    simp only [PyData.shownAll, wtAll, List.map_cons, List.sum_cons]
    omega
end
theorem shown_fits {d : PyData} (h : plainD d) (hw : wtD d ≤ 1000000) : d.shown.length ≤ sizeLine := Nat.le_trans (Nat.le_trans (shown_le d h) hw) (by decide)
end Kb

namespace Kb
open PySem PySem.Spec PyProof.Rows L2 TL
/-! ### what a law that makes lambdas keeps -/
def qLaw : Str := ("law" : Str) ++ ".<locals>." ++ "<lambda>"
/-- the heap's objects but tables stay, the law's table tells lambdas -/
def LamInv (Tb : Addr) (H H' : Hp) : Prop := LamX.ExtN H H' ∧ LamX.TabS H' Tb qLaw
theorem LamInv.same {Tb : Addr} {H H1 H2 : Hp} (h : LamInv Tb H H1) (s : Same H1 H2) : LamInv Tb H H2 := ⟨h.1.trans (.of s), TabS.same h.2 s⟩
theorem LamInv.ext {Tb : Addr} {H H1 H2 : Hp} (h : LamInv Tb H H1) (e : LamX.ExtN H1 H2) (t : LamX.TabS H2 Tb qLaw) : LamInv Tb H H2 := ⟨h.1.trans e, t⟩
/-- nothing but a table may have stood there -/
def FreshN (H : Hp) (d : Addr) : Prop := ∀ o, H d = some o → ∃ ps, o = .tbl ps
theorem FreshN.of {H H1 : Hp} {d : Addr} (e : LamX.ExtN H H1) (h : H1 d = none) : FreshN H d := fun o ho => by
  cases o with
  | tbl ps => exact ⟨ps, rfl⟩
  | _ => exact absurd ((e _ _ ho fun ps z => by cases z).symm.trans h) (by simp)
theorem LamInv.keep {Tb d : Addr} {H H1 H2 : Hp} {n : Nat} (h : LamInv Tb H H1) (k : Keep d H1 H2) (hd : FreshN H d) (D : DrawAt H1 d n) : LamInv Tb H H2 :=
  ⟨fun b o e m => k b o (h.1 b o e m) fun z => by subst z; obtain ⟨ps, q⟩ := hd o e; exact m ps q, TabS.keepD h.2 k D⟩
theorem LamInv.put {Tb p : Addr} {H H1 : Hp} {xs ys : List V} (h : LamInv Tb H H1) (fr : FreshN H p) (hp : H1 p = some (.lst xs)) : LamInv Tb H (upd H1 p (.lst ys)) := by
  refine ⟨fun b o e m => ?_, ?_⟩
  · have : b ≠ p := fun z => by subst z; obtain ⟨ps, q⟩ := fr o e; exact m ps q
    rw [upd_ne this]; exact h.1 b o e m
  · obtain ⟨ps, h1, h2, h3⟩ := h.2
    have n1 : Tb ≠ p := fun z => by rw [z, hp] at h1; cases h1
    refine ⟨ps, (upd_ne n1).trans h1, h2, fun pos cv hc => ?_⟩
    obtain ⟨c, e1, e2⟩ := h3 pos cv hc
    have n2 : c ≠ p := fun z => by rw [z, hp] at e2; unfold LamX.CodeO at e2; cases e2
    exact ⟨c, e1, (upd_ne n2).trans e2⟩
theorem repr_bb {K : PySem.W.Frag} {H : Hp} {p : Addr} {a b : Bool} (h : SqL K H p [V.bl a, V.bl b]) : Dp K H (.ref p) (.list [.bool a, .bool b]) ∧ (PyData.list [.bool a, .bool b]).showable = true ∧ (PyData.list [.bool a, .bool b]).hasDict = false ∧ (PyData.list [.bool a, .bool b]).shown.length ≤ sizeLine ∧ (PyData.list [.bool a, .bool b]).depth ≤ 64 :=
  ⟨.lst h (.cons (.bl _) (.cons (.bl _) .nil)), rfl, rfl, shown_fits (by simp only [plainD, plainAll, and_self]) (by simp only [wtD, wtAll]; cases a <;> cases b <;> decide), by simp [PyData.depth, PyData.depthAll]⟩
theorem ty_ext {K : PySem.W.Frag} {H H' : Hp} {v : V} {t : Value} (s : LamX.ExtN H H') (h : TyX K H v t) : TyX K H' v t := by
  cases h with
  | base h =>
    refine .base ?_
    cases h with
    | non => exact .non
    | bl x => exact .bl x
    | int i => exact .int i
    | str x => exact .str x
    | flt x => exact .flt x
    | lst e => exact .lst (s _ _ e fun ps z => by cases z)
    | frz e => exact .frz (s _ _ e fun ps z => by cases z)
    | tup e => exact .tup (s _ _ e fun ps z => by cases z)
    | dK e => exact .dK (s _ _ e fun ps z => by cases z)
    | dT e => exact .dT (s _ _ e fun ps z => by cases z)
    | ins e cl ha hn htk hm => exact .ins (s _ _ e fun ps z => by cases z) cl ha hn htk hm
  | byt b => exact .byt b
  | set e => exact .set (s _ _ e fun ps z => by cases z)
  | kList e c => exact .kList e c
  | kTuple e c => exact .kTuple e c
  | kDict e c => exact .kDict e c
  | fTuple e => exact .fTuple (s _ _ e fun ps z => by cases z)
  | fDict e => exact .fDict (s _ _ e fun ps z => by cases z)
end Kb

namespace Kb
open PySem PySem.Spec PyProof.Rows L2 TL
/-! ### draws from a row of great cells: a dict and its list -/
def gkv (m : Int) (g : Addr) (t : Int) : List (L2.Key × V) := [(Sum.inr "mixed", .int m), (Sum.inr "great", .ref g), (Sum.inr "turn", .int t)]
/-- all but the draw and its list is kept -/
def KeepD (d g : Addr) (H H' : Hp) : Prop := ∀ b o, H b = some o → b ≠ d → b ≠ g → H' b = some o
structure GAt (H : Hp) (d g : Addr) (n : Nat) : Prop where
  ne : g ≠ d
  ex : ∃ (gs : List Int) (m t : Int), H d = some (.dK (gkv m g t)) ∧ H g = some (.lst (gs.map V.int)) ∧ gs.length ≤ 64 ∧ (∀ x ∈ gs, 0 ≤ x) ∧ 0 ≤ m ∧ m < 2305843009213693951 ∧ 0 ≤ t ∧ t + (n : Int) ≤ 1000000000
theorem KeepD.refl {d g : Addr} {H : Hp} : KeepD d g H H := fun _ _ h _ _ => h
theorem KeepD.trans {d g : Addr} {H H1 H2 : Hp} (a : KeepD d g H H1) (b : KeepD d g H1 H2) : KeepD d g H H2 := fun c o h n k => b c o (a c o h n k) n k
theorem Same.keepD {d g : Addr} {H H' : Hp} (a : Same H H') : KeepD d g H H' := fun c o h _ _ => a c o h
theorem KeepD.same {d g : Addr} {H H1 H2 : Hp} (a : KeepD d g H H1) (b : Same H1 H2) : KeepD d g H H2 := fun c o h n k => b c o (a c o h n k)
theorem Same.thenD {d g : Addr} {H H1 H2 : Hp} (a : Same H H1) (b : KeepD d g H1 H2) : KeepD d g H H2 := fun c o h n k => b c o (a c o h) n k
theorem KeepD.updD {d g : Addr} {H H' : Hp} {o : HO} (a : KeepD d g H H') : KeepD d g H (upd H' d o) := fun c u h n k => (upd_ne n).trans (a c u h n k)
theorem KeepD.updG {d g : Addr} {H H' : Hp} {o : HO} (a : KeepD d g H H') : KeepD d g H (upd H' g o) := fun c u h n k => (upd_ne k).trans (a c u h n k)
theorem KeepD.updN {d g L : Addr} {H H' : Hp} {o : HO} (k : KeepD d g H H') (h : H L = none) : KeepD d g H (upd H' L o) := fun b q e n m => (upd_ne (fun z => by rw [z, h] at e; cases e)).trans (k b q e n m)
theorem KeepD.newer {d g L : Addr} {H H' : Hp} (k : KeepD d g H H') (n : L ≠ d) (m : L ≠ g) (h : H' L = none) : H L = none := by
  cases e : H L with
  | none => rfl
  | some o => rw [k L o e n m] at h; cases h
theorem GAt.less {H : Hp} {d g : Addr} {n m : Nat} (h : GAt H d g n) (e : m ≤ n) : GAt H d g m := by
  obtain ⟨ne, gs, x, t, h1, h2, h3, h4, h5, h6, h7, h8⟩ := h
  exact ⟨ne, gs, x, t, h1, h2, h3, h4, h5, h6, h7, by omega⟩
theorem GAt.same {H H' : Hp} {d g : Addr} {n : Nat} (h : GAt H d g n) (s : Same H H') : GAt H' d g n := by
  obtain ⟨ne, gs, x, t, h1, h2, h3⟩ := h
  exact ⟨ne, gs, x, t, s _ _ h1, s _ _ h2, h3⟩
theorem GAt.upd {H : Hp} {d g L : Addr} {n : Nat} {o : HO} (h : GAt H d g n) (a : L ≠ d) (b : L ≠ g) : GAt (L2.upd H L o) d g n := by
  obtain ⟨ne, gs, x, t, h1, h2, h3⟩ := h
  exact ⟨ne, gs, x, t, (upd_ne a.symm).trans h1, (upd_ne b.symm).trans h2, h3⟩
theorem GAt.new {H : Hp} {d g L : Addr} {n : Nat} (h : GAt H d g n) (e : H L = none) : L ≠ d ∧ L ≠ g := by
  obtain ⟨ne, gs, x, t, h1, h2, h3⟩ := h
  exact ⟨(fun z => by rw [z, h1] at e; cases e), (fun z => by rw [z, h2] at e; cases e)⟩
theorem GAt.tup {H : Hp} {d g q : Addr} {n : Nat} {c : List V} (h : GAt H d g n) (e : H q = some (.tup c)) : q ≠ d ∧ q ≠ g := by
  obtain ⟨ne, gs, x, t, h1, h2, h3⟩ := h
  exact ⟨(fun z => by rw [z, h1] at e; cases e), (fun z => by rw [z, h2] at e; cases e)⟩
theorem KeepD.tups {d g : Addr} {n : Nat} {H H' : Hp} (k : KeepD d g H H') (D : GAt H d g n) : ∀ {qs : List Addr} {cs : List (List V)}, TupsAt H qs cs → TupsAt H' qs cs
  | [], [], _ => trivial
  | q :: _, c :: _, h => ⟨k _ _ h.1 (D.tup h.1).1 (D.tup h.1).2, KeepD.tups k D h.2⟩
theorem GAt.put {H : Hp} {d g q : Addr} {n : Nat} {c : List V} {o : HO} (h : GAt H d g n) (e : H q = some (.tup c)) : (L2.upd H d o) q = some (HO.tup c) ∧ (L2.upd H g o) q = some (HO.tup c) :=
  ⟨(upd_ne (h.tup e).1).trans e, (upd_ne (h.tup e).2).trans e⟩
theorem gne1 : ¬ (("mixed" : Str) = "great") := by decide +kernel
theorem gne2 : ¬ (("mixed" : Str) = "turn") := by decide +kernel
theorem gne3 : ¬ (("great" : Str) = "turn") := by decide +kernel
theorem gkv_merge (m : Int) (g : Addr) (t : Int) : mergeK [] (gkv m g t) = gkv m g t := by
  simp [mergeK, gkv, putK, gne1, gne2, gne3]
theorem gget_mixed {H : Hp} {d g : Addr} {m t : Int} (h : H d = some (.dK (gkv m g t))) : DGet H d (.str "mixed") (some (.int m)) := by
  have e := DGet.k (k := (Sum.inr "mixed" : Key)) h
  rw [show valV (gkv m g t) (Sum.inr "mixed" : Key) = some (.int m) by simp [valV, gkv]] at e
  exact e
theorem gget_great {H : Hp} {d g : Addr} {m t : Int} (h : H d = some (.dK (gkv m g t))) : DGet H d (.str "great") (some (.ref g)) := by
  have e := DGet.k (k := (Sum.inr "great" : Key)) h
  rw [show valV (gkv m g t) (Sum.inr "great" : Key) = some (.ref g) by simp [valV, gkv, gne1]] at e
  exact e
theorem gget_turn {H : Hp} {d g : Addr} {m t : Int} (h : H d = some (.dK (gkv m g t))) : DGet H d (.str "turn") (some (.int t)) := by
  have e := DGet.k (k := (Sum.inr "turn" : Key)) h
  rw [show valV (gkv m g t) (Sum.inr "turn" : Key) = some (.int t) by simp [valV, gkv, gne2, gne3]] at e
  exact e
theorem gput_mixed {H : Hp} {d g : Addr} {m t : Int} (x : Int) (h : H d = some (.dK (gkv m g t))) : DPut H d (.str "mixed") (.int x) (upd H d (.dK (gkv x g t))) := by
  have e := DPut.k (k := (Sum.inr "mixed" : Key)) (v := .int x) h (Nat.lt_of_lt_of_le (by show 3 < 10; decide) (by decide))
  rw [show putK (gkv m g t) (Sum.inr "mixed" : Key) (.int x) = gkv x g t by simp [putK, gkv, Ne.symm gne1, Ne.symm gne2]] at e
  exact e
theorem gput_turn {H : Hp} {d g : Addr} {m t : Int} (x : Int) (h : H d = some (.dK (gkv m g t))) : DPut H d (.str "turn") (.int x) (upd H d (.dK (gkv m g x))) := by
  have e := DPut.k (k := (Sum.inr "turn" : Key)) (v := .int x) h (Nat.lt_of_lt_of_le (by show 3 < 10; decide) (by decide))
  rw [show putK (gkv m g t) (Sum.inr "turn" : Key) (.int x) = gkv m g x by simp [putK, gkv, gne2, gne3]] at e
  exact e
end Kb

namespace Kb
open PySem PySem.Spec PyProof.Rows L2 TL
/-! ### str of data -/
def textD : PyData → Str
  | .str x => x
  | d => d.shown
def rStrD (K : PySem.W.Frag) : List V → Hp → VK → Prop := fun xs H Q => ∃ x d, xs = [x] ∧ Dp K H x d ∧ d.showable = true ∧ d.hasDict = false ∧ (textD d).length ≤ sizeLine ∧ d.depth ≤ 60 ∧ Q (.str (textD d)) H
section
variable {X : Cx}
theorem call_strD (hu : X.A.units + 65 < cLine) (hg : X.A.guards = some []) : CallR X (.type "str") (rStrD X.K) := by
  intro pins s σ H xs us Q I r ⟨x, d, e, hd, hs, hn, hz, hp, q⟩
  subst e
  obtain ⟨u, rfl, r1⟩ := vals1 r
  obtain ⟨as, rd⟩ := Dp.reads I d x u hd r1
  have ref : ∀ a : Addr, u = .ref a → d.shown.length ≤ sizeLine → Q (.str d.shown) H → wpAny (model X.prog X.w) X.A (call (Value.type "str") [u]) (EP X pins σ Q) X.xe s := fun a e hz q => by
    subst e
    exact str_of_reads rd hs (fun q => by rw [hn] at q; cases q) hg (by omega) (fun _ _ e => e) (fun h' t tk k => ⟨.str d.shown, H, I.kept (t' := tk) k, ⟨t, rfl⟩, q⟩) hz
  cases rd with
  | none => exact PySem.P.str_of_none ⟨.str "None", H, I.tok _, ⟨_, rfl⟩, q⟩
  | bool b => exact PySem.P.str_of_bool ⟨.str (if b then "True" else "False"), H, I.tok _, ⟨_, rfl⟩, q⟩
  | int i t => exact PySem.P.str_of_int (by simpa [PyData.showable] using hs) ⟨.str (toString i), H, I.tok _, ⟨_, rfl⟩, q⟩
  | str y t => exact PySem.P.str_of_str ⟨.str y, H, I, ⟨_, rfl⟩, q⟩
  | list h1 h2 h3 h4 => exact ref _ rfl hz q
  | tuple h1 h2 h3 h4 => exact ref _ rfl hz q
  | dict h1 h2 h3 h4 h5 => exact ref _ rfl hz q
end
end Kb
namespace Kb
open PySem PySem.Spec PyProof.Rows L2 TL
mutual
theorem Dp.ext {K : PySem.W.Frag} {H H' : Hp} (e : LamX.ExtN H H') : ∀ {v : V} {d : PyData}, Dp K H v d → Dp K H' v d
  | _, _, .non => .non
  | _, _, .bl b => .bl b
  | _, _, .int i => .int i
  | _, _, .str x => .str x
  | _, _, .lst s a => .lst (Kb.ExtN.seqL e s) (DpAll.ext e a)
  | _, _, .tup s a => .tup (Kb.ExtN.seqT e s) (DpAll.ext e a)
theorem DpAll.ext {K : PySem.W.Frag} {H H' : Hp} (e : LamX.ExtN H H') : ∀ {vs : List V} {ds : List PyData}, DpAll K H vs ds → DpAll K H' vs ds
  | _, _, .nil => .nil
  | _, _, .cons a b => .cons (Dp.ext e a) (DpAll.ext e b)
end
theorem Dp.same {K : PySem.W.Frag} {H H' : Hp} {v : V} {d : PyData} (h : Dp K H v d) (s : Same H H') : Dp K H' v d := Dp.ext (.of s) h
/-! ### the repr of plain data is plain -/
theorem repr_lt : ∀ c, c < 128 → (Builtin.Str.reprChar 39 c).all (· < 128) = true ∧ (Builtin.Str.reprChar 34 c).all (· < 128) = true := by decide +kernel
theorem foldl_lt (q : Nat) (hq : q = 39 ∨ q = 34) : ∀ (l : List Nat) (acc : Array Nat), (∀ c ∈ l, c < 128) → (∀ c ∈ acc.toList, c < 128) → ∀ c ∈ (l.foldl (fun out c => out ++ (Builtin.Str.reprChar q c).toArray) acc).toList, c < 128
  | [], acc, _, h => h
  | x :: l, acc, hl, h => by
    refine foldl_lt q hq l _ (fun c hc => hl c (List.mem_cons_of_mem _ hc)) fun c hc => ?_
    rw [Array.toList_append] at hc
    rcases List.mem_append.mp hc with z | z
    · exact h c z
    · obtain ⟨h1, h2⟩ := repr_lt x (hl x (List.mem_cons_self ..))
      rcases hq with rfl | rfl
      · exact of_decide_eq_true (List.all_eq_true.mp h1 c (by simpa using z))
      · exact of_decide_eq_true (List.all_eq_true.mp h2 c (by simpa using z))
theorem quote_is (x : Str) : reprQuote x = 39 ∨ reprQuote x = 34 := by
  unfold reprQuote
  split
  · exact .inr rfl
  · exact .inl rfl
theorem ascii_repr {x : Str} (h : ascii x) : ascii (reprText x) := by
  have hq := quote_is x
  intro c hc
  unfold reprText at hc
  have hc : c ∈ ((x.cps.foldl (fun out c => out ++ (Builtin.Str.reprChar (reprQuote x) c).toArray) #[reprQuote x]).push (reprQuote x)).toList := hc
  rw [Array.toList_push, ← Array.foldl_toList] at hc
  have q128 : reprQuote x < 128 := by rcases hq with e | e <;> rw [e] <;> decide
  rcases List.mem_append.mp hc with z | z
  · exact foldl_lt _ hq _ _ h (fun d hd => by rw [List.mem_singleton.mp (show d ∈ [reprQuote x] from hd)]; exact q128) c z
  · rw [List.mem_singleton.mp z]; exact q128
theorem ascii_textFrom : ∀ (ts : List Str) (k : Nat) (acc : Str), ascii acc → (∀ t ∈ ts, ascii t) → ascii (textFrom k acc ts)
  | [], k, acc, h, _ => h
  | t :: r, k, acc, h, ht => by
    show ascii (textFrom (k + 1) (acc ++ (if k > 0 then ", " else "" : String) ++ t) r)
    refine ascii_textFrom r _ _ ((h.app ?_).app (ht t (List.mem_cons_self ..))) fun x hx => ht x (List.mem_cons_of_mem _ hx)
    split
    · exact ascii_lit (by decide +kernel)
    · exact ascii_lit (by decide +kernel)
theorem ascii_listText {ts : List Str} (h : ∀ t ∈ ts, ascii t) : ascii (listText ts) := by
  unfold listText
  exact (ascii_textFrom ts 0 _ (ascii_lit (by decide +kernel)) h).app (ascii_lit (by decide +kernel))
theorem ascii_sjoin {sep : Str} (hs : ascii sep) : ∀ ts : List Str, (∀ t ∈ ts, ascii t) → ascii (Str.join sep ts)
  | [], _ => by unfold Str.join; exact ascii_lit (by decide +kernel)
  | [x], h => by unfold Str.join; exact h x (List.mem_cons_self ..)
  | x :: y :: r, h => by
    unfold Str.join
    exact ((h x (List.mem_cons_self ..)).app hs).app (ascii_sjoin hs (y :: r) fun t ht => h t (List.mem_cons_of_mem _ ht))
theorem ascii_tupleText {ts : List Str} (h : ∀ t ∈ ts, ascii t) : ascii (tupleText ts) := by
  unfold tupleText
  refine ((ascii_lit (by decide +kernel)).app (ascii_sjoin (ascii_lit (by decide +kernel)) ts h)).app ?_
  split
  · exact ascii_lit (by decide +kernel)
  · exact ascii_lit (by decide +kernel)
/-- data whose repr and str can be told -/
structure OkD (d : PyData) : Prop where
  s : d.showable = true
  n : d.hasDict = false
  p : plainD d
  w : wtD d ≤ 5000
  z : d.depth ≤ 10
  l : d.canLay0 = true
  a : ascii d.shown
def DatV (K : PySem.W.Frag) (H : Hp) (v : V) : Prop := ∃ d, OkD d ∧ Dp K H v d
theorem OkD.shown {d : PyData} (h : OkD d) : d.shown.length ≤ sizeLine := shown_fits h.p (Nat.le_trans h.w (by decide))
theorem OkD.shaped {d : PyData} (h : OkD d) : SeqAt.shaped d = true := by
  unfold SeqAt.shaped
  rw [h.l, decide_eq_true (Nat.le_trans h.z (by decide))]; rfl
theorem OkD.str {x : Str} (h : ascii x) (hl : x.length ≤ 400) : OkD (.str x) := ⟨rfl, rfl, by simp only [plainD]; exact h, by simp only [wtD]; omega, by simp [PyData.depth], lay_str h, by simp only [PyData.shown]; exact ascii_repr h⟩
theorem OkD.non : OkD .none := ⟨rfl, rfl, trivial, by decide, by decide, by decide, ascii_lit (by decide +kernel)⟩
theorem OkD.bool (b : Bool) : OkD (.bool b) := ⟨rfl, rfl, trivial, by cases b <;> decide, by cases b <;> decide, by cases b <;> decide, by cases b <;> exact ascii_lit (by decide +kernel)⟩
theorem OkD.five : OkD (.int 5) := ⟨by decide +kernel, rfl, trivial, by decide +kernel, by decide, by decide +kernel, ascii_lit (by decide +kernel)⟩
end Kb
namespace Kb
open PySem PySem.Spec PyProof.Rows L2 TL
/-- data of moderate size -/
structure SmD (d : PyData) : Prop where
  o : OkD d
  w : wtD d ≤ 900
  z : d.depth ≤ 4
theorem sm_all : ∀ ds : List PyData, (∀ d ∈ ds, SmD d) → PyData.showableAll ds = true ∧ PyData.hasDictAll ds = false ∧ plainAll ds ∧ wtAll ds ≤ 902 * ds.length ∧ PyData.depthAll ds ≤ 4 ∧ PyData.canLayAll0 ds = true ∧ ∀ t ∈ PyData.shownAll ds, ascii t
  | [], _ => by simp [PyData.showableAll, PyData.hasDictAll, plainAll, wtAll, PyData.depthAll, PyData.canLayAll0, PyData.shownAll]
  | d :: ds, h => by
    obtain ⟨a, b, c⟩ := h d (List.mem_cons_self ..)
    obtain ⟨i1, i2, i3, i4, i5, i6, i7⟩ := sm_all ds fun x hx => h x (List.mem_cons_of_mem _ hx)
    refine ⟨by simp [PyData.showableAll, a.s, i1], by simp [PyData.hasDictAll, a.n, i2], by simp only [plainAll]; exact ⟨a.p, i3⟩, ?_, ?_, by simp [PyData.canLayAll0, a.l, i6], fun t ht => ?_⟩
    · simp only [wtAll, List.length_cons]; omega
    · simp only [PyData.depthAll]; omega
    · simp only [PyData.shownAll] at ht
      rcases List.mem_cons.mp ht with rfl | q
      · exact a.a
      · exact i7 t q
theorem SmD.list {ds : List PyData} (h : ∀ d ∈ ds, SmD d) (hl : ds.length ≤ 5) : OkD (.list ds) := by
  obtain ⟨i1, i2, i3, i4, i5, i6, i7⟩ := sm_all ds h
  exact ⟨by simp [PyData.showable, i1], by simp [PyData.hasDict, i2], by simp only [plainD]; exact i3, by simp only [wtD]; omega, by simp only [PyData.depth]; omega, by simp [PyData.canLay0, i6], by simp only [PyData.shown]; exact ascii_listText i7⟩
theorem SmD.tuple {ds : List PyData} (h : ∀ d ∈ ds, SmD d) (hl : ds.length ≤ 5) : OkD (.tuple ds) := by
  obtain ⟨i1, i2, i3, i4, i5, i6, i7⟩ := sm_all ds h
  exact ⟨by simp [PyData.showable, i1], by simp [PyData.hasDict, i2], by simp only [plainD]; exact i3, by simp only [wtD]; omega, by simp only [PyData.depth]; omega, by simp [PyData.canLay0, i6], by simp only [PyData.shown]; exact ascii_tupleText i7⟩
theorem SmD.str {x : Str} (h : ascii x) (hl : x.length ≤ 60) : SmD (.str x) := ⟨OkD.str h (by omega), by simp only [wtD]; omega, by simp [PyData.depth]⟩
theorem SmD.non : SmD .none := ⟨OkD.non, by decide, by decide⟩
/-- a tuple of texts and nothing else -/
theorem shaped_pair {x y : Str} (hx : ascii x) (hy : ascii y) : SeqAt.shaped (.tuple [.str x, .str y]) = true := by
  have h1 := lay_str hx
  have h2 := lay_str hy
  simp only [PyData.canLay0] at h1 h2
  simp [SeqAt.shaped, PyData.canLay0, PyData.canLayAll0, PyData.depth, PyData.depthAll, h1, h2]
theorem SmD.all1 {a : PyData} (ha : SmD a) : ∀ d ∈ [a], SmD d := fun d hd => by rw [List.mem_singleton.mp hd]; exact ha
theorem SmD.all2 {a b : PyData} (ha : SmD a) (hb : SmD b) : ∀ d ∈ [a, b], SmD d := fun d hd => by
  simp only [List.mem_cons, List.not_mem_nil, or_false] at hd
  rcases hd with rfl | rfl
  · exact ha
  · exact hb
theorem SmD.all3 {a b c : PyData} (ha : SmD a) (hb : SmD b) (hc : SmD c) : ∀ d ∈ [a, b, c], SmD d := fun d hd => by
  simp only [List.mem_cons, List.not_mem_nil, or_false] at hd
  rcases hd with rfl | rfl | rfl
  · exact ha
  · exact hb
  · exact hc
end Kb
namespace Kb
open PySem PySem.Spec PyProof.Rows L2 TL
theorem shaped_all : ∀ ds : List PyData, (∀ d ∈ ds, d.canLay0 = true ∧ d.depth ≤ 60) → PyData.canLayAll0 ds = true ∧ PyData.depthAll ds ≤ 60
  | [], _ => by simp [PyData.canLayAll0, PyData.depthAll]
  | a :: r, h => by
    obtain ⟨h1, h2⟩ := h a (List.mem_cons_self ..)
    obtain ⟨h3, h4⟩ := shaped_all r fun d hd => h d (List.mem_cons_of_mem _ hd)
    exact ⟨by simp [PyData.canLayAll0, h1, h3], by simp only [PyData.depthAll]; omega⟩
theorem shaped_list {ds : List PyData} (h : ∀ d ∈ ds, d.canLay0 = true ∧ d.depth ≤ 60) : SeqAt.shaped (.list ds) = true := by
  obtain ⟨h1, h2⟩ := shaped_all ds h
  unfold SeqAt.shaped
  simp only [PyData.canLay0, PyData.depth, h1, Bool.true_and]
  exact decide_eq_true (by omega)
theorem shaped_tuple {ds : List PyData} (h : ∀ d ∈ ds, d.canLay0 = true ∧ d.depth ≤ 60) : SeqAt.shaped (.tuple ds) = true := by
  obtain ⟨h1, h2⟩ := shaped_all ds h
  unfold SeqAt.shaped
  simp only [PyData.canLay0, PyData.depth, h1, Bool.true_and]
  exact decide_eq_true (by omega)
theorem eqv_same {d : PyData} (h : SeqAt.shaped d = true) : PyData.eqv d d = true := SeqAt.eqv_refl _ (SeqAt.canLay_of_shaped h)
end Kb
namespace Kb
open PySem PySem.Spec PyProof.Rows L2 TL
theorem OkD.text {d : PyData} (h : OkD d) : (textD d).length ≤ 5000 := by
  have a := shown_le d h.p
  have b := h.w
  cases d with
  | str x => simp only [wtD] at b; show x.length ≤ 5000; omega
  | none => exact Nat.le_trans a b
  | bool _ => exact Nat.le_trans a b
  | int _ => exact Nat.le_trans a b
  | list _ => exact Nat.le_trans a b
  | tuple _ => exact Nat.le_trans a b
  | dict _ => exact Nat.le_trans a b
end Kb

namespace Kb
open PySem PySem.Spec PyProof.Rows L2 TL
/-! ### data whose repr is told, by weight and depth -/
structure RpD (d : PyData) (B k : Nat) : Prop where
  s : d.showable = true
  n : d.hasDict = false
  p : plainD d
  w : wtD d ≤ B
  z : d.depth ≤ k
theorem RpD.mono {d : PyData} {B k B' k' : Nat} (h : RpD d B k) (hB : B ≤ B') (hk : k ≤ k') : RpD d B' k' := ⟨h.s, h.n, h.p, Nat.le_trans h.w hB, Nat.le_trans h.z hk⟩
theorem RpD.str {x : Str} {m : Nat} (h : ascii x) (hl : x.length ≤ m) : RpD (.str x) (10 * m + 2) 0 := ⟨rfl, rfl, by simp only [plainD]; exact h, by simp only [wtD]; omega, by simp [PyData.depth]⟩
theorem RpD.non : RpD .none 4 0 := ⟨rfl, rfl, trivial, by simp [wtD], by simp [PyData.depth]⟩
theorem RpD.bool (b : Bool) : RpD (.bool b) 5 0 := ⟨rfl, rfl, trivial, by simp [wtD], by simp [PyData.depth]⟩
theorem rp_all {B k : Nat} : ∀ ds : List PyData, (∀ d ∈ ds, RpD d B k) → PyData.showableAll ds = true ∧ PyData.hasDictAll ds = false ∧ plainAll ds ∧ wtAll ds ≤ (B + 2) * ds.length ∧ PyData.depthAll ds ≤ k
  | [], _ => by simp [PyData.showableAll, PyData.hasDictAll, plainAll, wtAll, PyData.depthAll]
  | d :: ds, h => by
    have a := h d (List.mem_cons_self ..)
    obtain ⟨i1, i2, i3, i4, i5⟩ := rp_all ds fun x hx => h x (List.mem_cons_of_mem _ hx)
    refine ⟨by simp [PyData.showableAll, a.s, i1], by simp [PyData.hasDictAll, a.n, i2], by simp only [plainAll]; exact ⟨a.p, i3⟩, ?_, ?_⟩
    · have := a.w
      simp only [wtAll, List.length_cons]
      rw [Nat.mul_succ]
      omega
    · have := a.z
      simp only [PyData.depthAll]; omega
theorem RpD.list {B k m : Nat} {ds : List PyData} (h : ∀ d ∈ ds, RpD d B k) (hl : ds.length ≤ m) : RpD (.list ds) (3 + (B + 2) * m) (k + 1) := by
  obtain ⟨i1, i2, i3, i4, i5⟩ := rp_all ds h
  have : (B + 2) * ds.length ≤ (B + 2) * m := Nat.mul_le_mul_left _ hl
  exact ⟨by simp [PyData.showable, i1], by simp [PyData.hasDict, i2], by simp only [plainD]; exact i3, by simp only [wtD]; omega, by simp only [PyData.depth]; omega⟩
theorem RpD.tuple {B k m : Nat} {ds : List PyData} (h : ∀ d ∈ ds, RpD d B k) (hl : ds.length ≤ m) : RpD (.tuple ds) (3 + (B + 2) * m) (k + 1) := by
  obtain ⟨i1, i2, i3, i4, i5⟩ := rp_all ds h
  have : (B + 2) * ds.length ≤ (B + 2) * m := Nat.mul_le_mul_left _ hl
  exact ⟨by simp [PyData.showable, i1], by simp [PyData.hasDict, i2], by simp only [plainD]; exact i3, by simp only [wtD]; omega, by simp only [PyData.depth]; omega⟩
theorem RpD.shown {d : PyData} {B k : Nat} (h : RpD d B k) (hB : B ≤ 1000000) : d.shown.length ≤ sizeLine := shown_fits h.p (Nat.le_trans h.w hB)
/-- what the rule of repr asks -/
theorem RpD.repr {K : PySem.W.Frag} {H : Hp} {x : V} {d : PyData} {B k : Nat} {Q : VK} (h : RpD d B k) (hB : B ≤ 1000000) (hk : k ≤ 64) (hd : Dp K H x d) (q : Q (.str d.shown) H) : rRepr K [x] H Q :=
  ⟨x, d, rfl, hd, h.s, h.n, h.shown hB, Nat.le_trans h.z hk, q⟩
end Kb

namespace Kb
open PySem PySem.Spec PyProof.Rows L2 TL
/-! ### what is told is right -/
theorem lookL_in {z : Str} {v : V} : ∀ {l : List (Str × V)}, lookL l z = some v → ∃ p ∈ l, v = p.2
  | [], h => by cases h
  | p :: r, h => by
    unfold lookL at h
    split at h
    · exact ⟨p, List.mem_cons_self .., (Option.some.inj h).symm⟩
    · obtain ⟨q, hq, e⟩ := lookL_in h; exact ⟨q, List.mem_cons_of_mem _ hq, e⟩
theorem defTab_word {z : Str} {d : V} (h : lookL defTab z = some d) : ∃ w, d = .str w ∧ keepsB (some w) = false := by
  obtain ⟨p, hp, rfl⟩ := lookL_in h
  simp only [defTab, List.mem_cons, List.not_mem_nil, or_false] at hp
  rcases hp with rfl | rfl | rfl | rfl | rfl | rfl <;> exact ⟨_, rfl, by decide +kernel⟩
/-- a piece of an attribute with a value that counts tells something -/
theorem keep_told {z : Str} {v : Option Str} {kv : List (L2.Key × V)} (h : keepsB (wordR z v kv) = true) (hf : flagB z = false) : ∃ x, v = some x ∧ x.length ≤ 1024 ∧ nonB (toldR z x) = false := by
  have no : ∀ w, keepsB (some w) = false → defR z v = some w → False := fun w hw e => by unfold wordR at h; rw [e] at h; rw [show keepsB (some w) = true from h] at hw; cases hw
  cases v with
  | none =>
    exfalso
    by_cases e1 : z = ""
    · exact no "nothing" (by decide +kernel) (by unfold defR; rw [if_pos ⟨e1, rfl⟩])
    cases ht : lookL defTab z with
    | none => exact no "unknown" (by decide +kernel) (by unfold defR; rw [if_neg (fun q => e1 q.1), if_pos ⟨hf, by rw [ht]; rfl⟩])
    | some d =>
      obtain ⟨w, rfl, hw⟩ := defTab_word ht
      exact no w hw (by unfold defR; rw [if_neg (fun q => e1 q.1), if_neg (fun q => by rw [ht] at q; exact absurd (show true = false from q.2) (by decide)), if_neg (by decide), if_neg (by rw [hf]; decide), if_pos rfl, ht])
  | some x =>
    have n0 : ¬ (z = "" ∧ (some x).isNone = true) := fun q => absurd (show false = true from q.2) (by decide)
    cases ht : lookL defTab z with
    | none => exact (no "unknown" (by decide +kernel) (by unfold defR; rw [if_neg n0, if_pos ⟨hf, by rw [ht]; rfl⟩])).elim
    | some d =>
      obtain ⟨w, rfl, hw⟩ := defTab_word ht
      have n1 : ¬ (flagB z = false ∧ (some (V.str w)).isSome = false) := fun q => absurd (show true = false from q.2) (by decide)
      by_cases hl : 1024 < x.length
      · exact (no "long" (by decide +kernel) (by unfold defR; rw [if_neg n0, ht, if_neg n1, if_pos (show decide (1024 < x.length) = true from decide_eq_true hl)])).elim
      · refine ⟨x, rfl, by omega, ?_⟩
        cases hn : nonB (toldR z x) with
        | false => rfl
        | true => exact (no w hw (by unfold defR; rw [if_neg n0, ht, if_neg n1, if_neg (fun q => hl (of_decide_eq_true (show decide (1024 < x.length) = true from q))), if_neg (by rw [hf]; decide), if_pos (show nonB (toldR z x) = true from hn)])).elim
def ToldOk (kv : List (L2.Key × V)) : Prop := ∀ (z : Str) (v : V), valV kv (.inr z) = some v → (flagB z = true ∧ v = .bl true) ∨ (flagB z = false ∧ ∃ x, v = toldR z x ∧ nonB v = false)
theorem stepJ_ok {st : List (Int × Str) × List (L2.Key × V)} {i : Int} {c : Str × Option Str} (h : ToldOk st.2) : ToldOk (stepJ st i c).2 := by
  unfold stepJ
  by_cases hk : keepsB (wordR (lowS c.1) c.2 st.2) = true
  · show ToldOk (if _ then _ else _)
    rw [if_pos hk]
    intro z v hv
    rw [valV_put] at hv
    by_cases e : (Sum.inr z : L2.Key) = Sum.inr (lowS c.1)
    · rw [if_pos e] at hv
      have ez : z = lowS c.1 := Sum.inr.inj e
      have hv := Option.some.inj hv
      subst hv
      unfold worthR
      cases hf : flagB (lowS c.1) with
      | true => exact .inl ⟨by rw [ez]; exact hf, by rw [if_pos rfl]⟩
      | false =>
        obtain ⟨x, ex, _, hn⟩ := keep_told hk hf
        rw [if_neg (by decide), ex]
        exact .inr ⟨by rw [ez]; exact hf, x, by rw [ez]; rfl, hn⟩
    · rw [if_neg e] at hv
      exact h z v hv
  · show ToldOk (if _ then _ else _)
    rw [if_neg hk]
    exact h
theorem runJ_ok : ∀ (L : List (Str × Option Str)) (i : Int) (st : List (Int × Str) × List (L2.Key × V)), ToldOk st.2 → ToldOk (runJ i L st).2
  | [], _, _, h => h
  | c :: r, i, st, h => runJ_ok r (i + 1) _ (stepJ_ok h)
end Kb

namespace Kb
open PySem PySem.Spec PyProof.Rows L2 TL
/-! ### joined tokens -/
def tokOk (t : List Nat) : Prop := t ≠ [] ∧ ∀ s ∈ t, tokB s = true
theorem toks_run : ∀ (t acc l : List Nat), (∀ s ∈ t, tokB s = true) → toks acc (t ++ l) = toks (acc ++ t) l
  | [], acc, l, _ => by rw [List.append_nil]; rfl
  | c :: t, acc, l, h => by
    rw [List.cons_append, toks, if_pos (h c (List.mem_cons_self ..)), toks_run t _ l fun s hs => h s (List.mem_cons_of_mem _ hs), List.append_assoc]; rfl
theorem toks_skip : ∀ (s l : List Nat), (∀ c ∈ s, tokB c = false) → toks [] (s ++ l) = toks [] l
  | [], l, _ => rfl
  | c :: s, l, h => by
    rw [List.cons_append, toks, if_neg (by rw [h c (List.mem_cons_self ..)]; exact Bool.false_ne_true), if_pos rfl, toks_skip s l fun x hx => h x (List.mem_cons_of_mem _ hx)]
theorem toks_sep {acc s l : List Nat} (ha : acc ≠ []) (hs : s ≠ []) (h : ∀ c ∈ s, tokB c = false) : toks acc (s ++ l) = acc :: toks [] l := by
  obtain ⟨c, r, rfl⟩ := List.exists_cons_of_ne_nil hs
  rw [List.cons_append, toks, if_neg (by rw [h c (List.mem_cons_self ..)]; exact Bool.false_ne_true), if_neg ha, toks_skip r l fun x hx => h x (List.mem_cons_of_mem _ hx)]
theorem toks_join {s : List Nat} (hs : s ≠ []) (h : ∀ c ∈ s, tokB c = false) : ∀ T : List (List Nat), (∀ t ∈ T, tokOk t) → toks [] (joinL s T) = T
  | [], _ => rfl
  | [t], hT => by
    obtain ⟨h1, h2⟩ := hT t (List.mem_singleton.mpr rfl)
    show toks [] t = _
    have := toks_run t [] [] h2
    rw [List.append_nil, List.nil_append] at this
    rw [this, toks, if_neg h1]
  | t :: u :: r, hT => by
    obtain ⟨h1, h2⟩ := hT t (List.mem_cons_self ..)
    show toks [] (t ++ (s ++ joinL s (u :: r))) = _
    rw [toks_run t [] _ h2, List.nil_append, toks_sep h1 hs h, toks_join hs h (u :: r) fun x hx => hT x (List.mem_cons_of_mem _ hx)]
theorem date_join {s : Str} {T : List Str} (hs : tl s ≠ []) (h : ∀ c ∈ tl s, tokB c = false) (hT : ∀ t ∈ T, tokOk (tl t)) : dateR (tl (Txt.join s T)) = dateF T := by
  unfold dateR
  rw [join_tl, toks_join hs h _ fun l hl => by obtain ⟨t, ht, rfl⟩ := List.mem_map.mp hl; exact hT t ht, ← ts_mk rfl]
/-! ### four tokens, each for its part -/
theorem partI_eq (f : Fnd) (l : List Nat) : partI f l = if (!hasP f 0 && fits 0 l) = true then some 0 else if (!hasP f 1 && fits 1 l) = true then some 1 else if (!hasP f 2 && fits 2 l) = true then some 2 else if (!hasP f 3 && fits 3 l) = true then some 3 else none := by
  unfold partI
  rw [show List.range 4 = [0, 1, 2, 3] by decide]
  simp only [List.find?_cons, List.find?_nil]
  cases (!hasP f 0 && fits 0 l) <;> cases (!hasP f 1 && fits 1 l) <;> cases (!hasP f 2 && fits 2 l) <;> cases (!hasP f 3 && fits 3 l) <;> rfl
structure KT (l : List Nat) : Prop where
  a : fits 0 l = true
  b : fits 1 l = false
  c : fits 2 l = false
  d : fits 3 l = false
structure KD (l : List Nat) : Prop where
  a : fits 0 l = false
  b : fits 1 l = true
  c : fits 2 l = false
structure KM (l : List Nat) : Prop where
  a : fits 0 l = false
  b : fits 1 l = false
  c : fits 2 l = true
  d : fits 3 l = false
structure KY (l : List Nat) : Prop where
  a : fits 0 l = false
  b : fits 1 l = false
  c : fits 2 l = false
  d : fits 3 l = true
theorem few_none {T : List Str} (h : T.length < 4) : dateF T = none := by
  have : ∀ (T : List Str) (f : Fnd), (T.foldl stepD f).length ≤ f.length + T.length := by
    intro T
    induction T with
    | nil => intro f; exact Nat.le_refl _
    | cons t T ih =>
      intro f
      have h1 := ih (stepD f t)
      have h2 := (stepD_len f t).2
      rw [List.foldl_cons, List.length_cons]
      omega
  have h1 := this T []
  unfold dateF
  rw [if_pos (by simp at h1; omega)]
section
variable {a b c d e x : Str}
theorem run4 (ha : KT (tl a)) (hb : KD (tl b)) (hc : KM (tl c)) (hd : KY (tl d)) : dateF [a, b, c, d] = tickI (tl a) (tl b) (tl c) (tl d) ∧ dateF [a, b, c, d, e] = tickI (tl a) (tl b) (tl c) (tl d) := by
  obtain ⟨a0, a1, a2, a3⟩ := ha
  obtain ⟨b0, b1, b2⟩ := hb
  obtain ⟨c0, c1, c2, c3⟩ := hc
  obtain ⟨d0, d1, d2, d3⟩ := hd
  constructor <;> (simp [dateF, stepD, partI_eq, hasP, getP, *])
theorem run5_0 (ha : KT (tl a)) (hb : KD (tl b)) (hc : KM (tl c)) (hd : KY (tl d)) (x0 : fits 0 (tl x) = false) (x1 : fits 1 (tl x) = false) (x2 : fits 2 (tl x) = false) (x3 : fits 3 (tl x) = false) :
    dateF [x, b, c, d] = none ∧ dateF [x, b, c, d, a] = tickI (tl a) (tl b) (tl c) (tl d) := by
  obtain ⟨a0, a1, a2, a3⟩ := ha
  obtain ⟨b0, b1, b2⟩ := hb
  obtain ⟨c0, c1, c2, c3⟩ := hc
  obtain ⟨d0, d1, d2, d3⟩ := hd
  constructor <;> (simp [dateF, stepD, partI_eq, hasP, getP, *])
theorem run5_1 (ha : KT (tl a)) (hb : KD (tl b)) (hc : KM (tl c)) (hd : KY (tl d)) (x0 : fits 0 (tl x) = false) (x1 : fits 1 (tl x) = false) (x2 : fits 2 (tl x) = false) (x3 : fits 3 (tl x) = false) :
    dateF [a, x, c, d] = none ∧ dateF [a, x, c, d, b] = tickI (tl a) (tl b) (tl c) (tl d) := by
  obtain ⟨a0, a1, a2, a3⟩ := ha
  obtain ⟨b0, b1, b2⟩ := hb
  obtain ⟨c0, c1, c2, c3⟩ := hc
  obtain ⟨d0, d1, d2, d3⟩ := hd
  constructor <;> (simp [dateF, stepD, partI_eq, hasP, getP, *])
theorem run5_2 (ha : KT (tl a)) (hb : KD (tl b)) (hc : KM (tl c)) (hd : KY (tl d)) (x0 : fits 0 (tl x) = false) (x1 : fits 1 (tl x) = false) (x2 : fits 2 (tl x) = false) (x3 : fits 3 (tl x) = false) :
    dateF [a, b, x, d] = none ∧ dateF [a, b, x, d, c] = tickI (tl a) (tl b) (tl c) (tl d) := by
  obtain ⟨a0, a1, a2, a3⟩ := ha
  obtain ⟨b0, b1, b2⟩ := hb
  obtain ⟨c0, c1, c2, c3⟩ := hc
  obtain ⟨d0, d1, d2, d3⟩ := hd
  constructor <;> (simp [dateF, stepD, partI_eq, hasP, getP, *])
theorem run5_3 (ha : KT (tl a)) (hb : KD (tl b)) (hc : KM (tl c)) (hd : KY (tl d)) (x0 : fits 0 (tl x) = false) (x2 : fits 2 (tl x) = false) (x3 : fits 3 (tl x) = false) :
    dateF [a, b, c, x] = none ∧ dateF [a, b, c, x, d] = tickI (tl a) (tl b) (tl c) (tl d) := by
  obtain ⟨a0, a1, a2, a3⟩ := ha
  obtain ⟨b0, b1, b2⟩ := hb
  obtain ⟨c0, c1, c2, c3⟩ := hc
  obtain ⟨d0, d1, d2, d3⟩ := hd
  constructor <;> (simp [dateF, stepD, partI_eq, hasP, getP, *])
end
end Kb
namespace Kb
open PySem PySem.Spec PyProof.Rows L2 TL
/-! ### drawn tokens -/
def num2B (n : Nat) : Bool := digB (numL n) && (decide ((numL n).length ≤ 2) && decide (NumText.digitsVal (numL n) = n))
theorem num2_ok : ∀ n, n < 100 → num2B n = true := by decide +kernel
theorem num2 {n : Nat} (h : n < 100) : digB (numL n) = true ∧ (numL n).length ≤ 2 ∧ valL (numL n) = n := by
  have := num2_ok n h
  unfold num2B at this
  simp only [Bool.and_eq_true, decide_eq_true_eq] at this
  exact ⟨this.1, this.2.1, by unfold valL; rw [this.2.2]⟩
theorem num_dig (n : Nat) : digB (numL n) = true := by
  rw [digB_iff]
  refine ⟨fun c hc => ?_, ?_⟩
  · obtain ⟨ch, hch, e⟩ := List.mem_map.mp (show c ∈ (Nat.toDigits 10 n).map Char.toNat from hc)
    have r := PyProof.Rows.digit_range (Nat.isDigit_of_mem_toDigits (by decide) (by decide) hch)
    rw [← e]
    exact r
  · intro e
    have h1 := tDigits_len_ge 10 n
    have h2 : ((Nat.toDigits 10 n).map Char.toNat).length = 0 := by
      have e : (Nat.toDigits 10 n).map Char.toNat = [] := e
      rw [e]; rfl
    rw [List.length_map] at h2
    omega
theorem num4 {n : Nat} (h : 1000 ≤ n) (h2 : n < 10000) : digB (numL n) = true ∧ (numL n).length = 4 ∧ valL (numL n) = n := by
  refine ⟨num_dig n, ?_, ?_⟩
  · have a := digits10_le (k := 4) (by decide) (show n < 10 ^ 4 by omega)
    have b := digits10_ge (k := 3) (show 10 ^ 3 ≤ n by omega)
    show ((Nat.toDigits 10 n).map Char.toNat).length = 4
    rw [List.length_map]
    omega
  · unfold valL
    have := PySem.W.KIN.val_back n
    show ((NumText.digitsVal ((Nat.toDigits 10 n).map Char.toNat) : Nat) : Int) = n
    rw [this]
theorem dig_no58 {l : List Nat} (h : digB l = true) : 58 ∉ l := fun m => by
  have := (digB_iff.mp h).1 58 m
  omega
theorem dig_nolet {l : List Nat} (h : digB l = true) : onlyB lettL l = false := by
  obtain ⟨h1, h2⟩ := digB_iff.mp h
  obtain ⟨c, r, rfl⟩ := List.exists_cons_of_ne_nil h2
  have hc := h1 c (List.mem_cons_self ..)
  have key : ∀ c, c < 58 → decide (c ∈ lettL) = false := by decide +kernel
  unfold onlyB
  rw [List.all_cons, key c (by omega), Bool.false_and, Bool.false_and]
theorem dig_tok {l : List Nat} (h : digB l = true) : tokOk l := by
  obtain ⟨h1, h2⟩ := digB_iff.mp h
  refine ⟨h2, fun s hs => ?_⟩
  unfold tokB
  rw [decide_eq_true (digs_iff.mpr (h1 s hs))]
  simp
theorem KD_of {l : List Nat} (h : digB l = true) (h2 : l.length ≤ 2) : KD l := by
  refine ⟨?_, ?_, ?_⟩
  · show fitT l = false
    unfold fitT
    rw [sp1_of_free (dig_no58 h)]
    simp
  · show fitD l = true
    unfold fitD
    rw [h, decide_eq_true h2]; rfl
  · show fitM l = false
    unfold fitM
    rw [dig_nolet h, Bool.false_and]
theorem KY_of {l : List Nat} (h : digB l = true) (h2 : l.length = 4) : KY l := by
  refine ⟨?_, ?_, ?_, ?_⟩
  · show fitT l = false
    unfold fitT
    rw [sp1_of_free (dig_no58 h)]
    simp
  · show fitD l = false
    unfold fitD
    rw [h, h2]; rfl
  · show fitM l = false
    unfold fitM
    rw [dig_nolet h, Bool.false_and]
  · show fitY l = true
    unfold fitY
    rw [h, h2]; rfl
def timeL (p q r : List Nat) : List Nat := joinL [58] [p, q, r]
theorem time_sp {p q r : List Nat} (hp : digB p = true) (hq : digB q = true) (hr : digB r = true) : sp1 58 (timeL p q r) = [p, q, r] :=
  sp1_joinL (by simp) fun l hl => by
    simp only [List.mem_cons, List.not_mem_nil, or_false] at hl
    rcases hl with rfl | rfl | rfl
    · exact dig_no58 hp
    · exact dig_no58 hq
    · exact dig_no58 hr
theorem time_mem (p q r : List Nat) : 58 ∈ timeL p q r := by
  show 58 ∈ p ++ ([58] ++ joinL [58] [q, r])
  simp
theorem KT_of {p q r : List Nat} (hp : digB p = true) (hq : digB q = true) (hr : digB r = true) (lp : p.length ≤ 2) (lq : q.length ≤ 2) (lr : r.length ≤ 2) : KT (timeL p q r) ∧ tokOk (timeL p q r) := by
  have nd : digB (timeL p q r) = false := by
    rw [Bool.eq_false_iff]
    exact fun h => dig_no58 h (time_mem p q r)
  refine ⟨⟨?_, ?_, ?_, ?_⟩, ⟨fun e => (by have := time_mem p q r; rw [e] at this; cases this), fun s hs => ?_⟩⟩
  · show fitT _ = true
    unfold fitT
    rw [time_sp hp hq hr]
    simp [hp, hq, hr, lp, lq, lr]
  · show fitD _ = false
    unfold fitD
    rw [nd, Bool.false_and]
  · show fitM _ = false
    unfold fitM onlyB
    have : (timeL p q r).all (fun c => decide (c ∈ lettL)) = false := by
      rw [List.all_eq_false]
      exact ⟨58, time_mem p q r, by decide +kernel⟩
    rw [this, Bool.false_and, Bool.false_and]
  · show fitY _ = false
    unfold fitY
    rw [nd, Bool.false_and]
  · have hs : s ∈ p ++ ([58] ++ (q ++ ([58] ++ r))) := hs
    simp only [List.mem_append, List.mem_singleton] at hs
    rcases hs with h | rfl | h | rfl | h
    · exact (dig_tok hp).2 s h
    · decide
    · exact (dig_tok hq).2 s h
    · decide
    · exact (dig_tok hr).2 s h
theorem tick_of {p q r d m y : List Nat} (hp : digB p = true) (hq : digB q = true) (hr : digB r = true) : tickI (timeL p q r) d m y =
    if 23 < valL p ∨ 59 < valL q ∨ 59 < valL r ∨ yearI y < 1601 then none else if ¬ (1 ≤ valL d ∧ valL d ≤ domI (yearI y) (monI m)) then none else if yearI y < 1970 then some 0 else
      some ((dbfI (yearI y) + dbmI (yearI y) (monI m) + valL d - 1) * 86400 + valL p * 3600 + valL q * 60 + valL r) := by
  unfold tickI
  rw [time_sp hp hq hr]
  rfl
def mon15 : List Str := ["jan", "Feb", "MAR", "april", "May", "jun", "JULY", "aug", "Sep", "oct", "Nov", "decem"]
def monB (i : Nat) (c : Str) : Bool := !fits 0 (tl c) && (!fits 1 (tl c) && (fits 2 (tl c) && (!fits 3 (tl c) && (decide (monI (tl c) = i + 1) && ((tl c).all tokB && (decide (tl c ≠ []) && ((tl c).all (· < 128) && decide (c.length ≤ 10))))))))
theorem mon15_ok : ∀ i, i < 12 → monB i (mon15.getD i "") = true := by decide +kernel
theorem mon15_at {c : Str} (h : c ∈ mon15) : ∃ i, i < 12 ∧ c = mon15.getD i "" ∧ KM (tl c) ∧ monI (tl c) = i + 1 ∧ tokOk (tl c) ∧ ascii c ∧ c.length ≤ 10 := by
  obtain ⟨i, hi⟩ := List.mem_iff_getElem?.mp h
  have hi2 : i < 12 := (List.getElem?_eq_some_iff.mp hi).1
  have e : mon15.getD i "" = c := by rw [List.getD_eq_getElem?_getD, hi]; rfl
  have := mon15_ok i hi2
  rw [e] at this
  unfold monB at this
  simp only [Bool.and_eq_true, Bool.not_eq_true', decide_eq_true_eq] at this
  obtain ⟨h0, h1, h2, h3, h4, h5, h6, h7, h8⟩ := this
  exact ⟨i, hi2, e.symm, ⟨h0, h1, h2, h3⟩, h4, ⟨h6, fun s hs => List.all_eq_true.mp h5 s hs⟩, ascii_lit h7, h8⟩
/-- drawn right tokens -/
structure G15 (a b c d : Str) (hh mm ss dd yy : Nat) : Prop where
  ea : tl a = timeL (numL hh) (numL mm) (48 :: numL ss)
  h1 : hh < 24
  h2 : mm < 60
  h3 : ss < 10
  eb : tl b = numL dd
  h4 : 1 ≤ dd ∧ dd ≤ 28
  ec : c ∈ mon15
  ed : tl d = numL yy
  h5 : 1601 ≤ yy ∧ yy ≤ 9999
theorem sec_ok : ∀ n, n < 10 → digB (48 :: numL n) = true ∧ (48 :: numL n).length ≤ 2 ∧ valL (48 :: numL n) = n := by
  have : ∀ n, n < 10 → (digB (48 :: numL n) && (decide ((48 :: numL n).length ≤ 2) && decide (NumText.digitsVal (48 :: numL n) = n))) = true := by decide +kernel
  intro n hn
  have := this n hn
  simp only [Bool.and_eq_true, decide_eq_true_eq] at this
  exact ⟨this.1, this.2.1, by unfold valL; rw [this.2.2]⟩
theorem dom_ge (y : Int) {m : Nat} (h1 : 1 ≤ m) (h2 : m ≤ 12) : 28 ≤ domI y m := by
  have key : ∀ i, i < 12 → (28 : Int) ≤ monD.getD i 0 := by decide
  unfold domI
  split
  · omega
  · exact key (m - 1) (by omega)
theorem year4 {l : List Nat} (h : l.length = 4) : yearI l = valL l := by unfold yearI; rw [if_pos (by omega)]
theorem G15.facts {a b c d : Str} {hh mm ss dd yy : Nat} (g : G15 a b c d hh mm ss dd yy) : KT (tl a) ∧ KD (tl b) ∧ KM (tl c) ∧ KY (tl d) ∧ (tokOk (tl a) ∧ tokOk (tl b) ∧ tokOk (tl c) ∧ tokOk (tl d)) ∧ yearI (tl d) = yy ∧ ∃ n, tickI (tl a) (tl b) (tl c) (tl d) = some n := by
  obtain ⟨a1, a2, a3⟩ := num2 (n := hh) (by have := g.h1; omega)
  obtain ⟨b1, b2, b3⟩ := num2 (n := mm) (by have := g.h2; omega)
  obtain ⟨c1, c2, c3⟩ := sec_ok ss g.h3
  obtain ⟨d1, d2, d3⟩ := num2 (n := dd) (by have := g.h4; omega)
  obtain ⟨e1, e2, e3⟩ := num4 (n := yy) (by have := g.h5; omega) (by have := g.h5; omega)
  obtain ⟨i, hi, _, km, em, tm, _⟩ := mon15_at g.ec
  obtain ⟨kt, tt⟩ := KT_of a1 b1 c1 a2 b2 c2
  have yv : yearI (tl d) = yy := by rw [g.ed, year4 e2, e3]
  refine ⟨by rw [g.ea]; exact kt, by rw [g.eb]; exact KD_of d1 d2, km, by rw [g.ed]; exact KY_of e1 e2, ⟨by rw [g.ea]; exact tt, by rw [g.eb]; exact dig_tok d1, tm, by rw [g.ed]; exact dig_tok e1⟩, yv, ?_⟩
  rw [g.ea, tick_of a1 b1 c1, yv, g.eb, d3, a3, b3, c3]
  have h1 := g.h1
  have h2 := g.h2
  have h3 := g.h3
  have h4 := g.h4
  have h5 := g.h5
  have hd := dom_ge (yy : Int) (m := monI (tl c)) (by omega) (by omega)
  rw [if_neg (by omega), if_neg (by omega)]
  split
  · exact ⟨_, rfl⟩
  · exact ⟨_, rfl⟩
end Kb
namespace Kb
open PySem PySem.Spec PyProof.Rows L2 TL
/-- a tuple as the target of a comprehension: the kit's frame is named -/
theorem pg_tupB {X : Cx} {pos : Pos} {es : List Expr} {k : Nat} {t : TGs} {n : Nat} (K' : PySem.W.Frag) (hK : X.K = K') (hc : X.calm = true) (h : PGs X es t)
    (hn : (assignEach es X.env).length = n := by rfl) (hst : (assignEach es X.env).findIdx? (·.1) = none := by rfl) : PG X (.Tuple es k pos) (gTup K' n t) := by
  subst hK
  exact pg_tup hc h hn hst
end Kb
namespace Kb
open PySem PySem.Spec PyProof.Rows L2 TL
section
variable {K : PySem.W.Frag} {a : Addr} {xs : List V}
/-- a comprehension over enumerate(list) -/
theorem lc_enum {g : TG} {tt : TT} {te : TE} {vs : List Nat} {σ : L2.St} {H1 : Hp} {D : Addr} {Qd : Hp → Prop} (Pv : Nat → Hp → Prop) (h0 : Pv 0 (upd H1 D (.lst []))) (hG : ∀ i H, i ≤ xs.length → Pv i H → SqL K H a xs)
    (hs : ∀ i x T H, xs[i]? = some x → Pv i H → H T = none → g (.ref T) (wipe σ vs) (upd H T (.tup [.int (i : Nat), x])) fun σ2 H2 => wipe σ2 vs = wipe σ vs ∧ tt σ2 H2 fun b H3 =>
      if b = true then te σ2 H3 fun y H4 => ∃ acc, H4 D = some (.lst acc) ∧ acc.length < sizeLine ∧ Pv (i + 1) (upd H4 D (.lst (acc ++ [y]))) else Pv (i + 1) H3) (hd : ∀ H, Pv xs.length H → Qd H) :
    ∃ W : Nat → Nat → Hp → Prop, (∃ m, W 0 m (upd H1 D (.lst []))) ∧ ∀ i m H, W i m H →
      ((Ite K a).stop i H ∧ Qd H) ∨ ((Ite K a).go i H ∧ ∃ Nx : Hp → Prop, (∀ H', Nx H' → ∃ m', m' < m ∧ W (i + 1) m' H') ∧ ∀ x H', (Ite K a).yld i H x H' → g x (wipe σ vs) H' fun σ2 H2 => wipe σ2 vs = wipe σ vs ∧ tt σ2 H2 fun b H3 =>
        if b = true then te σ2 H3 fun y H4 => ∃ acc, H4 D = some (.lst acc) ∧ acc.length < sizeLine ∧ Nx (upd H4 D (.lst (acc ++ [y]))) else Nx H3) := by
  refine lc_it walk_enum Pv h0 hG (fun i x H H' hi p y => ?_) hd
  obtain ⟨T, x, y, rfl, hT, rfl, h1, h2⟩ := y
  cases h1
  exact hs i y T H h2 p hT
end
end Kb
namespace Kb
open PySem PySem.Spec PyProof.Rows L2 TL
/-! ### tokens out of their range -/
def low3 (c : Str) : Str := cutS (Txt.lower c) none (some 3)
def mon30 : List Str := ["apr", "jun", "sep", "nov"]
def lowB (i : Nat) : Bool := (decide (low3 (mon15.getD i "") ∈ mon30) == decide (i ∈ [3, 5, 8, 10])) && ((decide (low3 (mon15.getD i "") = ("feb" : Str)) == decide (i = 1)) && decide ((mon15.getD i "").length ≤ 100))
theorem low_ok : ∀ i, i < 12 → lowB i = true := by decide +kernel
theorem most_dom (y : Int) : ∀ i, i < 12 → (if i = 1 then 28 + (if leapB y = true then 1 else 0) else if i ∈ [3, 5, 8, 10] then 30 else 31 : Int) = domI y (i + 1) := by
  intro i hi
  by_cases h1 : i = 1
  · subst h1
    unfold domI
    cases leapB y <;> decide
  · have key : ∀ i, i < 12 → i ≠ 1 → (if i ∈ [3, 5, 8, 10] then 30 else 31 : Int) = monD.getD i 0 := by decide
    rw [if_neg h1, key i hi h1]
    unfold domI
    rw [if_neg (by omega)]; rfl
theorem most_ok {c : Str} (h : c ∈ mon15) : (Txt.lower c).length ≤ 1000 ∧ ∃ q f : Bool, decide (low3 c ∈ mon30) = q ∧ decide (V.str (low3 c) = V.str "feb") = f ∧ ∀ y, (if f = true then 28 + (if leapB y = true then 1 else 0) else if q = true then 30 else 31 : Int) = domI y (monI (tl c)) := by
  obtain ⟨i, hi, e, _, em, _, ac, lc⟩ := mon15_at h
  have := low_ok i hi
  unfold lowB at this
  rw [← e] at this
  simp only [Bool.and_eq_true, beq_iff_eq, decide_eq_true_eq] at this
  obtain ⟨h1, h2, _⟩ := this
  refine ⟨by rw [len_tl, lower_tl ac, List.length_map, ← len_tl]; omega, _, decide (i = 1), h1, ?_, fun y => ?_⟩
  · rw [← h2, Bool.eq_iff_iff, decide_eq_true_eq, decide_eq_true_eq, V.str.injEq]
  · rw [em, ← most_dom y i hi]
    simp only [decide_eq_true_eq]
def Bey (a b c e : Str) (i : Nat) (x : Str) : Prop := tokOk (tl x) ∧ x.length ≤ 10 ∧ ascii x ∧
  ((i = 0 ∧ KT (tl x) ∧ tickI (tl x) (tl b) (tl c) (tl e) = none) ∨ (i = 1 ∧ KD (tl x) ∧ tickI (tl a) (tl x) (tl c) (tl e) = none) ∨ (i = 3 ∧ KY (tl x) ∧ tickI (tl a) (tl b) (tl c) (tl x) = none))
theorem low3_len (c : Str) : (low3 c).length ≤ 3 := by
  have := cut_len (x := Txt.lower c) (lo := none) (hi := some 3)
  rw [len_tl]
  unfold low3
  rw [cutS_to _ (by decide)]
  show ((tl (Txt.lower c)).take 3).length ≤ 3
  rw [List.length_take]; omega
theorem dig_ascii {l : List Nat} (h : digB l = true) : ∀ s ∈ l, s < 128 := fun s hs => by have := (digB_iff.mp h).1 s hs; omega
theorem time_ascii {p q r : List Nat} (hp : digB p = true) (hq : digB q = true) (hr : digB r = true) : ∀ s ∈ timeL p q r, s < 128 := fun s hs => by
  have hs : s ∈ p ++ ([58] ++ (q ++ ([58] ++ r))) := hs
  simp only [List.mem_append, List.mem_singleton] at hs
  rcases hs with h | rfl | h | rfl | h
  · exact dig_ascii hp s h
  · decide
  · exact dig_ascii hq s h
  · decide
  · exact dig_ascii hr s h
theorem bey_time {a b c e x : Str} {p q r : List Nat} (hp : digB p = true) (hq : digB q = true) (hr : digB r = true) (lp : p.length ≤ 2) (lq : q.length ≤ 2) (lr : r.length ≤ 2) (bad : 23 < valL p ∨ 59 < valL q ∨ 59 < valL r) (et : tl x = timeL p q r) : Bey a b c e 0 x := by
  obtain ⟨kt, tt⟩ := KT_of hp hq hr lp lq lr
  refine ⟨by rw [et]; exact tt, ?_, fun s hs => time_ascii hp hq hr s (by rw [← et]; exact hs), .inl ⟨rfl, by rw [et]; exact kt, ?_⟩⟩
  · rw [len_tl, et]
    show (p ++ ([58] ++ (q ++ ([58] ++ r)))).length ≤ 10
    simp only [List.length_append, List.length_singleton]
    omega
  · rw [et, tick_of hp hq hr, if_pos (by omega)]
theorem bey_day {a b c e x : Str} {hh mm ss dd yy : Nat} (g : G15 a b c e hh mm ss dd yy) (hx : digB (tl x) = true) (lx : (tl x).length ≤ 2) (bad : valL (tl x) < 1 ∨ domI (yy : Int) (monI (tl c)) < valL (tl x)) : Bey a b c e 1 x := by
  obtain ⟨a1, _⟩ := num2 (n := hh) (by have := g.h1; omega)
  obtain ⟨b1, _⟩ := num2 (n := mm) (by have := g.h2; omega)
  obtain ⟨c1, _⟩ := sec_ok ss g.h3
  obtain ⟨_, _, _, _, _, yv, _⟩ := g.facts
  refine ⟨dig_tok hx, by rw [len_tl]; omega, fun s hs => dig_ascii hx s hs, .inr (.inl ⟨rfl, KD_of hx lx, ?_⟩)⟩
  rw [g.ea, tick_of a1 b1 c1, yv]
  split
  · rfl
  · rw [if_pos (by omega)]
theorem bey_year {a b c e x : Str} {hh mm ss dd yy : Nat} (g : G15 a b c e hh mm ss dd yy) (hx : digB (tl x) = true) (lx : (tl x).length = 4) (bad : valL (tl x) < 1601) : Bey a b c e 3 x := by
  obtain ⟨a1, _⟩ := num2 (n := hh) (by have := g.h1; omega)
  obtain ⟨b1, _⟩ := num2 (n := mm) (by have := g.h2; omega)
  obtain ⟨c1, _⟩ := sec_ok ss g.h3
  refine ⟨dig_tok hx, by rw [len_tl]; omega, fun s hs => dig_ascii hx s hs, .inr (.inr ⟨rfl, KY_of hx lx, ?_⟩)⟩
  rw [g.ea, tick_of a1 b1 c1, year4 lx, if_pos (by omega)]
end Kb
namespace Kb
open PySem PySem.Spec PyProof.Rows L2 TL
theorem dom_le (y : Int) {m : Nat} (h1 : 1 ≤ m) (h2 : m ≤ 12) : domI y m ≤ 31 := by
  have key : ∀ i, i < 12 → monD.getD i 0 ≤ (31 : Int) := by decide
  unfold domI
  split
  · omega
  · exact key (m - 1) (by omega)
theorem nlog (m : Nat) (h : m < 20000) : ((m : Nat) : Int).natAbs.log2 < 1920 := by
  have : ((m : Nat) : Int).natAbs < 2 ^ 15 := by rw [Int.natAbs_natCast]; omega
  exact Nat.lt_of_lt_of_le (PySem.Flt.log2_lt_of (by decide) this) (by decide)
end Kb
namespace Kb
open PySem PySem.Spec PyProof.Rows L2 TL
/-! ### tokens of another form -/
def othL : List (List Str) := [["8:49", "1:2:3:4", "108:49:37", "8::37", ":1:1", "8:49:", "8:049:7", "8:49:37a", "8:49:37:", ":8:49:37", "a8:49:37", "8:4:9pm"], ["6th", "x6", "123", "1a", "006", "1st"],
  ["no", "nv", "nov1", "jannn0", "j", "xyz", "ma", "1ov", "sunday"], ["199", "19945", "1", "1994a", "x1994", "199400"]]
def othB (i : Nat) (x : Str) : Bool := (tl x).all tokB && (decide (tl x ≠ []) && (decide (x.length ≤ 10) && ((tl x).all (· < 128) && (!fits 0 (tl x) && (!fits 2 (tl x) && (!fits 3 (tl x) && (decide (i = 3) || !fits 1 (tl x))))))))
theorem oth_ok : ∀ i, i < 4 → ∀ x ∈ othL.getD i [], othB i x = true := by decide +kernel
structure Oth (i : Nat) (x : Str) : Prop where
  tok : tokOk (tl x)
  len : x.length ≤ 10
  asc : ascii x
  x0 : fits 0 (tl x) = false
  x2 : fits 2 (tl x) = false
  x3 : fits 3 (tl x) = false
  x1 : i = 3 ∨ fits 1 (tl x) = false
theorem oth_of {i : Nat} (hi : i < 4) {x : Str} (hx : x ∈ othL.getD i []) : Oth i x := by
  have := oth_ok i hi x hx
  unfold othB at this
  simp only [Bool.and_eq_true, Bool.or_eq_true, Bool.not_eq_true', decide_eq_true_eq] at this
  obtain ⟨h1, h2, h3, h4, h5, h6, h7, h8⟩ := this
  exact ⟨⟨h2, fun s hs => List.all_eq_true.mp h1 s hs⟩, h3, ascii_lit h4, h5, h6, h7, h8⟩
end Kb
namespace Kb
open PySem PySem.Spec PyProof.Rows L2 TL
/-- a token of a short joined text -/
structure Tk (t : Str) : Prop where
  tok : tokOk (tl t)
  asc : ascii t
  len : t.length ≤ 40
theorem Bey.tk {a b c e x : Str} {i : Nat} (h : Bey a b c e i x) : Tk x := ⟨h.1, h.2.2.1, by have := h.2.1; omega⟩
theorem Oth.tk {i : Nat} {x : Str} (h : Oth i x) : Tk x := ⟨h.tok, h.asc, by have := h.len; omega⟩
theorem G15.tks {a b c d : Str} {hh mm ss dd yy : Nat} (g : G15 a b c d hh mm ss dd yy) : ∀ t ∈ [a, b, c, d], Tk t ∧ t.length ≤ 10 := by
  obtain ⟨a1, a2, _⟩ := num2 (n := hh) (by have := g.h1; omega)
  obtain ⟨b1, b2, _⟩ := num2 (n := mm) (by have := g.h2; omega)
  obtain ⟨c1, c2, _⟩ := sec_ok ss g.h3
  obtain ⟨d1, d2, _⟩ := num2 (n := dd) (by have := g.h4; omega)
  obtain ⟨e1, e2, _⟩ := num4 (n := yy) (by have := g.h5; omega) (by have := g.h5; omega)
  obtain ⟨i, hi, _, km, em, tm, ac, lc⟩ := mon15_at g.ec
  obtain ⟨kt, tt⟩ := KT_of a1 b1 c1 a2 b2 c2
  intro t ht
  simp only [List.mem_cons, List.not_mem_nil, or_false] at ht
  rcases ht with rfl | rfl | rfl | rfl
  · have l : t.length ≤ 8 := by
      rw [len_tl, g.ea]
      show (numL hh ++ ([58] ++ (numL mm ++ ([58] ++ (48 :: numL ss))))).length ≤ 8
      simp only [List.length_append, List.length_singleton, List.length_cons, List.length_nil] at c2 ⊢
      omega
    exact ⟨⟨by rw [g.ea]; exact tt, fun s hs => time_ascii a1 b1 c1 s (by rw [← g.ea]; exact hs), by omega⟩, by omega⟩
  · have l : t.length ≤ 2 := by rw [len_tl, g.eb]; exact d2
    exact ⟨⟨by rw [g.eb]; exact dig_tok d1, fun s hs => dig_ascii d1 s (by rw [← g.eb]; exact hs), by omega⟩, by omega⟩
  · exact ⟨⟨tm, ac, by omega⟩, lc⟩
  · have l : t.length = 4 := by rw [len_tl, g.ed]; exact e2
    exact ⟨⟨by rw [g.ed]; exact dig_tok e1, fun s hs => dig_ascii e1 s (by rw [← g.ed]; exact hs), by omega⟩, by omega⟩
def sig15 : List Str := [" ", "-", ", ", "/"]
def sigB (s : Str) : Bool := decide (tl s ≠ []) && ((tl s).all (fun c => !tokB c && decide (c < 128)) && decide (s.length ≤ 2))
structure Sg (s : Str) : Prop where
  ne : tl s ≠ []
  no : ∀ c ∈ tl s, tokB c = false
  asc : ascii s
  len : s.length ≤ 2
theorem sg_of : ∀ {s : Str}, s ∈ sig15 → Sg s := by
  have key : ∀ s ∈ sig15, sigB s = true := by decide +kernel
  intro s hs
  have := key s hs
  unfold sigB at this
  simp only [Bool.and_eq_true, decide_eq_true_eq, List.all_eq_true, Bool.not_eq_true'] at this
  exact ⟨this.1, fun c hc => (this.2.1 c hc).1, fun c hc => (this.2.1 c hc).2, this.2.2⟩
theorem join_ascii {s : Str} {T : List Str} (hs : ascii s) (hT : ∀ t ∈ T, ascii t) : ascii (Txt.join s T) := by
  have : ∀ T : List Str, (∀ t ∈ T, ascii t) → ∀ c ∈ joinL (tl s) (T.map tl), c < 128 := by
    intro T
    induction T with
    | nil => intro _ c hc; cases hc
    | cons t r ih =>
      intro h c hc
      cases r with
      | nil => exact h t (List.mem_cons_self ..) c hc
      | cons u r =>
        have hc : c ∈ tl t ++ (tl s ++ joinL (tl s) ((u :: r).map tl)) := hc
        rcases List.mem_append.mp hc with q | q
        · exact h t (List.mem_cons_self ..) c q
        · rcases List.mem_append.mp q with q | q
          · exact hs c q
          · exact ih (fun x hx => h x (List.mem_cons_of_mem _ hx)) c q
  intro c hc
  rw [join_tl] at hc
  exact this T hT c hc
/-- what is joined is short -/
theorem join_len {s : Str} {T : List Str} (hs : s.length ≤ 2) (hT : ∀ t ∈ T, t.length ≤ 40) (n : T.length ≤ 20) : (T.map (·.length)).sum + T.length * s.length ≤ 1000 ∧ (Txt.join s T).length ≤ 1000 := by
  have h1 : (T.map (·.length)).sum ≤ T.length * 40 := PySem.StrLaws.sumLen_le (B := 40) T hT
  have h2 : T.length * s.length ≤ T.length * 2 := Nat.mul_le_mul_left _ hs
  have h3 : ∀ T : List Str, (joinL (tl s) (T.map tl)).length ≤ (T.map (·.length)).sum + T.length * s.length := by
    intro T
    induction T with
    | nil => exact Nat.zero_le _
    | cons t r ih =>
      cases r with
      | nil =>
        show (tl t).length ≤ (t.length + 0) + 1 * s.length
        rw [← len_tl]; omega
      | cons u r =>
        show (tl t ++ (tl s ++ joinL (tl s) ((u :: r).map tl))).length ≤ _
        rw [List.length_append, List.length_append, ← len_tl, ← len_tl, List.map_cons (l := u :: r), List.sum_cons, List.length_cons, Nat.succ_mul]
        omega
  have h4 := h3 T
  have h5 : (Txt.join s T).length = (joinL (tl s) (T.map tl)).length := by rw [len_tl, join_tl]
  omega
end Kb
namespace Kb
open PySem PySem.Spec PyProof.Rows L2 TL
def some15 : List Str := ["", " ", "GMT", "1", "31 feb 2000 1:1:1", "29 feb 1900 1:1:1", "29 feb 2100 1:1:1", "30 feb 2024 0:0:0", "6 nov 94 8:49:37:", "6th nov 1994 8:49:37"]
theorem some15_ok : ∀ s ∈ some15, s.length ≤ 100 ∧ (tl s).all (· < 128) = true ∧ dateR (tl s) = none := by decide +kernel
theorem leap15 : dateR (tl ("29 feb 2000 0:0:0" : Str)) = some 951782400 := by decide +kernel
end Kb

namespace Kb
open PySem PySem.Spec PyProof.Rows L2 TL
/-! ### the calendar -/
def ydI (y : Int) : Int := if leapB y = true then 366 else 365
theorem leap_iff (y : Int) : leapB y = true ↔ y % 4 = 0 ∧ (y % 100 ≠ 0 ∨ y % 400 = 0) := by
  unfold leapB
  simp only [Bool.and_eq_true, Bool.or_eq_true, decide_eq_true_eq]
theorem dto_succ (y : Int) : dtoI (y + 1) = dtoI y + ydI y := by
  unfold dtoI ydI
  by_cases h : leapB y = true
  · rw [if_pos h]
    rw [leap_iff] at h
    omega
  · rw [if_neg h]
    rw [leap_iff] at h
    omega
theorem dto_400 (y r : Int) : dtoI (y + 400 * r) = dtoI y + 146097 * r := by
  unfold dtoI
  omega
theorem dto_years (a : Int) : ∀ n : Nat, ((List.range n).map fun i => ydI (a + (i : Nat))).sum = dtoI (a + (n : Nat)) - dtoI a
  | 0 => by simp
  | n + 1 => by
    rw [List.range_succ, List.map_append, List.sum_append, dto_years a n]
    have := dto_succ (a + (n : Nat))
    simp only [List.map_cons, List.map_nil, List.sum_cons, List.sum_nil]
    rw [show a + ((n + 1 : Nat) : Int) = a + (n : Nat) + 1 by omega, this]
    omega
theorem dto_base : dtoI 1970 - dtoI 1601 = 134774 := by decide
/-- the law's count of the days before a year -/
theorem dto_walk {y : Int} (h : 1601 ≤ y) : 146097 * ((y - 1601) / 400) + ((List.range (y - (1601 + 400 * ((y - 1601) / 400))).toNat).map fun i => ydI (1601 + 400 * ((y - 1601) / 400) + (i : Nat))).sum - 134774 = dbfI y := by
  rw [dto_years, dto_400]
  have h2 : 1601 + 400 * ((y - 1601) / 400) + ((y - (1601 + 400 * ((y - 1601) / 400))).toNat : Int) = y := by omega
  rw [h2]
  unfold dbfI
  have := dto_base
  omega
def monsI (y : Int) : List Int := [31, 28 + (if leapB y = true then 1 else 0), 31, 30, 31, 30, 31, 31, 30, 31, 30, 31]
theorem mons_at (y : Int) : ∀ i, i < 12 → (monsI y)[i]? = some (domI y (i + 1)) := by
  intro i hi
  unfold monsI domI
  by_cases h1 : i = 1
  · subst h1
    cases leapB y <;> rfl
  · have hd : (if i + 1 = 2 ∧ leapB y = true then 29 else monD.getD (i + 1 - 1) 0 : Int) = monD.getD i 0 := if_neg fun h => h1 (by omega)
    rw [hd]
    have key : ∀ i, i < 12 → i ≠ 1 → ∀ x : Int, ([31, x, 31, 30, 31, 30, 31, 31, 30, 31, 30, 31] : List Int)[i]? = some (monD.getD i 0) := by
      intro i hi h1 x
      match i, hi, h1 with
      | 0, _, _ => rfl
      | 2, _, _ => rfl
      | 3, _, _ => rfl
      | 4, _, _ => rfl
      | 5, _, _ => rfl
      | 6, _, _ => rfl
      | 7, _, _ => rfl
      | 8, _, _ => rfl
      | 9, _, _ => rfl
      | 10, _, _ => rfl
      | 11, _, _ => rfl
    exact key i hi h1 _
theorem mons_take (y : Int) : ∀ k, k ≤ 12 → ((monsI y).take k).sum = ((List.range k).map fun i => domI y (i + 1)).sum
  | 0, _ => rfl
  | k + 1, hk => by
    rw [List.take_succ, mons_at y k (by omega), List.range_succ, List.map_append, List.sum_append, List.sum_append, mons_take y k (by omega)]
    rfl
theorem mons_dbm (y : Int) {m : Nat} (h : m ≤ 13) : ((monsI y).take (m - 1)).sum = dbmI y m := mons_take y (m - 1) (by omega)
end Kb
namespace Kb
open PySem PySem.Spec PyProof.Rows L2 TL
theorem dpAll_nats {K : PySem.W.Frag} {H : Hp} : ∀ ns : List Nat, DpAll K H (ns.map fun n : Nat => V.int (n : Int)) (ns.map fun n : Nat => PyData.int (n : Int))
  | [] => .nil
  | n :: ns => .cons (.int _) (dpAll_nats ns)
theorem nats_eqv : ∀ ns : List Nat, PyData.eqv (.list (ns.map fun n : Nat => PyData.int (n : Int))) (.list []) = decide (ns = [])
  | [] => by simp [PyData.eqv, PyData.eqvAll]
  | n :: ns => by simp [PyData.eqv, PyData.eqvAll]
theorem lay_nats : ∀ ns : List Nat, PyData.canLayAll0 (ns.map fun n : Nat => PyData.int (n : Int)) = true ∧ PyData.depthAll (ns.map fun n : Nat => PyData.int (n : Int)) = 0
  | [] => by simp [PyData.canLayAll0, PyData.depthAll]
  | n :: ns => by
    obtain ⟨h1, h2⟩ := lay_nats ns
    rw [List.map_cons, PyData.canLayAll0, PyData.depthAll, h1, h2]
    simp [PyData.canLay0, PyData.depth]
theorem shaped_nats (ns : List Nat) : SeqAt.shaped (.list (ns.map fun n : Nat => PyData.int (n : Int))) = true := by
  obtain ⟨h1, h2⟩ := lay_nats ns
  unfold SeqAt.shaped
  rw [PyData.canLay0, h1, PyData.depth, h2]; rfl
end Kb
namespace Kb
open PySem PySem.Spec PyProof.Rows L2 TL
theorem perm_erase {α : Type} : ∀ (l : List α) (i : Nat) (h : i < l.length), (l[i] :: l.eraseIdx i).Perm l
  | x :: l, 0, _ => List.Perm.refl _
  | x :: l, i + 1, h => by
    have h : i < l.length := by simpa using h
    have ih := perm_erase l i h
    show (l[i] :: x :: l.eraseIdx i).Perm (x :: l)
    exact (List.Perm.swap x l[i] _).trans (List.Perm.cons x ih)
theorem ixN_nat {n i : Nat} (h : i < n) : ixN n (i : Int) = some i := by
  unfold ixN
  rw [if_pos (by omega), if_pos (by omega), Int.toNat_natCast]
end Kb
namespace Kb
open PySem PySem.Spec PyProof.Rows L2 TL
theorem erase_map {α β : Type} (f : α → β) : ∀ (l : List α) (i : Nat), (l.map f).eraseIdx i = (l.eraseIdx i).map f
  | [], _ => rfl
  | _ :: _, 0 => rfl
  | x :: l, i + 1 => by
    show f x :: (l.map f).eraseIdx i = f x :: (l.eraseIdx i).map f
    rw [erase_map f l i]
theorem first_at {a : Nat} : ∀ {l : List Nat}, a ∈ l → ∃ j : Nat, l[j]? = some a ∧ ∀ (m z : Nat), m < j → l[m]? = some z → z ≠ a
  | [], h => by cases h
  | x :: l, h => by
    by_cases e : x = a
    · exact ⟨0, by rw [e]; rfl, fun m z hm _ => absurd hm (Nat.not_lt_zero m)⟩
    · obtain ⟨j, h1, h2⟩ := first_at (a := a) (l := l) ((List.mem_cons.mp h).resolve_left fun z => e z.symm)
      refine ⟨j + 1, h1, fun m z hm hz => ?_⟩
      cases m with
      | zero =>
        cases (show some x = some z from hz)
        exact e
      | succ m => exact h2 m z (by omega) hz
end Kb
namespace Kb
open PySem PySem.Spec PyProof.Rows L2 TL
theorem perm_set0 {α : Type} {a b : α} : ∀ {l : List α} {j : Nat}, l[j]? = some b → (b :: l.set j a).Perm (a :: l)
  | [], j, h => by cases h
  | x :: l, 0, h => by
    cases (show some x = some b from h)
    exact List.Perm.swap ..
  | x :: l, j + 1, h => by
    have ih := perm_set0 (a := a) (b := b) (l := l) (j := j) h
    show (b :: x :: l.set j a).Perm (a :: x :: l)
    exact ((List.Perm.swap ..).trans (List.Perm.cons x ih)).trans (List.Perm.swap ..)
theorem perm_swap {α : Type} {a b : α} : ∀ {l : List α} {i j : Nat}, i < j → l[i]? = some a → l[j]? = some b → ((l.set j a).set i b).Perm l
  | [], i, j, _, h, _ => by cases h
  | x :: l, 0, j + 1, _, h1, h2 => by
    have e : x = a := Option.some.inj h1
    rw [e]
    show (b :: l.set j a).Perm (a :: l)
    exact perm_set0 h2
  | x :: l, i + 1, j + 1, hij, h1, h2 => by
    show (x :: ((l.set j a).set i b)).Perm (x :: l)
    exact List.Perm.cons x (perm_swap (by omega) h1 h2)
end Kb
namespace Kb
open PySem PySem.Spec PyProof.Rows L2 TL
theorem monB_facts {i : Nat} {c : Str} (h : monB i c = true) : KM (tl c) ∧ monI (tl c) = i + 1 ∧ tokOk (tl c) ∧ ascii c ∧ c.length ≤ 10 := by
  unfold monB at h
  simp only [Bool.and_eq_true, Bool.not_eq_true', decide_eq_true_eq] at h
  obtain ⟨h0, h1, h2, h3, h4, h5, h6, h7, h8⟩ := h
  exact ⟨⟨h0, h1, h2, h3⟩, h4, ⟨h6, fun s hs => List.all_eq_true.mp h5 s hs⟩, ascii_lit h7, h8⟩
def mon12 : List Str := ["january", "february", "march", "april", "may", "june", "july", "august", "september", "october", "november", "december"]
def vars1 (w : Str) : List Str := [w, cutS w none (some 3), cutS w none (some 3), cutS w none (some 4), cutS w none (some 3) ++ ("xyz" : Str)]
def vars2 (w : Str) : List Str := [w, Txt.upper w, cutS (Txt.upper w) none (some 1) ++ cutS w (some 1) none, cutS (Txt.upper w) none (some 1) ++ cutS w (some 1) (some 2) ++ cutS (Txt.upper w) (some 2) none]
def vars3 (w : Str) : Str := cutS w none (some 2) ++ Txt.upper (cutS w (some 2) none)
theorem vars_ok : ∀ i, i < 12 → ∀ w ∈ vars1 (mon12.getD i ""), w.length ≤ 10 ∧ (Txt.upper w).length ≤ 10 ∧ (Txt.upper (cutS w (some 2) none)).length ≤ 10 ∧ monB i (vars3 w) = true ∧ ∀ x ∈ vars2 w, monB i x = true := by decide +kernel
end Kb
namespace Kb
open PySem PySem.Spec PyProof.Rows L2 TL
def yrB (n : Nat) : Bool := digB ((numL (1970 + n)).drop 2) && (decide (((numL (1970 + n)).drop 2).length = 2) && decide (yearI ((numL (1970 + n)).drop 2) = (1970 + n : Nat)))
theorem yr_ok : ∀ n, n < 100 → yrB n = true := by decide +kernel
theorem yr2 {y : Nat} (h1 : 1970 ≤ y) (h2 : y ≤ 2069) : digB ((numL y).drop 2) = true ∧ ((numL y).drop 2).length = 2 ∧ yearI ((numL y).drop 2) = (y : Nat) := by
  have := yr_ok (y - 1970) (by omega)
  unfold yrB at this
  rw [show 1970 + (y - 1970) = y by omega] at this
  simp only [Bool.and_eq_true, decide_eq_true_eq] at this
  exact ⟨this.1, this.2.1, this.2.2⟩
end Kb
namespace Kb
open PySem PySem.Spec PyProof.Rows L2 TL
/-! ### texts with tokens between other signs -/
/-- L ends no token: its tokens are T whatever stands behind -/
def Clo (L : List Nat) (T : List (List Nat)) : Prop := ∀ R, toks [] (L ++ R) = T ++ toks [] R
theorem Clo.nil : Clo [] [] := fun R => rfl
theorem Clo.app {L M : List Nat} {T U : List (List Nat)} (a : Clo L T) (b : Clo M U) : Clo (L ++ M) (T ++ U) := fun R => by
  rw [List.append_assoc, a, b, List.append_assoc]
theorem Clo.tok {t s : List Nat} (ht : tokOk t) (hs : s ≠ []) (h : ∀ c ∈ s, tokB c = false) : Clo (t ++ s) [t] := fun R => by
  rw [List.append_assoc, toks_run t [] _ ht.2, List.nil_append, toks_sep ht.1 hs h]; rfl
theorem Clo.sep {s : List Nat} (h : ∀ c ∈ s, tokB c = false) : Clo s [] := fun R => by rw [toks_skip s R h]; rfl
theorem Clo.sp {t : List Nat} (ht : tokOk t) : Clo (t ++ [32]) [t] := Clo.tok ht (by simp) (by decide +kernel)
def idleB (l : List Nat) : Bool := !fits 0 l && (!fits 1 l && (!fits 2 l && !fits 3 l))
def sign14 : List Str := [" ", "-", ", ", "/", "  ", "\t", " (", ")", "_", ".", "+", "=", ";", "\n", " '", "\"", "[", "]", "#", "&", "@", "~", "\\", "|", "<", "?!", "$", "{}", "`^", "*"]
def pre14 : List Str := ["", " ", "Sun, ", "(", "xyz "]
def idle14 : List Str := ["", "", "", "GMT ", "123 ", "12:30 ", "no ", "a1 ", "1:2:3:4 ", ": ", "Mon "]
def end14 : List Str := ["", "GMT", "GMT", "8:8:8 7 May 1999", "5", "99 99", "utc 25:61:61"]
def sg14B (s : Str) : Bool := decide (tl s ≠ []) && ((tl s).all (fun c => !tokB c && decide (c < 128)) && decide (s.length ≤ 3))
theorem sg14_ok : ∀ s ∈ sign14, sg14B s = true := by decide +kernel
theorem sg14 {s : Str} (h : s ∈ sign14) : tl s ≠ [] ∧ (∀ c ∈ tl s, tokB c = false) ∧ ascii s ∧ s.length ≤ 3 := by
  have := sg14_ok s h
  unfold sg14B at this
  simp only [Bool.and_eq_true, decide_eq_true_eq, List.all_eq_true, Bool.not_eq_true'] at this
  exact ⟨this.1, fun c hc => (this.2.1 c hc).1, fun c hc => (this.2.1 c hc).2, this.2.2⟩
def shB (s : Str) : Bool := (tl s).all (· < 128) && decide (s.length ≤ 20)
def idlB (s : Str) : Bool := let t := (tl s).takeWhile tokB; let r := (tl s).dropWhile tokB
  (decide (t = []) && r.all (fun c => !tokB c)) || (idleB t && (!r.isEmpty && r.all (fun c => !tokB c)))
theorem idl_ok : (∀ s ∈ pre14, idlB s = true ∧ shB s = true) ∧ (∀ s ∈ idle14, idlB s = true ∧ shB s = true) ∧ (∀ s ∈ end14, shB s = true) := by decide +kernel
theorem idl {s : Str} (h : idlB s = true) : ∃ T, Clo (tl s) T ∧ ∀ t ∈ T, idleB t = true := by
  unfold idlB at h
  have e : (tl s).takeWhile tokB ++ (tl s).dropWhile tokB = tl s := List.takeWhile_append_dropWhile
  have ht : ∀ c ∈ (tl s).takeWhile tokB, tokB c = true := fun c hc => by
    have := List.all_takeWhile (p := tokB) (l := tl s)
    exact List.all_eq_true.mp this c hc
  generalize (tl s).takeWhile tokB = t at h e ht
  generalize (tl s).dropWhile tokB = r at h e
  simp only [Bool.or_eq_true, Bool.and_eq_true, decide_eq_true_eq, List.all_eq_true, Bool.not_eq_true', List.isEmpty_eq_false_iff] at h
  rw [← e]
  rcases h with ⟨rfl, h⟩ | ⟨h1, h2, h3⟩
  · exact ⟨[], Clo.sep h, fun t ht => by cases ht⟩
  · by_cases hn : t = []
    · subst hn
      exact ⟨[], Clo.sep h3, fun t ht => by cases ht⟩
    · exact ⟨[t], Clo.tok ⟨hn, ht⟩ h2 h3, fun x hx => by rw [List.mem_singleton.mp hx]; exact h1⟩
end Kb

namespace Kb
open PySem PySem.Spec PyProof.Rows L2 TL
/-! ### a date among other tokens, in any order -/
theorem step_idle {f : Fnd} {t : Str} (h : idleB (tl t) = true) : stepD f t = f := by
  unfold idleB at h
  simp only [Bool.and_eq_true, Bool.not_eq_true'] at h
  obtain ⟨h0, h1, h2, h3⟩ := h
  unfold stepD
  rw [partI_eq, h0, h1, h2, h3]
  simp
theorem fold_idle : ∀ (A : List (List Nat)) (f : Fnd), (A.map mkS).foldl stepD f = ((A.filter fun l => !idleB l).map mkS).foldl stepD f
  | [], _ => rfl
  | l :: A, f => by
    rw [List.map_cons, List.foldl_cons, List.filter_cons]
    cases h : idleB l with
    | true =>
      rw [step_idle (t := mkS l) h]
      simp only [Bool.not_true, Bool.false_eq_true, if_false]
      exact fold_idle A f
    | false =>
      simp only [Bool.not_false, if_true]
      rw [List.map_cons, List.foldl_cons]
      exact fold_idle A _
theorem step_full {f : Fnd} (h0 : hasP f 0 = true) (h1 : hasP f 1 = true) (h2 : hasP f 2 = true) (h3 : hasP f 3 = true) (t : Str) : stepD f t = f := by
  unfold stepD
  rw [partI_eq, h0, h1, h2, h3]
  simp
theorem fold_full {f : Fnd} (h0 : hasP f 0 = true) (h1 : hasP f 1 = true) (h2 : hasP f 2 = true) (h3 : hasP f 3 = true) : ∀ E : List Str, E.foldl stepD f = f
  | [] => rfl
  | t :: E => by rw [List.foldl_cons, step_full h0 h1 h2 h3 t]; exact fold_full h0 h1 h2 h3 E
def all24 : List (List Nat) := [[0,1,2,3],[0,1,3,2],[0,2,1,3],[0,2,3,1],[0,3,1,2],[0,3,2,1],[1,0,2,3],[1,0,3,2],[1,2,0,3],[1,2,3,0],[1,3,0,2],[1,3,2,0],[2,0,1,3],[2,0,3,1],[2,1,0,3],[2,1,3,0],[2,3,0,1],[2,3,1,0],[3,0,1,2],[3,0,2,1],[3,1,0,2],[3,1,2,0],[3,2,0,1],[3,2,1,0]]
theorem mem24 {o : List Nat} (h : o.Perm [0, 1, 2, 3]) : o ∈ all24 := by
  have hl : o.length = 4 := h.length_eq
  have hm : ∀ k ∈ o, k < 4 := fun k hk => by
    have := h.mem_iff.mp hk
    simp only [List.mem_cons, List.not_mem_nil, or_false] at this
    omega
  match o, hl with
  | [w, x, y, z], _ =>
    have key : ((List.range 4).all fun w => (List.range 4).all fun x => (List.range 4).all fun y => (List.range 4).all fun z => !([w, x, y, z].isPerm [0, 1, 2, 3]) || all24.contains [w, x, y, z]) = true := by decide +kernel
    simp only [List.all_eq_true, List.mem_range] at key
    have := key w (hm w (by simp)) x (hm x (by simp)) y (hm y (by simp)) z (hm z (by simp))
    rw [List.isPerm_iff.mpr h] at this
    simpa using this
structure Full (f : Fnd) (a b c e : Str) : Prop where
  len : f.length = 4
  h0 : hasP f 0 = true
  h1 : hasP f 1 = true
  h2 : hasP f 2 = true
  h3 : hasP f 3 = true
  g0 : getP f 0 = tl a
  g1 : getP f 1 = tl b
  g2 : getP f 2 = tl c
  g3 : getP f 3 = tl e
theorem run24 {a b c e : Str} (ha : KT (tl a)) (hb : KD (tl b)) (hc : KM (tl c)) (e0 : fits 0 (tl e) = false) (e2 : fits 2 (tl e) = false) (e3 : fits 3 (tl e) = true) {o : List Nat} (ho : o ∈ all24) (h : fits 1 (tl e) = true → ∃ i j : Nat, i < j ∧ o[i]? = some 1 ∧ o[j]? = some 3) :
    Full ((o.map fun k => [a, b, c, e].getD k "").foldl stepD []) a b c e := by
  obtain ⟨a0, a1, a2, a3⟩ := ha
  obtain ⟨b0, b1, b2⟩ := hb
  obtain ⟨c0, c1, c2, c3⟩ := hc
  have key : ∀ o ∈ all24, (∃ i j : Nat, i < j ∧ o[i]? = some 1 ∧ o[j]? = some 3) → o ∈ all24.filter (fun o => o.idxOf 1 < o.idxOf 3) := by
    intro o ho ⟨i, j, hij, hi, hj⟩
    have ho4 : o.length = 4 := by
      have : ∀ o ∈ all24, o.length = 4 := by decide
      exact this o ho
    have hi4 : i < 4 := by have := (List.getElem?_eq_some_iff.mp hi).1; omega
    have hj4 : j < 4 := by have := (List.getElem?_eq_some_iff.mp hj).1; omega
    have k2 : (all24.all fun o => (List.range 4).all fun i => (List.range 4).all fun j => !(decide (i < j) && (o[i]? == some 1 && o[j]? == some 3)) || (all24.filter (fun o => o.idxOf 1 < o.idxOf 3)).contains o) = true := by decide +kernel
    simp only [List.all_eq_true, List.mem_range] at k2
    have := k2 o ho i hi4 j hj4
    rw [hi, hj, decide_eq_true hij] at this
    simpa using this
  cases e1 : fits 1 (tl e) with
  | true =>
    have ho2 := key o ho (h e1)
    have e12 : all24.filter (fun o => o.idxOf 1 < o.idxOf 3) = [[0,1,2,3],[0,1,3,2],[0,2,1,3],[1,0,2,3],[1,0,3,2],[1,2,0,3],[1,2,3,0],[1,3,0,2],[1,3,2,0],[2,0,1,3],[2,1,0,3],[2,1,3,0]] := by decide +kernel
    rw [e12] at ho2
    simp only [List.mem_cons, List.not_mem_nil, or_false] at ho2
    rcases ho2 with rfl | rfl | rfl | rfl | rfl | rfl | rfl | rfl | rfl | rfl | rfl | rfl <;>
      (constructor <;> simp [stepD, partI_eq, hasP, getP, a0, a1, a2, a3, b0, b1, b2, c0, c1, c2, c3, e0, e1, e2, e3])
  | false =>
    unfold all24 at ho
    simp only [List.mem_cons, List.not_mem_nil, or_false] at ho
    rcases ho with rfl | rfl | rfl | rfl | rfl | rfl | rfl | rfl | rfl | rfl | rfl | rfl | rfl | rfl | rfl | rfl | rfl | rfl | rfl | rfl | rfl | rfl | rfl | rfl <;>
      (constructor <;> simp [stepD, partI_eq, hasP, getP, a0, a1, a2, a3, b0, b1, b2, c0, c1, c2, c3, e0, e1, e2, e3])
theorem date_of_txt {x : Str} {a b c e : Str} {o : List Nat} (ha : KT (tl a)) (hb : KD (tl b)) (hc : KM (tl c)) (e0 : fits 0 (tl e) = false) (e2 : fits 2 (tl e) = false) (e3 : fits 3 (tl e) = true) (ho : o.Perm [0, 1, 2, 3]) (h : fits 1 (tl e) = true → ∃ i j : Nat, i < j ∧ o[i]? = some 1 ∧ o[j]? = some 3)
    {A E : List (List Nat)} (hx : toks [] (tl x) = A ++ E) (hA : A.filter (fun l => !idleB l) = ((o.map fun k => [a, b, c, e].getD k "").map tl).filter (fun l => !idleB l)) : dateR (tl x) = tickI (tl a) (tl b) (tl c) (tl e) := by
  obtain ⟨hl, h0, h1, h2, h3, g0, g1, g2, g3⟩ := run24 ha hb hc e0 e2 e3 (mem24 ho) h
  have e4 : ((A ++ E).map mkS).foldl stepD [] = (o.map fun k => [a, b, c, e].getD k "").foldl stepD [] := by
    rw [List.map_append, List.foldl_append, fold_idle A [], hA, ← fold_idle]
    have em : ∀ L : List Str, (L.map tl).map mkS = L := fun L => by
      rw [List.map_map]
      conv => rhs; rw [← List.map_id L]
      exact List.map_congr_left fun t _ => mkS_tl t
    rw [em, fold_full h0 h1 h2 h3]
  unfold dateR dateF
  rw [hx, e4, if_neg (by omega), g0, g1, g2, g3]
end Kb
namespace Kb
open PySem PySem.Spec PyProof.Rows L2 TL
theorem dbm_succ (y : Int) {m : Nat} (h : 1 ≤ m) : dbmI y (m + 1) = dbmI y m + domI y m := by
  unfold dbmI
  rw [show m + 1 - 1 = (m - 1) + 1 by omega, List.range_succ, List.map_append, List.sum_append]
  simp only [List.map_cons, List.map_nil, List.sum_cons, List.sum_nil, Int.add_zero]
  rw [show m - 1 + 1 = m by omega]
theorem dbm_bounds (y : Int) : ∀ m : Nat, m < 13 → 0 ≤ dbmI y (m + 1) ∧ dbmI y (m + 1) ≤ 31 * m
  | 0, _ => by
    show 0 ≤ (0 : Int) ∧ (0 : Int) ≤ 31 * (0 : Nat)
    omega
  | m + 1, h => by
    obtain ⟨h1, h2⟩ := dbm_bounds y m (by omega)
    rw [dbm_succ y (m := m + 1) (by omega)]
    have h3 := dom_ge y (m := m + 1) (by omega) (by omega)
    have h4 := dom_le y (m := m + 1) (by omega) (by omega)
    omega
theorem dbm_13 (y : Int) : dbmI y 13 = ydI y := by
  rw [← mons_dbm y (by omega)]
  unfold monsI ydI
  cases leapB y <;> decide
theorem dbm_end (y : Int) : ∀ k : Nat, k ≤ 11 → dbmI y (13 - k) ≤ ydI y
  | 0, _ => by rw [show 13 - 0 = 13 from rfl, dbm_13]; exact Int.le_refl _
  | k + 1, h => by
    have h1 := dbm_end y k (by omega)
    have h2 := dbm_succ y (m := 13 - (k + 1)) (by omega)
    have h3 := dom_ge y (m := 13 - (k + 1)) (by omega) (by omega)
    rw [show 13 - (k + 1) + 1 = 13 - k by omega] at h2
    omega
theorem dbf_neg {y : Int} (h : y < 1970) (h1 : 1 ≤ y) : dbfI y + ydI y ≤ 0 := by
  have := dto_succ y
  have e : dtoI (y + 1) ≤ dtoI 1970 := by
    unfold dtoI
    omega
  unfold dbfI
  omega
theorem dbf_pos {y : Int} (h : 1970 ≤ y) : 0 ≤ dbfI y := by
  unfold dbfI dtoI
  omega
/-- the tick of a moment, 0 before 1970 -/
def dueI (y m dd hh mm ss : Int) : Int := max 0 (86400 * (dbfI y + dbmI y m.toNat + dd - 1) + 3600 * hh + 60 * mm + ss)
theorem tick_due {p q r d mo yr : List Nat} {y m dd hh mm ss : Int} (hp : digB p = true) (hq : digB q = true) (hr : digB r = true) (vp : valL p = hh) (vq : valL q = mm) (vr : valL r = ss) (vd : valL d = dd) (vm : (monI mo : Int) = m) (vy : yearI yr = y)
    (y1 : 1601 ≤ y) (m1 : 1 ≤ m) (m2 : m ≤ 12) (d1 : 1 ≤ dd) (d2 : dd ≤ domI y m.toNat) (h1 : 0 ≤ hh) (h2 : hh < 24) (n1 : 0 ≤ mm) (n2 : mm < 60) (s1 : 0 ≤ ss) (s2 : ss < 60) : tickI (timeL p q r) d mo yr = some (dueI y m dd hh mm ss) := by
  have em : m.toNat = monI mo := by omega
  rw [tick_of hp hq hr, vp, vq, vr, vd, vy, if_neg (by omega), ← em, if_neg (by omega)]
  have b := dbm_bounds y (m.toNat - 1) (by omega)
  rw [show m.toNat - 1 + 1 = m.toNat by omega] at b
  unfold dueI
  by_cases hy : y < 1970
  · rw [if_pos hy]
    have e1 := dbf_neg hy (by omega)
    have e2 := dbm_succ y (m := m.toNat) (by omega)
    have e3 := dbm_end y (12 - m.toNat) (by omega)
    rw [show 13 - (12 - m.toNat) = m.toNat + 1 by omega] at e3
    congr 1
    omega
  · rw [if_neg hy]
    have e1 := dbf_pos (y := y) (by omega)
    congr 1
    omega
end Kb

namespace Kb
open PySem PySem.Spec PyProof.Rows L2 PySem.Builtin PySem.W
/-! ### {n:02d}, {n:04d} -/
theorem ret_textR {M : Model} {A : Around} {E : Value → Shared → Prop} {s : Shared} {X T : Str} {Q : PySem.Fin → Shared → Prop} (e : X = T) (hl : T.length ≤ sizeLine) (h : ∀ t k, Q (.done (.ret (.str T t))) { s with toks := k }) : wpAny M A (retStr X) Q E s := by
  subst e
  exact KXf.ret_text rfl hl h
def f2 : Float.FormatSpec := { fill := 48, align := 61, width := some 2, type := some 100 }
def f4 : Float.FormatSpec := { fill := 48, align := 61, width := some 4, type := some 100 }
theorem meets_fmt2 (a : Int) (t u : Tok) (ha : a.natAbs.log2 < 1920) (hl : (intSpecText f2 a).length ≤ sizeLine) :
    Meets («int.__format__» ⟨[.int a t, .str ("02d" : Str) u], []⟩) (fun _ R s => ∀ t' k, R (.ok (.ret (.str (intSpecText f2 a) t'))) { s with toks := k }) := by
  apply KPc.meets_of
  intro prog w A s Q E h
  have hp : Float.parseFormatSpec ("02d" : Str).cps.toList "int" 62 = .ok f2 := by rfl
  unfold Builtin.«int.__format__»
  refine wpAny_bind (wpAny_of_eq (a := (_, _)) rfl ?_)
  refine wpAny_bind (wpAny_of_eq (a := _) rfl ?_)
  kxf_if
  refine wpAny_bind (wpAny_typeNameOf (T := "str") (typeIs_str _ _ _) (by decide) fun _ => ?_)
  refine wpAny_bind (wpAny_of_eq (a := some _) rfl ?_)
  kxf_if
  kxf_if
  refine wpAny_bind (wpAny_typeNameOfCut_int ?_)
  rw [hp]
  repeat kxf_if
  refine wpAny_bind (wpAny_of_eq (PySem.overDigitLimit_small ha) ?_)
  repeat kxf_if
  refine ret_textR (T := intSpecText f2 a) ?_ hl h
  have e1 : (f2.type.getD (if ((("02d" : Str)).cps.back? == some 0) = true then 0 else 100) == 88) = false := rfl
  simp only [e1]
  unfold intSpecText
  simp only [show ((100 : Nat) == 88) = false from rfl]
  generalize List.map (fun c => (if false = true then c.toUpper else c).toNat) (Nat.toDigits 10 a.natAbs) = ds
  generalize decide (a < 0) = b
  cases b <;> rfl
theorem meets_fmt4 (a : Int) (t u : Tok) (ha : a.natAbs.log2 < 1920) (hl : (intSpecText f4 a).length ≤ sizeLine) :
    Meets («int.__format__» ⟨[.int a t, .str ("04d" : Str) u], []⟩) (fun _ R s => ∀ t' k, R (.ok (.ret (.str (intSpecText f4 a) t'))) { s with toks := k }) := by
  apply KPc.meets_of
  intro prog w A s Q E h
  have hp : Float.parseFormatSpec ("04d" : Str).cps.toList "int" 62 = .ok f4 := by rfl
  unfold Builtin.«int.__format__»
  refine wpAny_bind (wpAny_of_eq (a := (_, _)) rfl ?_)
  refine wpAny_bind (wpAny_of_eq (a := _) rfl ?_)
  kxf_if
  refine wpAny_bind (wpAny_typeNameOf (T := "str") (typeIs_str _ _ _) (by decide) fun _ => ?_)
  refine wpAny_bind (wpAny_of_eq (a := some _) rfl ?_)
  kxf_if
  kxf_if
  refine wpAny_bind (wpAny_typeNameOfCut_int ?_)
  rw [hp]
  repeat kxf_if
  refine wpAny_bind (wpAny_of_eq (PySem.overDigitLimit_small ha) ?_)
  repeat kxf_if
  refine ret_textR (T := intSpecText f4 a) ?_ hl h
  have e1 : (f4.type.getD (if ((("04d" : Str)).cps.back? == some 0) = true then 0 else 100) == 88) = false := rfl
  simp only [e1]
  unfold intSpecText
  simp only [show ((100 : Nat) == 88) = false from rfl]
  generalize List.map (fun c => (if false = true then c.toUpper else c).toNat) (Nat.toDigits 10 a.natAbs) = ds
  generalize decide (a < 0) = b
  cases b <;> rfl
end Kb
namespace Kb
open PySem PySem.Spec PyProof.Rows L2 TL
/-- a number with naughts in front, in k signs -/
def padL (k n : Nat) : List Nat := List.replicate (k - (numL n).length) 48 ++ numL n
theorem toStr_tl (n : Nat) : tl (Str.ofString (toString ((n : Nat) : Int))) = numL n := tl_num n
theorem fmt_text {f : PySem.Builtin.Float.FormatSpec} {k n : Nat} (h1 : f.fill = 48) (h2 : f.align = 61) (h3 : f.width = some k) (h4 : f.grouping = none) (h5 : f.sign = none) : tl (intSpecText f (n : Int)) = padL k n := by
  rw [intSpecText_zero h4 h5 h1 h2 (by omega), tl_append, h3]
  have e : (numL n).length = (Nat.toDigits 10 n).length := by
    unfold numL
    simp
  have e2 : tl (Str.ofString (toString ((n : Nat) : Int))) = numL n := toStr_tl n
  rw [e2, Int.natAbs_natCast, ← e]
  rfl
theorem padL_len {k n : Nat} (h : n < 1000000000) (hk : k ≤ 20) : (padL k n).length ≤ 100 := by
  unfold padL
  rw [List.length_append, List.length_replicate]
  have := PySem.W.KT.len_num (n := (n : Int)) (by omega) (by omega)
  rw [len_tl, toStr_tl] at this
  omega
theorem log_small {n : Nat} (h : n < 1000000000) : ((n : Int)).natAbs.log2 < 1920 := by
  have : ((n : Int)).natAbs < 2 ^ 30 := by rw [Int.natAbs_natCast]; omega
  exact Nat.lt_of_lt_of_le (PySem.Flt.log2_lt_of (by decide) this) (by decide)
def tFmtD (k : Nat) (te : TE) : TE := fun σ H Q => te σ H fun x H1 => ∃ n : Nat, x = .int (n : Int) ∧ n < 1000000000 ∧ ∀ y : Str, tl y = padL k n → Q (.str y) H1
theorem pe_fmt2 {X : Cx} {e : Expr} {te : TE} {j : Nat} {p1 p2 pos : Pos} (he : PE X e te) : PE X (.FormattedValue e (-1) (some (.JoinedStr [.Constant (.str "02d") j p1] p2)) pos) (tFmtD 2 te) := by
  refine ⟨fun pins s σ H Q I h => ?_⟩
  refine wpAny_FormattedValue_spec (thn (he.run pins s σ H _ I h) fun v s1 ⟨x, H1, I1, r1, n, e, hn, q⟩ => ?_)
  subst e
  obtain ⟨t, rfl⟩ := r1
  refine wpAny_JoinedStr_one (Calls.Constant_str ⟨_, _, rfl, ?_⟩)
  have hlog := log_small hn
  have ht := fmt_text (f := f2) (k := 2) (n := n) rfl rfl rfl rfl rfl
  have hl : (intSpecText f2 (n : Int)).length ≤ sizeLine := by
    rw [len_tl, ht]
    exact Nat.le_trans (padL_len hn (by decide)) (by decide)
  refine PySem.W.KXf.field_int (y := intSpecText f2 (n : Int)) rfl (by decide) (by decide) (fun u => meets_fmt2 (n : Int) t u hlog hl) fun t' k => ?_
  exact ⟨.str (intSpecText f2 (n : Int)), H1, I1.tok _, ⟨t', rfl⟩, q _ ht⟩
theorem pe_fmt4 {X : Cx} {e : Expr} {te : TE} {j : Nat} {p1 p2 pos : Pos} (he : PE X e te) : PE X (.FormattedValue e (-1) (some (.JoinedStr [.Constant (.str "04d") j p1] p2)) pos) (tFmtD 4 te) := by
  refine ⟨fun pins s σ H Q I h => ?_⟩
  refine wpAny_FormattedValue_spec (thn (he.run pins s σ H _ I h) fun v s1 ⟨x, H1, I1, r1, n, e, hn, q⟩ => ?_)
  subst e
  obtain ⟨t, rfl⟩ := r1
  refine wpAny_JoinedStr_one (Calls.Constant_str ⟨_, _, rfl, ?_⟩)
  have hlog := log_small hn
  have ht := fmt_text (f := f4) (k := 4) (n := n) rfl rfl rfl rfl rfl
  have hl : (intSpecText f4 (n : Int)).length ≤ sizeLine := by
    rw [len_tl, ht]
    exact Nat.le_trans (padL_len hn (by decide)) (by decide)
  refine PySem.W.KXf.field_int (y := intSpecText f4 (n : Int)) rfl (by decide) (by decide) (fun u => meets_fmt4 (n : Int) t u hlog hl) fun t' k => ?_
  exact ⟨.str (intSpecText f4 (n : Int)), H1, I1.tok _, ⟨t', rfl⟩, q _ ht⟩
end Kb

namespace Kb
open PySem PySem.Spec PyProof.Rows L2 TL
/-! ### what a tick is called -/
def lastT : Int := 253402300799
structure Dat (t y m dd hh mm ss : Int) : Prop where
  y1 : 1970 ≤ y
  y2 : y ≤ 9999
  m1 : 1 ≤ m
  m2 : m ≤ 12
  d1 : 1 ≤ dd
  d2 : dd ≤ domI y m.toNat
  h1 : 0 ≤ hh
  h2 : hh < 24
  n1 : 0 ≤ mm
  n2 : mm < 60
  s1 : 0 ≤ ss
  s2 : ss < 60
  e : t = 86400 * (dbfI y + dbmI y m.toNat + dd - 1) + 3600 * hh + 60 * mm + ss
theorem dbm_mono (y : Int) : ∀ (k m : Nat), 1 ≤ m → m + k ≤ 13 → dbmI y m ≤ dbmI y (m + k)
  | 0, m, _, _ => Int.le_refl _
  | k + 1, m, h1, h2 => by
    have a := dbm_mono y k m h1 (by omega)
    have b := dbm_succ y (m := m + k) (by omega)
    have c := dom_ge y (m := m + k) (by omega) (by omega)
    rw [show m + (k + 1) = m + k + 1 by omega]
    omega
theorem dbm_le (y : Int) {m n : Nat} (h1 : 1 ≤ m) (h : m ≤ n) (h2 : n ≤ 13) : dbmI y m ≤ dbmI y n := by
  have := dbm_mono y (n - m) m h1 (by omega)
  rwa [show m + (n - m) = n by omega] at this
theorem dbm_one (y : Int) : dbmI y 1 = 0 := rfl
theorem dbf_le {y z : Int} (h1 : 1 ≤ y) (h : y ≤ z) : dbfI y ≤ dbfI z := by
  unfold dbfI dtoI
  omega
theorem dbf_succ (y : Int) : dbfI (y + 1) = dbfI y + ydI y := by
  unfold dbfI
  rw [dto_succ]; omega
theorem Dat.day {t y m dd hh mm ss : Int} (c : Dat t y m dd hh mm ss) : dbfI y ≤ t / 86400 ∧ t / 86400 < dbfI (y + 1) ∧ dbmI y m.toNat ≤ t / 86400 - dbfI y ∧ t / 86400 - dbfI y < dbmI y (m.toNat + 1) ∧ t / 86400 = dbfI y + dbmI y m.toNat + dd - 1 ∧ t % 86400 = 3600 * hh + 60 * mm + ss := by
  obtain ⟨y1, y2, m1, m2, d1, d2, h1, h2, n1, n2, s1, s2, e⟩ := c
  have b0 := dbm_le y (m := 1) (n := m.toNat) (by omega) (by omega) (by omega)
  rw [dbm_one] at b0
  have b1 := dbm_succ y (m := m.toNat) (by omega)
  have b2 := dbm_le y (m := m.toNat + 1) (n := 13) (by omega) (by omega) (by omega)
  rw [dbm_13] at b2
  have b3 := dbf_succ y
  generalize dbmI y m.toNat = M at *
  generalize dbmI y (m.toNat + 1) = M2 at *
  generalize domI y m.toNat = dm at *
  generalize dbfI y = F at *
  generalize dbfI (y + 1) = F2 at *
  have q : t / 86400 = F + M + dd - 1 := by omega
  refine ⟨by omega, by omega, by omega, by omega, q, by omega⟩
theorem Dat.uniq {t y m dd hh mm ss y' m' dd' hh' mm' ss' : Int} (a : Dat t y m dd hh mm ss) (b : Dat t y' m' dd' hh' mm' ss') : y = y' ∧ m = m' ∧ dd = dd' ∧ hh = hh' ∧ mm = mm' ∧ ss = ss' := by
  obtain ⟨a1, a2, a3, a4, a5, a6⟩ := a.day
  obtain ⟨b1, b2, b3, b4, b5, b6⟩ := b.day
  have ey : y = y' := by
    rcases Int.lt_trichotomy y y' with h | h | h
    · have := dbf_le (y := y + 1) (z := y') (by have := a.y1; omega) (by omega); omega
    · exact h
    · have := dbf_le (y := y' + 1) (z := y) (by have := b.y1; omega) (by omega); omega
  subst ey
  have em : m = m' := by
    have p1 := a.m1
    have p2 := a.m2
    have p3 := b.m1
    have p4 := b.m2
    rcases Int.lt_trichotomy m m' with h | h | h
    · have := dbm_le y (m := m.toNat + 1) (n := m'.toNat) (by omega) (by omega) (by omega); omega
    · exact h
    · have := dbm_le y (m := m'.toNat + 1) (n := m.toNat) (by omega) (by omega) (by omega); omega
  subst em
  have p1 := a.h1
  have p2 := a.n1
  have p3 := a.n2
  have p4 := a.s1
  have p5 := a.s2
  have q1 := b.h1
  have q2 := b.n1
  have q3 := b.n2
  have q4 := b.s1
  have q5 := b.s2
  refine ⟨rfl, rfl, by omega, by omega, by omega, by omega⟩
theorem Dat.due {t y m dd hh mm ss : Int} (c : Dat t y m dd hh mm ss) (h : 0 ≤ t) : dueI y m dd hh mm ss = t := by
  unfold dueI
  rw [← c.e]
  omega
/-- the year that holds a day -/
theorem year_end {d y : Int} (h0 : 0 ≤ d) (h : d ≤ 2932896) (h1 : dbfI y ≤ d) : y ≤ 9999 := by
  rcases Int.lt_or_le y 10000 with g | g
  · omega
  · have := dbf_le (y := 10000) (z := y) (by decide) g
    have e : dbfI 10000 = 2932897 := by decide
    omega
theorem year_start {d : Int} (h0 : 0 ≤ d) : dbfI (1970 + d / 366) ≤ d := by
  unfold dbfI dtoI
  omega
end Kb
namespace Kb
open PySem PySem.Spec PyProof.Rows L2 TL
/-! ### the written date -/
def weekN : List Str := ["Mon", "Tue", "Wed", "Thu", "Fri", "Sat", "Sun"]
def weekL (t : Int) : List Nat := tl (weekN.getD ((t / 86400 + 3) % 7).toNat "")
def monL (m : Int) : List Nat := tl (monN.getD (m.toNat - 1) "")
/-- behind the day of the week -/
def restL (y m dd hh mm ss : Int) : List Nat := padL 2 dd.toNat ++ ([32] ++ (monL m ++ ([32] ++ (padL 4 y.toNat ++ ([32] ++ (padL 2 hh.toNat ++ ([58] ++ (padL 2 mm.toNat ++ ([58] ++ (padL 2 ss.toNat ++ [32, 71, 77, 84]))))))))))
def pad2B (n : Nat) : Bool := digB (padL 2 n) && (decide ((padL 2 n).length = 2) && (decide (NumText.digitsVal (padL 2 n) = n) && decide (padL 2 n = if 9 < n then numL n else 48 :: numL n)))
theorem pad2_ok : ∀ n, n < 100 → pad2B n = true := by decide +kernel
theorem pad2 {n : Nat} (h : n < 100) : digB (padL 2 n) = true ∧ (padL 2 n).length = 2 ∧ valL (padL 2 n) = n ∧ padL 2 n = if 9 < n then numL n else 48 :: numL n := by
  have := pad2_ok n h
  unfold pad2B at this
  simp only [Bool.and_eq_true, decide_eq_true_eq] at this
  refine ⟨this.1, this.2.1, ?_, this.2.2.2⟩
  unfold valL
  rw [this.2.2.1]
theorem pad4 {n : Nat} (h : 1000 ≤ n) (h2 : n < 10000) : padL 4 n = numL n := by
  unfold padL
  rw [(num4 h h2).2.1]; rfl
def mon12B (i : Nat) (c : Str) : Bool := monB i c && decide (c.length = 3)
theorem monN_ok : ∀ i, i < 12 → mon12B i (monN.getD i "") = true := by decide +kernel
theorem monL_ok {m : Int} (h1 : 1 ≤ m) (h2 : m ≤ 12) : KM (monL m) ∧ (monI (monL m) : Int) = m ∧ tokOk (monL m) ∧ (∀ c ∈ monL m, c < 128) ∧ (monL m).length = 3 := by
  have := monN_ok (m.toNat - 1) (by omega)
  unfold mon12B at this
  rw [Bool.and_eq_true, decide_eq_true_eq] at this
  obtain ⟨f1, f2, f3, f4, _⟩ := monB_facts this.1
  refine ⟨f1, ?_, f3, f4, by rw [← this.2, len_tl]; rfl⟩
  unfold monL
  omega
def weekB (x : Str) : Bool := idleB (tl x) && ((tl x).all tokB && (decide ((tl x).length = 3) && (tl x).all (· < 128)))
theorem week_ok : ∀ x ∈ weekN, weekB x = true := by decide +kernel
theorem gmt_ok : idleB [71, 77, 84] = true ∧ ∀ s ∈ [71, 77, 84], tokB s = true := by decide +kernel
theorem pad2_tok {n : Nat} (h : n < 100) : tokOk (padL 2 n) := dig_tok (pad2 h).1
/-- how it is read, with a day of the week or without -/
theorem read_rest {t y m dd hh mm ss : Int} (c : Dat t y m dd hh mm ss) (h0 : 0 ≤ t) {W : List Nat} {T : List (List Nat)} (hW : Clo W T) (hT : ∀ l ∈ T, idleB l = true) : dateR (W ++ restL y m dd hh mm ss) = some t := by
  obtain ⟨f1, f2, f3, f4, f5⟩ := monL_ok c.m1 c.m2
  have c' := c
  obtain ⟨y1, y2, m1, m2, d1, d2, h1, h2, n1, n2, s1, s2, e⟩ := c'
  have d3 := dom_le y (m := m.toNat) (by omega) (by omega)
  obtain ⟨p1, p2, p3, _⟩ := pad2 (n := dd.toNat) (by omega)
  obtain ⟨q1, q2, q3, _⟩ := pad2 (n := hh.toNat) (by omega)
  obtain ⟨r1, r2, r3, _⟩ := pad2 (n := mm.toNat) (by omega)
  obtain ⟨u1, u2, u3, _⟩ := pad2 (n := ss.toNat) (by omega)
  obtain ⟨z1, z2, z3⟩ := num4 (n := y.toNat) (by omega) (by omega)
  have z0 := pad4 (n := y.toNat) (by omega) (by omega)
  rw [← z0] at z1 z2 z3
  obtain ⟨kt, tt⟩ := KT_of q1 r1 u1 (by omega) (by omega) (by omega)
  have ky := KY_of z1 z2
  have etl : restL y m dd hh mm ss = padL 2 dd.toNat ++ [32] ++ (monL m ++ [32] ++ (padL 4 y.toNat ++ [32] ++ (timeL (padL 2 hh.toNat) (padL 2 mm.toNat) (padL 2 ss.toNat) ++ [32] ++ [71, 77, 84]))) := by
    unfold restL timeL
    show _ = padL 2 dd.toNat ++ [32] ++ (monL m ++ [32] ++ (padL 4 y.toNat ++ [32] ++ ((padL 2 hh.toNat ++ ([58] ++ (padL 2 mm.toNat ++ ([58] ++ padL 2 ss.toNat)))) ++ [32] ++ [71, 77, 84])))
    simp only [List.append_assoc, List.singleton_append, List.cons_append, List.nil_append]
  have cl : Clo (W ++ (padL 2 dd.toNat ++ [32] ++ (monL m ++ [32] ++ (padL 4 y.toNat ++ [32] ++ (timeL (padL 2 hh.toNat) (padL 2 mm.toNat) (padL 2 ss.toNat) ++ [32]))))) (T ++ ([padL 2 dd.toNat] ++ ([monL m] ++ ([padL 4 y.toNat] ++ [timeL (padL 2 hh.toNat) (padL 2 mm.toNat) (padL 2 ss.toNat)])))) :=
    hW.app ((Clo.sp (dig_tok p1)).app ((Clo.sp f3).app ((Clo.sp (dig_tok z1)).app (Clo.sp tt))))
  have htk := cl [71, 77, 84]
  have hx : toks [] (W ++ restL y m dd hh mm ss) = (T ++ ([padL 2 dd.toNat] ++ ([monL m] ++ ([padL 4 y.toNat] ++ [timeL (padL 2 hh.toNat) (padL 2 mm.toNat) (padL 2 ss.toNat)])))) ++ toks [] [71, 77, 84] := by
    rw [← htk, etl]
    simp only [List.append_assoc]
  have key := date_of_txt (x := mkS (W ++ restL y m dd hh mm ss)) (a := mkS (timeL (padL 2 hh.toNat) (padL 2 mm.toNat) (padL 2 ss.toNat))) (b := mkS (padL 2 dd.toNat)) (c := mkS (monL m)) (e := mkS (padL 4 y.toNat)) (o := [1, 2, 3, 0])
    kt (KD_of p1 (show (padL 2 dd.toNat).length ≤ 2 by omega)) f1 ky.a ky.c ky.d (by decide) (fun z => absurd z (by rw [show fits 1 (tl (mkS (padL 4 y.toNat))) = false from ky.b]; exact Bool.false_ne_true)) hx (by
      rw [List.filter_append]
      rw [List.filter_eq_nil_iff.mpr (fun l hl => by rw [hT l hl]; exact Bool.false_ne_true)]
      rfl)
  have : dateR (W ++ restL y m dd hh mm ss) = tickI (timeL (padL 2 hh.toNat) (padL 2 mm.toNat) (padL 2 ss.toNat)) (padL 2 dd.toNat) (monL m) (padL 4 y.toNat) := key
  rw [this, ← c.due h0]
  exact tick_due q1 r1 u1 (by omega) (by omega) (by omega) (by omega) f2 (by rw [year4 z2]; omega) (by omega) m1 m2 d1 d2 h1 h2 n1 n2 s1 s2
end Kb
namespace Kb
open PySem PySem.Spec PyProof.Rows L2 TL
/-- the law's count of the days from 1970 on -/
theorem dto_walk70 {y : Int} (h : 1970 ≤ y) : 146097 * ((y - 1970) / 400) + ((List.range (y - (1970 + 400 * ((y - 1970) / 400))).toNat).map fun i => ydI (1970 + 400 * ((y - 1970) / 400) + (i : Nat))).sum = dbfI y := by
  rw [dto_years, dto_400]
  have h2 : 1970 + 400 * ((y - 1970) / 400) + ((y - (1970 + 400 * ((y - 1970) / 400))).toNat : Int) = y := by omega
  rw [h2]
  unfold dbfI
  omega
end Kb
namespace Kb
open PySem PySem.Spec PyProof.Rows L2 TL
theorem yd_ge (y : Int) : 365 ≤ ydI y := by unfold ydI; split <;> omega
theorem dbf_400 (r : Int) : dbfI (1970 + 400 * r) = 146097 * r := by
  unfold dbfI
  rw [dto_400]; omega
theorem label_ok : ∀ m, m < 12 → cutS ("JanFebMarAprMayJunJulAugSepOctNovDec" : Str) (some (3 * (m : Nat) : Int)) (some (3 * (m : Nat) + 3 : Int)) = monN.getD m "" := by decide +kernel
end Kb

namespace Kb
open PySem PySem.Spec PyProof.Rows L2 TL
/-! ### a date that is read is a tick -/
structure FndFit (f : Fnd) : Prop where
  lt : ∀ q ∈ f, q.1 < 4
  fit : ∀ q ∈ f, fits q.1 (tl q.2) = true
theorem FndFit.step {f : Fnd} (h : FndFit f) (t : Str) : FndFit (stepD f t) := by
  unfold stepD
  cases e : partI f (tl t) with
  | none => exact h
  | some p =>
    unfold partI at e
    obtain ⟨h1, h2, _⟩ := List.find?_range_eq_some.mp e
    have hp := List.mem_range.mp h2
    rw [Bool.and_eq_true, Bool.not_eq_true'] at h1
    refine ⟨fun q hq => ?_, fun q hq => ?_⟩
    · rcases List.mem_append.mp hq with m | m
      · exact h.lt q m
      · rw [List.mem_singleton.mp m]; exact hp
    · rcases List.mem_append.mp hq with m | m
      · exact h.fit q m
      · rw [List.mem_singleton.mp m]; exact h1.2
theorem FndFit.all : ∀ (ts : List Str) (f : Fnd), FndFit f → FndFit (ts.foldl stepD f)
  | [], _, h => h
  | t :: ts, f, h => FndFit.all ts _ (h.step t)
theorem getP_fits {f : Fnd} (h : FndFit f) (p : Nat) : getP f p = [] ∨ fits p (getP f p) = true := by
  unfold getP
  cases hf : f.find? fun q => q.1 == p with
  | none => exact .inl rfl
  | some z =>
    have h1 : z.1 = p := by have := List.find?_some hf; simpa using this
    have h2 := h.fit z (List.mem_of_find?_eq_some hf)
    rw [h1] at h2
    exact .inr h2
theorem yearI_le {l : List Nat} (h : l = [] ∨ fitY l = true) : yearI l ≤ 9999 := by
  rcases h with rfl | h
  · decide
  · unfold fitY at h
    simp only [Bool.and_eq_true, Bool.or_eq_true, decide_eq_true_eq] at h
    have h4 := (val_small l h.1 (by omega)).2
    unfold yearI
    split
    · exact h4
    · have hl : l.length ≤ 2 := by omega
      split
      · omega
      · have ad := (digB_iff.mp h.1).1
        have : valL l ≤ 99 := by
          unfold valL
          match l, hl, (fun c hc => ad c hc : ∀ c ∈ l, 48 ≤ c ∧ c ≤ 57) with
          | [], _, _ => simp [NumText.digitsVal]
          | [a], _, k => have := k a (by simp); simp only [NumText.digitsVal, List.foldl]; omega
          | [a, b], _, k => have := k a (by simp); have := k b (by simp); simp only [NumText.digitsVal, List.foldl]; omega
          | a :: b :: c :: r, hl, _ => simp at hl
        omega
theorem monI_le (l : List Nat) : monI l ≤ 12 := by
  unfold monI
  cases h : (List.range 12).find? (monAt l) with
  | none => exact Nat.zero_le _
  | some i =>
    have := List.mem_range.mp (List.mem_of_find?_eq_some h)
    show i + 1 ≤ 12
    omega
theorem dom_nn (y : Int) (m : Nat) : 0 ≤ domI y m := by
  unfold domI
  split
  · decide
  · have : ∀ n, 0 ≤ monD.getD n 0 := fun n => by
      match n with
      | 0 | 1 | 2 | 3 | 4 | 5 | 6 | 7 | 8 | 9 | 10 | 11 => decide
      | n + 12 => exact Int.le_refl 0
    exact this _
theorem dbm_nn (y : Int) (m : Nat) : 0 ≤ dbmI y m := by
  unfold dbmI
  have : ∀ l : List Nat, 0 ≤ (l.map fun i => domI y (i + 1)).sum := fun l => by
    induction l with
    | nil => exact Int.le_refl 0
    | cons a l ih => rw [List.map_cons, List.sum_cons]; have := dom_nn y (a + 1); omega
  exact this _
theorem tick_range {t d m yr : List Nat} {n : Int} (hy : yearI yr ≤ 9999) (h : tickI t d m yr = some n) : 0 ≤ n ∧ n ≤ lastT := by
  unfold tickI at h
  simp only at h
  have nh := valL_nn ((sp1 58 t).getD 0 [])
  have nm := valL_nn ((sp1 58 t).getD 1 [])
  have ns := valL_nn ((sp1 58 t).getD 2 [])
  generalize valL ((sp1 58 t).getD 0 []) = hh at *
  generalize valL ((sp1 58 t).getD 1 []) = mi at *
  generalize valL ((sp1 58 t).getD 2 []) = ss at *
  by_cases c1 : 23 < hh ∨ 59 < mi ∨ 59 < ss ∨ yearI yr < 1601
  · rw [if_pos c1] at h; cases h
  rw [if_neg c1] at h
  by_cases c2 : 1 ≤ valL d ∧ valL d ≤ domI (yearI yr) (monI m)
  · rw [if_neg (not_not_intro c2)] at h
    by_cases c3 : yearI yr < 1970
    · rw [if_pos c3] at h; cases h; exact ⟨Int.le_refl 0, by decide⟩
    rw [if_neg c3] at h
    have h := Option.some.inj h
    subst h
    generalize yearI yr = y at *
    have b0 : 0 ≤ dbfI y := by have := dbf_le (y := 1970) (z := y) (by decide) (by omega); have e : dbfI 1970 = 0 := by decide
                               omega
    have b1 : dbfI (y + 1) ≤ 2932897 := by have := dbf_le (y := y + 1) (z := 10000) (by omega) (by omega); have e : dbfI 10000 = 2932897 := by decide
                                           omega
    have b2 := dbf_succ y
    have b3 := dbm_nn y (monI m)
    have b4 : dbmI y (monI m) + domI y (monI m) ≤ ydI y := by
      clear c1 c2
      rw [← dbm_13]
      have hm := monI_le m
      cases hz : monI m with
      | zero =>
        have := dbm_le y (m := 2) (n := 13) (by decide) (by decide) (by decide)
        have e : dbmI y 2 = domI y 1 := by simp [dbmI, List.range, List.range.loop]
        have e2 : domI y 0 = domI y 1 := rfl
        have e3 : dbmI y 0 = 0 := rfl
        omega
      | succ k =>
        rw [hz] at hm
        have := dbm_le y (m := k + 2) (n := 13) (by omega) (by omega) (by decide)
        have e : dbmI y (k + 2) = dbmI y (k + 1) + domI y (k + 1) := dbm_succ y (m := k + 1) (by omega)
        omega
    unfold lastT
    omega
  · rw [if_pos c2] at h; cases h
theorem dateR_range {l : List Nat} {n : Int} (h : dateR l = some n) : 0 ≤ n ∧ n ≤ lastT := by
  unfold dateR dateF at h
  simp only at h
  have hf := FndFit.all ((toks [] l).map mkS) [] ⟨fun q hq => (nomatch hq), fun q hq => (nomatch hq)⟩
  generalize ((toks [] l).map mkS).foldl stepD [] = f at *
  split at h
  · cases h
  · exact tick_range (yearI_le (getP_fits hf 3)) h
end Kb

namespace Kb
open PySem PySem.Spec PyProof.Rows L2 TL
/-! ### a text times a number, longer ones -/
def rMulL : R2 := fun x y H Q => ∃ (a : Str) (n : Int), x = .str a ∧ y = .int n ∧ n ≤ 1000000 ∧ 0 ≤ n ∧ a.length ≤ 1000000 ∧ a.length * n.toNat ≤ 16000000 ∧ ∀ z : Str, tl z = (List.replicate n.toNat (tl a)).flatten → Q (.str z) H
theorem op_mulL {X : Cx} : OpR X (binaryOp .Mult) rMulL := by
  intro pins s σ H x y v u Q I rx ry h
  obtain ⟨a, n, rfl, rfl, h1, h2, h3, h4, q⟩ := h
  obtain ⟨t, rfl⟩ := rx
  obtain ⟨t2, rfl⟩ := ry
  have hz : a.length * n.toNat ≤ 16000000 := h4
  have hline : sizeLine = 16777216 := sizeLine_eq
  refine PySem.P.mul_str (by rw [decide_eq_false (by omega), decide_eq_false (by omega)]; rfl) (fun _ _ h5 => ?_) (fun _ _ => ?_) ?_
  · have h6 : (1000000 : Int) ≤ (2 ^ 63 - 1) / n := Int.le_ediv_of_mul_le (by omega) (by omega)
    omega
  · unfold Builtin.Str.tooLong
    rw [hline]
    exact decide_eq_false (by omega)
  · by_cases hn : n < 1
    · rw [if_pos hn]
      have e : n = 0 := by omega
      subst e
      exact ⟨by decide, .str Str.empty, H, I.tok _, ⟨_, rfl⟩, q Str.empty rfl⟩
    · rw [if_neg hn]
      by_cases h5 : (n == 1 || a.length == 0) = true
      · rw [if_pos h5]
        refine ⟨.str a, H, I, ⟨_, rfl⟩, q a ?_⟩
        rw [Bool.or_eq_true, beq_iff_eq, beq_iff_eq] at h5
        rcases h5 with rfl | h5
        · simp
        · rw [len_tl] at h5
          rw [List.eq_nil_of_length_eq_zero h5]; simp
      · rw [if_neg h5]
        refine ⟨?_, .str ⟨(List.replicate n.toNat a.cps).foldl (· ++ ·) #[]⟩, H, I.tok _, ⟨_, rfl⟩, q _ ?_⟩
        · rw [hline, len_tl]
          show (((List.replicate n.toNat a.cps).foldl (· ++ ·) #[]).toList).length ≤ _
          rw [foldl_app]
          have : ((List.replicate n.toNat a.cps.toList).flatten).length = n.toNat * a.length := by
            rw [PyProof.Rows.lm_len_rep_flat]; rfl
          simp only [Array.toList_empty, List.nil_append]
          rw [this, Nat.mul_comm]
          omega
        · show (((List.replicate n.toNat a.cps).foldl (· ++ ·) #[]).toList) = _
          rw [foldl_app]
          rfl
theorem giv_mulL {a : Str} {n : Int} (h1 : n ≤ 1000000 := by decide) (h2 : 0 ≤ n := by decide) (h3 : a.length ≤ 1000000 := by decide +kernel) (h4 : a.length * n.toNat ≤ 16000000 := by decide +kernel) : Giv (tOp rMulL (tC (.str a)) (tC (.int n))) (.str (repS n.toNat a)) := fun σ H Q q =>
  ⟨a, n, rfl, rfl, h1, h2, h3, h4, fun z hz => (ext_tl (hz.trans rfl) : z = repS n.toNat a) ▸ q⟩
end Kb
namespace Kb
open PySem PySem.Spec PyProof.Rows L2 TL
/-! ### a walk over the keys of a dict that is held -/
section
variable {K : PySem.W.Frag} {d : Addr} {o : Obj} {kvs : List (L2.Key × V)} {g : TG} {tb : TS} {D : Ends} {σ : L2.St} {H : Hp}
theorem for_keys (Pv : Nat → L2.St → Hp → Prop) (h0 : Pv 0 σ H) (hG : ∀ i σ H, i ≤ kvs.length → Pv i σ H → H d = some (.frz o (.dK kvs)))
    (hs : ∀ i k v σ H, kvs[i]? = some (k, v) → Pv i σ H → g (kV k) σ H fun σ2 H2 => tb { D with nx := Pv (i + 1), ct := Pv (i + 1), bk := D.nx } σ2 H2) (hd : ∀ σ H, Pv kvs.length σ H → D.nx σ H) :
    ∃ W : Nat → Nat → L2.St → Hp → Prop, (∃ m, W 0 m σ H) ∧ ∀ i m σ H, W i m σ H →
      ((Itk d o kvs).stop i H ∧ D.nx σ H) ∨ ((Itk d o kvs).go i H ∧ ∃ N : L2.St → Hp → Prop, (∀ σ' H', N σ' H' → ∃ m', m' < m ∧ W (i + 1) m' σ' H') ∧ ∀ x H', (Itk d o kvs).yld i H x H' → g x σ H' fun σ2 H2 => tb { D with nx := N, ct := N, bk := D.nx } σ2 H2) := by
  refine for_it walk_keys Pv h0 hG (fun i x σ H H' hi p y => ?_) hd
  obtain ⟨rfl, k, v, h1, rfl⟩ := y
  exact hs i k v σ _ h1 p
end
end Kb

namespace Kb
open PySem PySem.Spec PyProof.Rows L2 TL
/-! ### the law's loops: over its draws, over turns -/
section
variable {K : PySem.W.Frag} {g : TG} {tb : TS} {D : Ends} {σ : L2.St} {H : Hp}
/-- for draw in draws: each one is there when its turn comes -/
theorem for_draws {p : Addr} {ds : List Addr} (S : L2.St → Prop) (I : Hp → Prop) (hI : ∀ d ∈ ds, ∀ H H', Keep d H H' → I H → I H') (h0 : S σ) (i0 : I H) (m0 : H p = some (.lst (ds.map V.ref))) (nd : ds.Nodup) (dr : ∀ d ∈ ds, DrawAt H d 200000000)
    (hs : ∀ d σ H2 (N : L2.St → Hp → Prop), d ∈ ds → S σ → I H2 → DrawAt H2 d 200000000 → (∀ σ' H', S σ' → Keep d H2 H' → N σ' H') → g (.ref d) σ H2 fun σ2 H3 => tb { D with nx := N, ct := N, bk := D.nx } σ2 H3)
    (hd : ∀ σ H', S σ → I H' → D.nx σ H') :
    ∃ W : Nat → Nat → L2.St → Hp → Prop, (∃ m, W 0 m σ H) ∧ ∀ i m σ H, W i m σ H →
      ((Itl K p).stop i H ∧ D.nx σ H) ∨ ((Itl K p).go i H ∧ ∃ N : L2.St → Hp → Prop, (∀ σ' H', N σ' H' → ∃ m', m' < m ∧ W (i + 1) m' σ' H') ∧ ∀ x H', (Itl K p).yld i H x H' → g x σ H' fun σ2 H2 => tb { D with nx := N, ct := N, bk := D.nx } σ2 H2) := by
  refine for_list (K := K) (a := p) (xs := ds.map V.ref) (fun i σ H2 => S σ ∧ I H2 ∧ H2 p = some (.lst (ds.map V.ref)) ∧ ∀ j d, i ≤ j → ds[j]? = some d → DrawAt H2 d 200000000) ⟨h0, i0, m0, fun j d _ hj => dr d (List.mem_of_getElem? hj)⟩ (fun i σ H2 _ ⟨_, _, q, _⟩ => SqL.of q) ?_ (fun σ H' ⟨s, i, _⟩ => hd σ H' s i)
  rintro i v σ H2 hi ⟨hS, iH, m2, dr2⟩
  obtain ⟨d, hd, rfl⟩ : ∃ d, ds[i]? = some d ∧ v = .ref d := by
    rw [List.getElem?_map] at hi
    cases hx : ds[i]? with
    | none => rw [hx] at hi; cases hi
    | some d => rw [hx] at hi; cases hi; exact ⟨d, rfl, rfl⟩
  have dm := List.mem_of_getElem? hd
  have D2 := dr2 i d (Nat.le_refl _) hd
  have pd : p ≠ d := fun z => by
    obtain ⟨l, c, t, hm, _⟩ := D2
    rw [← z, m2] at hm; cases hm
  refine hs d σ H2 _ dm hS iH D2 fun σ' H' s' k => ⟨s', hI d dm _ _ k iH, k _ _ m2 pd, fun j e hj he => (dr2 j e (by omega) he).keep k fun z => ?_⟩
  subst z
  obtain ⟨l1, e1⟩ := (List.getElem?_eq_some_iff.mp hd)
  obtain ⟨l2, e2⟩ := (List.getElem?_eq_some_iff.mp he)
  have : i = j := (List.getElem_inj nd).mp (e1.trans e2.symm)
  omega
/-- for turn in range(n), B draws each -/
theorem for_turns {d : Addr} {n r B : Nat} (S : L2.St → Prop) (h0 : S σ) (D0 : DrawAt H d (r + B * n))
    (hs : ∀ (i : Nat) σ H2 (m : Nat) (N : L2.St → Hp → Prop), S σ → Keep d H H2 → DrawAt H2 d (m + B) → (∀ σ' H', S σ' → Keep d H2 H' → DrawAt H' d m → N σ' H') → g (.int (0 + (i : Nat))) σ H2 fun σ2 H3 => tb { D with nx := N, ct := N, bk := D.nx } σ2 H3)
    (hd : ∀ σ H', S σ → Keep d H H' → DrawAt H' d r → D.nx σ H') :
    ∃ W : Nat → Nat → L2.St → Hp → Prop, (∃ m, W 0 m σ H) ∧ ∀ i m σ H, W i m σ H →
      ((Itr 0 n).stop i H ∧ D.nx σ H) ∨ ((Itr 0 n).go i H ∧ ∃ N : L2.St → Hp → Prop, (∀ σ' H', N σ' H' → ∃ m', m' < m ∧ W (i + 1) m' σ' H') ∧ ∀ x H', (Itr 0 n).yld i H x H' → g x σ H' fun σ2 H2 => tb { D with nx := N, ct := N, bk := D.nx } σ2 H2) := by
  refine for_range (n := n) (fun i σ H2 => S σ ∧ Keep d H H2 ∧ DrawAt H2 d (r + B * (n - i))) ⟨h0, Keep.refl, D0⟩ ?_ ?_
  · rintro i σ H2 hi ⟨hS, k, D2⟩
    have e : r + B * (n - i) = (r + B * (n - (i + 1))) + B := by
      rw [show n - i = (n - (i + 1)) + 1 by omega, Nat.mul_succ]; omega
    rw [e] at D2
    exact hs i σ H2 _ _ hS k D2 fun σ' H' s' k' D' => ⟨s', k.trans k', D'⟩
  · rintro σ H' ⟨hS, k, D2⟩
    rw [Nat.sub_self, Nat.mul_zero] at D2
    exact hd σ H' hS k D2
end
end Kb

namespace Kb
open PySem PySem.Spec PyProof.Rows L2
/-! ### a def that is called by keywords alone -/
def kwg {α : Type} (ps ks : List Str) (ws : List α) : List α := ps.filterMap fun p => (ks.zip ws).lookup p
def DfW (K : PySem.W.Frag) (mg : Str → Option Value) (x : Str) (st : Stmt) (ps ks : List Str) : Prop :=
  ∃ (f : Addr) (fd : FuncData), Fun K x x st f fd ∧ mg x = some (.ref f) ∧ (∀ us : List Value, us.length = ps.length → bindArgs fd ⟨us, []⟩ = pure (ps.zip us)) ∧
    ∀ ws : List Value, ws.length = ks.length → bindArgs fd ⟨[], ks.zip ws⟩ = pure (ps.zip (kwg ps ks ws))
theorem DfW.mk {K : PySem.W.Frag} {mg : Str → Option Value} {h : Heap} {x : Str} {st : Stmt} {ps ks : List Str} {f : Addr} {oc : Value} {od an : Option Addr} {sl : Array (Option Value)} {kV doc pm cd ct : Value} (X : K.In h) (G : h.Ns PySem.mainGlobals mg)
    (b : ∀ (kV doc pm : Value) (an : Option Addr) (cdv ct : Value) (us : List Value), us.length = ps.length → bindArgs (PySem.W.fnOf x x (defArgs st) (defBody st) (defScope st) .none kV doc pm an cdv ct) ⟨us, []⟩ = pure (ps.zip us))
    (bw : ∀ (kV doc pm : Value) (an : Option Addr) (cdv ct : Value) (ws : List Value), ws.length = ks.length → bindArgs (PySem.W.fnOf x x (defArgs st) (defBody st) (defScope st) .none kV doc pm an cdv ct) ⟨[], ks.zip ws⟩ = pure (ps.zip (kwg ps ks ws)))
    (a : PySem.W.nsIn K PySem.mainGlobals x = some (some (.ref f)))
    (l : K.lookup f = some ⟨oc, od, .func (PySem.W.fnOf x x (defArgs st) (defBody st) (defScope st) .none kV doc pm an cd ct), sl⟩)
    (c : PySem.W.codeIn K cd x = true) (k : PySem.W.keepIn K (.ref f) = true) : DfW K mg x st ps ks :=
  ⟨f, _, fun_mk l c k, PySem.W.mg_of X G a, b kV doc pm an cd ct, bw kV doc pm an cd ct⟩
def CalW (P : Program) (w : World) (K : PySem.W.Frag) (mg : Str → Option Value) (base : Heap) (CX : CXT) (k : Nat) (x : Str) (ps ks : List Str) (sp : Sp) : Prop :=
  ∃ (f : Addr) (fd : FuncData), FnOk P w K mg base CX k f fd ps sp ∧ mg x = some (.ref f) ∧ PySem.W.keepIn K (.ref f) = true ∧ Binds K fd ps [] ∧
    ∀ ws : List Value, ws.length = ks.length → bindArgs fd ⟨[], ks.zip ws⟩ = pure (ps.zip (kwg ps ks ws))
section
variable {P : Program} {w : World} {K : PySem.W.Frag} {mg : Str → Option Value} {base : Heap}
theorem CalW.cal {CX : CXT} {k : Nat} {x : Str} {ps ks : List Str} {sp : Sp} (c : CalW P w K mg base CX k x ps ks sp) : Cal P w K mg base CX k x ps sp := by
  obtain ⟨f, fd, F, m, kp, b, _⟩ := c
  exact ⟨f, fd, F, m, kp, b⟩
theorem DfW.ok0 {x : Str} {st : Stmt} {N ps ks : List Str} {k : Nat} {sp : Sp} (D : DfW K mg x st ps ks) (S : FnScope N ps (defScope st)) (len : ∀ vs H Q E, sp vs H Q E → vs.length = ps.length)
    (hbody : ∀ (f : Addr) (cdv : Value) (A : Around) (outer : List Env) (s : Shared) (H : Hp) (vs : List V) (Q : VK) (E : XK), Room k (A.deeper (envOfC x (defScope st) s.heap.objs.size f cdv)) → sp vs H Q E →
      ∃ t, PSs (cxOf CX0 P w K mg base N x (defScope st) f cdv A outer s H E).nox (defBody st) t ∧ t { nx := fun _ H' => Q .non H', rt := Q } (start N vs) H) : CalW P w K mg base CX0 (k + 1) x ps ks sp := by
  obtain ⟨f, fd, F, m, b, bw⟩ := D
  exact ⟨f, fd, F.ok S len (hbody f), m, F.kp, .all b, bw⟩
end
theorem vals_lookup {p : Str} : ∀ {ks : List Str} {zs : List V} {ws : List Value}, Vals zs ws → ((ks.zip zs).lookup p = none ∧ (ks.zip ws).lookup p = none) ∨ ∃ z u, (ks.zip zs).lookup p = some z ∧ (ks.zip ws).lookup p = some u ∧ RelV z u
  | [], _, _, _ => .inl ⟨by rw [List.zip_nil_left]; rfl, by rw [List.zip_nil_left]; rfl⟩
  | k :: ks, _, _, .nil => .inl ⟨by rw [List.zip_nil_right]; rfl, by rw [List.zip_nil_right]; rfl⟩
  | k :: ks, _, _, .cons r t => by
    rw [List.zip_cons_cons, List.zip_cons_cons, List.lookup_cons, List.lookup_cons]
    cases p == k with
    | true => exact .inr ⟨_, _, rfl, rfl, r⟩
    | false => exact vals_lookup (ks := ks) t
theorem vals_kwg {ks : List Str} {zs : List V} {ws : List Value} (r : Vals zs ws) : ∀ ps : List Str, Vals (kwg ps ks zs) (kwg ps ks ws)
  | [] => .nil
  | p :: ps => by
    unfold kwg
    rw [List.filterMap_cons, List.filterMap_cons]
    rcases vals_lookup (p := p) (ks := ks) r with ⟨h1, h2⟩ | ⟨z, u, h1, h2, h3⟩
    · rw [h1, h2]; exact vals_kwg r ps
    · rw [h1, h2]; exact .cons h3 (vals_kwg r ps)
def tCallW (sp : Sp) (ps ks : List Str) (E : XK) (tk : TA) : TE := fun σ H Q => tk σ H fun zs H2 => zs.length = ks.length ∧ sp (kwg ps ks zs) H2 Q E
theorem pe_cw {X : Cx} {CX : CXT} {j k : Nat} {x : Str} {ps ks : List Str} {sp : Sp} {E : XK} {p pos : Pos} {kws : List Keyword} {tk : TA} (c : CalW X.prog X.w X.K X.mg X.base CX j x ps ks sp) (hr : Room k X.A) (hjk : j ≤ k) (hg : Gl X x) (hx : Passes CX X E)
    (hkw : PK X kws tk) (hall : (backToKw pos (keywordEach kws X.env)).all (·.1.isSome) = true := by rfl) (hks : (backToKw pos (keywordEach kws X.env)).filterMap (·.1) = ks := by rfl) (hdb : (x == ("__debug__" : Str)) = false := by decide)
    (hpl : ((backTo pos (starEach [] X.env)).any (·.1) || (backToKw pos (keywordEach kws X.env)).any (·.1.isNone)) = false := by rfl) :
    PE X (.Call (.Name x p) [] kws pos) (tCallW sp ps ks E tk) := by
  obtain ⟨f, fd, F, m, kp, b, bw⟩ := c
  refine ⟨fun pins s σ H Q I h => ?_⟩
  refine wpAny_Call_Name_kw (ld_glob I hg m ?_ hdb)
  refine PySem.W.callWith_KW0 (h₀ := X.base) I.ok.mod.kin kp hall ?_ hpl
  refine thn (hkw.run pos pins s σ H _ I h) fun ws s2 ⟨zs, H2, I2, rz, l1, q2⟩ => ⟨I2.kIn, ?_⟩
  rw [hks]
  have r2 := vals_kwg rz (ks := ks) ps
  have lw : ws.length = ks.length := by rw [← rz.length]; exact l1
  refine wpAny_call (codeAny_mono (F.run X.A X.stack s2 H2 ⟨[], ks.zip ws⟩ (kwg ps ks ws) (kwg ps ks zs) Q E (hr.mono hjk) I2.env0 (.of_eq (bw ws lw)) r2 q2) fun r s' hq => ?_)
  cases r with
  | error e => exact hx pins σ H2 s2 e s' I2 hq
  | ok fl =>
    cases fl with
    | ret u => exact I2.after hq
    | next => exact False.elim hq
    | brk => exact False.elim hq
    | cont => exact False.elim hq
end Kb

namespace Kb
open PySem PySem.Spec PyProof.Rows L2 TL
/-! ### order of data -/
def rOrd (f : PyData → PyData → Bool) (K : PySem.W.Frag) : R2 := fun x y H Q => ∃ d e, Dp K H x d ∧ Dp K H y e ∧ PySem.W.alike d e = true ∧ d ≠ .none ∧ d.depth ≤ 60 ∧ Q (.bl (f d e)) H
section
variable {X : Cx}
theorem op_ltD (hu : X.A.units + 64 < cLine) : OpR X (compareOp .Lt) (rOrd PySem.W.dataLt X.K) := by
  intro pins s σ H x y v u Q I rx ry ⟨d, e, hd, he, ha, hn, hz, q⟩
  obtain ⟨as, r1⟩ := Dp.reads I d x v hd rx
  obtain ⟨bs, r2⟩ := Dp.reads I e y u he ry
  exact PySem.W.lt_data r1 r2 ha hn (by have := Nat.min_le_left d.depth e.depth; omega) ⟨.bl _, H, I, rfl, q⟩
theorem op_geD (hu : X.A.units + 64 < cLine) : OpR X (compareOp .GtE) (rOrd (fun d e => !PySem.W.dataLt d e) X.K) := by
  intro pins s σ H x y v u Q I rx ry ⟨d, e, hd, he, ha, hn, hz, q⟩
  obtain ⟨as, r1⟩ := Dp.reads I d x v hd rx
  obtain ⟨bs, r2⟩ := Dp.reads I e y u he ry
  exact PySem.W.ge_data r1 r2 ha hn (by have := Nat.min_le_left d.depth e.depth; omega) ⟨.bl _, H, I, rfl, q⟩
theorem op_gtD (hu : X.A.units + 64 < cLine) : OpR X (compareOp .Gt) (rOrd (fun d e => PySem.W.dataLt e d) X.K) := by
  intro pins s σ H x y v u Q I rx ry ⟨d, e, hd, he, ha, hn, hz, q⟩
  obtain ⟨as, r1⟩ := Dp.reads I d x v hd rx
  obtain ⟨bs, r2⟩ := Dp.reads I e y u he ry
  exact PySem.W.gt_data r1 r2 ha hn (by have := Nat.min_le_left d.depth e.depth; omega) ⟨.bl _, H, I, rfl, q⟩
theorem op_leD (hu : X.A.units + 64 < cLine) : OpR X (compareOp .LtE) (rOrd (fun d e => !PySem.W.dataLt e d) X.K) := by
  intro pins s σ H x y v u Q I rx ry ⟨d, e, hd, he, ha, hn, hz, q⟩
  obtain ⟨as, r1⟩ := Dp.reads I d x v hd rx
  obtain ⟨bs, r2⟩ := Dp.reads I e y u he ry
  exact PySem.W.le_data r1 r2 ha hn (by have := Nat.min_le_left d.depth e.depth; omega) ⟨.bl _, H, I, rfl, q⟩
end
/-! ### year, month, day, time -/
def key4 (a b c : Int) (x : Str) : PyData := .tuple [.int a, .int b, .int c, .str x]
theorem key4_alike (a b c : Int) (x : Str) (a' b' c' : Int) (x' : Str) : PySem.W.alike (key4 a b c x) (key4 a' b' c' x') = true := by simp [key4, PySem.W.alike, PySem.W.alikeAll]
theorem key4_lt (a b c : Int) (x : Str) (a' b' c' : Int) (x' : Str) : PySem.W.dataLt (key4 a b c x) (key4 a' b' c' x') = true ↔ a < a' ∨ (a = a' ∧ (b < b' ∨ (b = b' ∧ (c < c' ∨ (c = c' ∧ tl x < tl x'))))) := by
  unfold PySem.W.dataLt key4
  simp only [PySem.W.keyToks, PySem.W.keyToksAll, List.cons_append, List.nil_append]
  rw [lex_self]
  rcases Int.lt_trichotomy a a' with h | h | h
  · rw [lex_diff (O := itemOrd) (fun e => by cases e; omega)]
    show decide (a < a') = true ↔ _
    simp [h]
  · subst h
    rw [lex_self, lex_self]
    rcases Int.lt_trichotomy b b' with h | h | h
    · rw [lex_diff (O := itemOrd) (fun e => by cases e; omega)]
      show decide (b < b') = true ↔ _
      simp [h]
    · subst h
      rw [lex_self, lex_self]
      rcases Int.lt_trichotomy c c' with h | h | h
      · rw [lex_diff (O := itemOrd) (fun e => by cases e; omega)]
        show decide (c < c') = true ↔ _
        simp [h]
      · subst h
        rw [lex_self, lex_self]
        by_cases hx : tl x = tl x'
        · rw [show x.cps.toList = x'.cps.toList from hx, lex_self, lex_irrefl]
          simp [hx, Int.lt_irrefl]
        · rw [lex_diff (O := itemOrd) (fun e => hx (Sum.inr.inj e))]
          show decide (tl x < tl x') = true ↔ _
          simp [Int.lt_irrefl]
      · rw [lex_diff (O := itemOrd) (fun e => by cases e; omega)]
        show decide (c < c') = true ↔ _
        simp only [decide_eq_true_eq]; omega
    · rw [lex_diff (O := itemOrd) (fun e => by cases e; omega)]
      show decide (b < b') = true ↔ _
      simp only [decide_eq_true_eq]; omega
  · rw [lex_diff (O := itemOrd) (fun e => by cases e; omega)]
    show decide (a < a') = true ↔ _
    simp only [decide_eq_true_eq]; omega
end Kb
namespace Kb
open PySem PySem.Spec PyProof.Rows L2 TL
theorem pad2_two : ∀ n, n < 100 → padL 2 n = [48 + n / 10, 48 + n % 10] := by decide +kernel
/-- a time as text -/
def clockL (h n s : Int) : List Nat := timeL (padL 2 h.toNat) (padL 2 n.toNat) (padL 2 s.toNat)
theorem clock_eq {h n s : Int} (h1 : 0 ≤ h) (h2 : h < 24) (n1 : 0 ≤ n) (n2 : n < 60) (s1 : 0 ≤ s) (s2 : s < 60) :
    clockL h n s = [48 + h.toNat / 10, 48 + h.toNat % 10, 58, 48 + n.toNat / 10, 48 + n.toNat % 10, 58, 48 + s.toNat / 10, 48 + s.toNat % 10] := by
  unfold clockL timeL
  rw [pad2_two _ (by omega), pad2_two _ (by omega), pad2_two _ (by omega)]
  rfl
theorem clock_lt {t y m d h n s t' y' m' d' h' n' s' : Int} (a : Dat t y m d h n s) (b : Dat t' y' m' d' h' n' s') : clockL h n s < clockL h' n' s' ↔ 3600 * h + 60 * n + s < 3600 * h' + 60 * n' + s' := by
  obtain ⟨_, _, _, _, _, _, h1, h2, n1, n2, s1, s2, _⟩ := a
  obtain ⟨_, _, _, _, _, _, g1, g2, k1, k2, r1, r2, _⟩ := b
  rw [clock_eq h1 h2 n1 n2 s1 s2, clock_eq g1 g2 k1 k2 r1 r2]
  simp only [List.cons_lt_cons_iff, List.lt_irrefl, List.not_lt_nil, true_and, and_false, or_false]
  omega
theorem clock_inj {t y m d h n s t' y' m' d' h' n' s' : Int} (a : Dat t y m d h n s) (b : Dat t' y' m' d' h' n' s') (e : clockL h n s = clockL h' n' s') : h = h' ∧ n = n' ∧ s = s' := by
  obtain ⟨_, _, _, _, _, _, h1, h2, n1, n2, s1, s2, _⟩ := a
  obtain ⟨_, _, _, _, _, _, g1, g2, k1, k2, r1, r2, _⟩ := b
  rw [clock_eq h1 h2 n1 n2 s1 s2, clock_eq g1 g2 k1 k2 r1 r2] at e
  simp only [List.cons.injEq] at e
  omega
/-- the later tick has the later key -/
theorem Dat.key_lt {t y m d h n s t' y' m' d' h' n' s' : Int} {x x' : Str} (a : Dat t y m d h n s) (b : Dat t' y' m' d' h' n' s') (ex : tl x = clockL h n s) (ex' : tl x' = clockL h' n' s') :
    PySem.W.dataLt (key4 y m d x) (key4 y' m' d' x') = decide (t < t') := by
  rw [Bool.eq_iff_iff, key4_lt, decide_eq_true_eq, ex, ex', clock_lt a b]
  obtain ⟨a1, a2, a3, a4, a5, a6⟩ := a.day
  obtain ⟨b1, b2, b3, b4, b5, b6⟩ := b.day
  have am1 := a.m1
  have am2 := a.m2
  have bm1 := b.m1
  have bm2 := b.m2
  have ay := a.y1
  have bye := b.y1
  constructor
  · rintro (q | ⟨rfl, q | ⟨rfl, q | ⟨rfl, q⟩⟩⟩)
    · have := dbf_le (y := y + 1) (z := y') (by omega) (by omega); omega
    · have := dbm_le y (m := m.toNat + 1) (n := m'.toNat) (by omega) (by omega) (by omega); omega
    · omega
    · omega
  · intro q
    rcases Int.lt_trichotomy y y' with g | rfl | g
    · exact .inl g
    · refine .inr ⟨rfl, ?_⟩
      rcases Int.lt_trichotomy m m' with g | rfl | g
      · exact .inl g
      · refine .inr ⟨rfl, ?_⟩
        rcases Int.lt_trichotomy d d' with g | rfl | g
        · exact .inl g
        · exact .inr ⟨rfl, by omega⟩
        · omega
      · have := dbm_le y (m := m'.toNat + 1) (n := m.toNat) (by omega) (by omega) (by omega); omega
    · have := dbf_le (y := y' + 1) (z := y) (by omega) (by omega); omega
theorem Dat.key_eq {t y m d h n s t' y' m' d' h' n' s' : Int} {x x' : Str} (a : Dat t y m d h n s) (b : Dat t' y' m' d' h' n' s') (ex : tl x = clockL h n s) (ex' : tl x' = clockL h' n' s') :
    PyData.eqv (key4 y m d x) (key4 y' m' d' x') = decide (t = t') := by
  unfold key4
  rw [Bool.eq_iff_iff, decide_eq_true_eq]
  simp only [PyData.eqv, PyData.eqvAll, Bool.and_eq_true, Bool.and_true, beq_iff_eq]
  constructor
  · rintro ⟨e1, e2, e3, e4⟩
    subst e1 e2 e3 e4
    obtain ⟨q1, q2, q3⟩ := clock_inj a b (ex.symm.trans ex')
    subst q1 q2 q3
    exact a.e.trans b.e.symm
  · rintro rfl
    obtain ⟨rfl, rfl, rfl, rfl, rfl, rfl⟩ := a.uniq b
    exact ⟨rfl, rfl, rfl, ext_tl (ex.trans ex'.symm)⟩
end Kb
namespace Kb
open PySem PySem.Spec PyProof.Rows L2 TL
/-! ### the words of a written date -/
def dateWords (t y m dd hh mm ss : Int) : List (List Nat) := [weekL t ++ [44], padL 2 dd.toNat, monL m, padL 4 y.toNat, clockL hh mm ss, [71, 77, 84]]
theorem date_joinW (t y m dd hh mm ss : Int) : weekL t ++ ([44, 32] ++ restL y m dd hh mm ss) = joinL [32] (dateWords t y m dd hh mm ss) := by
  unfold dateWords restL clockL timeL
  simp only [joinL, List.append_assoc, List.cons_append, List.nil_append]
theorem noblank_dig {l : List Nat} (h : digB l = true) : (32 : Nat) ∉ l := fun hm => by
  have := (digB_iff.mp h).1 32 hm
  omega
theorem week_free : ∀ x ∈ weekN, (32 : Nat) ∉ tl x := by decide +kernel
theorem mon_free : ∀ x ∈ monN, (32 : Nat) ∉ tl x := by decide +kernel
theorem mon_in (m : Int) (h1 : 1 ≤ m) (h2 : m ≤ 12) : monN.getD (m.toNat - 1) "" ∈ monN := by
  have hk : m.toNat - 1 < monN.length := by show _ < 12; omega
  rw [List.getD_eq_getElem?_getD, List.getElem?_eq_getElem hk]
  exact List.getElem_mem hk
theorem week_in (t : Int) : weekN.getD ((t / 86400 + 3) % 7).toNat "" ∈ weekN := by
  have hk : ((t / 86400 + 3) % 7).toNat < weekN.length := by show _ < 7; omega
  rw [List.getD_eq_getElem?_getD, List.getElem?_eq_getElem hk]
  exact List.getElem_mem hk
theorem Dat.words {t y m dd hh mm ss : Int} (c : Dat t y m dd hh mm ss) : sp1 32 (weekL t ++ ([44, 32] ++ restL y m dd hh mm ss)) = dateWords t y m dd hh mm ss := by
  rw [date_joinW]
  refine sp1_joinL (by simp [dateWords]) fun p hp => ?_
  have d3 := dom_le y (m := m.toNat) (by have := c.m1; omega) (by have := c.m2; omega)
  have d1 := c.d1
  have d2 := c.d2
  have h1 := c.h2
  have n1 := c.n2
  have s1 := c.s2
  have y1 := c.y1
  have y2 := c.y2
  simp only [dateWords, List.mem_cons, List.not_mem_nil, or_false] at hp
  rcases hp with rfl | rfl | rfl | rfl | rfl | rfl
  · intro hm
    rcases List.mem_append.mp hm with q | q
    · exact week_free _ (week_in t) q
    · simp at q
  · exact noblank_dig (pad2 (by omega)).1
  · exact mon_free _ (mon_in m c.m1 c.m2)
  · rw [pad4 (by omega) (by omega)]; exact noblank_dig (num4 (by omega) (by omega)).1
  · rw [clock_eq c.h1 c.h2 c.n1 c.n2 c.s1 c.s2]
    simp only [List.mem_cons, List.not_mem_nil, or_false]
    omega
  · decide
theorem Dat.dd_int {t y m dd hh mm ss : Int} (c : Dat t y m dd hh mm ss) : digB (padL 2 dd.toNat) = true ∧ valL (padL 2 dd.toNat) = dd.toNat := by
  have d3 := dom_le y (m := m.toNat) (by have := c.m1; omega) (by have := c.m2; omega)
  have d1 := c.d1
  have d2 := c.d2
  have p := pad2 (n := dd.toNat) (by omega)
  exact ⟨p.1, p.2.2.1⟩
theorem Dat.yy_int {t y m dd hh mm ss : Int} (c : Dat t y m dd hh mm ss) : digB (padL 4 y.toNat) = true ∧ valL (padL 4 y.toNat) = y.toNat ∧ (padL 4 y.toNat).length = 4 := by
  have y1 := c.y1
  have y2 := c.y2
  have z := num4 (n := y.toNat) (by omega) (by omega)
  rw [pad4 (by omega) (by omega)]
  exact ⟨z.1, z.2.2, z.2.1⟩
end Kb
namespace Kb
open PySem PySem.Spec PyProof.Rows L2 TL
theorem mon_find : ∀ m, m < 12 → Txt.find ("JanFebMarAprMayJunJulAugSepOctNovDec" : Str) (monN.getD m "") = (3 * (m : Nat) : Int) := by decide +kernel
end Kb
namespace Kb
open PySem PySem.Spec PyProof.Rows L2 TL
theorem week_len : ∀ x ∈ weekN, (tl x).length = 3 ∧ ∀ c ∈ tl x, c < 128 := by decide +kernel
theorem Dat.wlen {t y m dd hh mm ss : Int} (c : Dat t y m dd hh mm ss) : ∀ l ∈ dateWords t y m dd hh mm ss, l.length ≤ 8 ∧ ∀ s ∈ l, s < 128 := by
  intro l hl
  have d3 := dom_le y (m := m.toNat) (by have := c.m1; omega) (by have := c.m2; omega)
  have d1 := c.d1
  have d2 := c.d2
  have y1 := c.y1
  have y2 := c.y2
  simp only [dateWords, List.mem_cons, List.not_mem_nil, or_false] at hl
  rcases hl with rfl | rfl | rfl | rfl | rfl | rfl
  · have := week_len _ (week_in t)
    refine ⟨by rw [List.length_append]; show (weekL t).length + 1 ≤ 8; unfold weekL; omega, fun s hs => ?_⟩
    rcases List.mem_append.mp hs with q | q
    · exact this.2 s q
    · simp at q; omega
  · have p := pad2 (n := dd.toNat) (by omega)
    exact ⟨by omega, fun s hs => dig_ascii p.1 s hs⟩
  · obtain ⟨f1, f2, f3, f4, f5⟩ := monL_ok c.m1 c.m2
    exact ⟨by omega, f4⟩
  · have z := c.yy_int
    exact ⟨by omega, fun s hs => dig_ascii z.1 s hs⟩
  · have h1 := c.h2
    have n1 := c.n2
    have s1 := c.s2
    have h0 := c.h1
    have n0 := c.n1
    have s0 := c.s1
    rw [clock_eq h0 h1 n0 n1 s0 s1]
    refine ⟨by simp, fun s hs => ?_⟩
    simp only [List.mem_cons, List.not_mem_nil, or_false] at hs
    omega
  · exact ⟨by decide, by decide⟩
theorem Dat.len {t y m dd hh mm ss : Int} (c : Dat t y m dd hh mm ss) {x : Str} (e : tl x = weekL t ++ ([44, 32] ++ restL y m dd hh mm ss)) : x.length ≤ 54 := by
  rw [len_tl, e, date_joinW]
  have := joinL_len (c := 32) (B := 8) (dateWords t y m dd hh mm ss) fun l hl => (c.wlen l hl).1
  have e6 : (dateWords t y m dd hh mm ss).length = 6 := rfl
  omega
end Kb
namespace Kb
open PySem PySem.Spec PyProof.Rows L2 TL
theorem dom_dec (y : Int) : domI y 12 = 31 := by unfold domI; rw [if_neg (by omega)]; rfl
/-- the day behind -/
theorem Dat.next {t y m dd hh mm ss y' m' dd' hh' mm' ss' : Int} (c : Dat t y m dd hh mm ss) (c' : Dat (t + 86400) y' m' dd' hh' mm' ss') :
    (hh = hh' ∧ mm = mm' ∧ ss = ss') ∧ ((dd < 31 ∧ y' = y ∧ m' = m ∧ dd' = dd + 1) ∨ (27 < dd ∧ dd' = 1 ∧ ((m < 12 ∧ m' = m + 1 ∧ y' = y) ∨ (m = 12 ∧ m' = 1 ∧ y' = y + 1)))) := by
  have c0 := c
  obtain ⟨y1, y2, m1, m2, d1, d2, h1, h2, n1, n2, s1, s2, e⟩ := c
  have g1 := dom_ge y (m := m.toNat) (by omega) (by omega)
  have g2 := dom_le y (m := m.toNat) (by omega) (by omega)
  rcases Int.lt_or_le dd (domI y m.toNat) with h | h
  · have n : Dat (t + 86400) y m (dd + 1) hh mm ss := ⟨y1, y2, m1, m2, by omega, by omega, h1, h2, n1, n2, s1, s2, by omega⟩
    obtain ⟨q1, q2, q3, q4, q5, q6⟩ := n.uniq c'
    exact ⟨⟨q4, q5, q6⟩, .inl ⟨by omega, q1.symm, q2.symm, q3.symm⟩⟩
  · have hd : dd = domI y m.toNat := by omega
    rcases Int.lt_or_le m 12 with k | k
    · have b1 := dbm_succ y (m := m.toNat) (by omega)
      have b2 := dom_ge y (m := m.toNat + 1) (by omega) (by omega)
      have n : Dat (t + 86400) y (m + 1) 1 hh mm ss := ⟨y1, y2, by omega, by omega, by omega, by rw [show (m + 1).toNat = m.toNat + 1 by omega]; omega, h1, h2, n1, n2, s1, s2, by rw [show (m + 1).toNat = m.toNat + 1 by omega]; omega⟩
      obtain ⟨q1, q2, q3, q4, q5, q6⟩ := n.uniq c'
      exact ⟨⟨q4, q5, q6⟩, .inr ⟨by omega, q3.symm, .inl ⟨k, q2.symm, q1.symm⟩⟩⟩
    · obtain rfl : m = 12 := by omega
      have b1 : dbmI y 13 = dbmI y 12 + domI y 12 := dbm_succ y (m := 12) (by omega)
      have b2 : dbmI y 13 = ydI y := dbm_13 y
      have b3 := dbf_succ y
      have b4 := c'.day
      have b5 := c'.y2
      have b6 := dom_ge (y + 1) (m := 1) (by omega) (by omega)
      have e12 : (12 : Int).toNat = 12 := rfl
      rw [e12] at e hd
      have ee : t + 86400 = 86400 * (dbfI (y + 1) + 0 + 1 - 1) + 3600 * hh + 60 * mm + ss := by omega
      have hy : y + 1 ≤ 9999 := by
        rcases Int.lt_or_le 9999 (y + 1) with g | g
        · have := dbf_le (y := y' + 1) (z := y + 1) (by have := c'.y1; omega) (by omega)
          omega
        · exact g
      have n : Dat (t + 86400) (y + 1) 1 1 hh mm ss := ⟨by omega, hy, by omega, by omega, by omega, by show 1 ≤ domI (y + 1) 1; omega, h1, h2, n1, n2, s1, s2, ee⟩
      obtain ⟨q1, q2, q3, q4, q5, q6⟩ := n.uniq c'
      exact ⟨⟨q4, q5, q6⟩, .inr ⟨by omega, q3.symm, .inr ⟨rfl, q2.symm, q1.symm⟩⟩⟩
def wkc : List Str := ["Sun,", "Mon,", "Tue,", "Wed,", "Thu,", "Fri,", "Sat,"]
theorem wkc_is : ∀ i, i < 7 → tl (weekN.getD i "") ++ [44] = tl (wkc.getD ((i + 1) % 7) "") := by decide +kernel
theorem wkc_at : ∀ i, i < 7 → ∀ j, j < i → wkc.getD j "" ≠ wkc.getD i "" := by decide +kernel
/-- the word of a day among the seven -/
theorem week_word {t : Int} {w : Str} (e : tl w = weekL t ++ [44]) : w = wkc.getD ((t / 86400 + 4) % 7).toNat "" := by
  refine ext_tl (e.trans ?_)
  unfold weekL
  rw [wkc_is _ (by omega)]
  congr 2
  omega
end Kb
namespace Kb
open PySem PySem.Spec PyProof.Rows L2 TL
/-- the four words of a written date in any order -/
theorem Dat.order_read {t y m dd hh mm ss : Int} (c : Dat t y m dd hh mm ss) (h0 : 0 ≤ t) {w1 w2 w3 w4 : Str} (e1 : tl w1 = padL 2 dd.toNat) (e2 : tl w2 = monL m) (e3 : tl w3 = padL 4 y.toNat) (e4 : tl w4 = clockL hh mm ss) {o : List Nat} (ho : o.Perm (List.range 4)) :
    dateR (tl (Txt.join (" " : Str) (o.map fun k => [w1, w2, w3, w4].getD k ""))) = some t := by
  obtain ⟨f1, f2, f3, f4, f5⟩ := monL_ok c.m1 c.m2
  have c' := c
  obtain ⟨y1, y2, m1, m2, d1, d2, h1, h2, n1, n2, s1, s2, e⟩ := c'
  have d3 := dom_le y (m := m.toNat) (by omega) (by omega)
  obtain ⟨p1, p2, p3, _⟩ := pad2 (n := dd.toNat) (by omega)
  obtain ⟨q1, q2, q3, _⟩ := pad2 (n := hh.toNat) (by omega)
  obtain ⟨r1, r2, r3, _⟩ := pad2 (n := mm.toNat) (by omega)
  obtain ⟨u1, u2, u3, _⟩ := pad2 (n := ss.toNat) (by omega)
  obtain ⟨z1, z2, z3⟩ := num4 (n := y.toNat) (by omega) (by omega)
  have z0 := pad4 (n := y.toNat) (by omega) (by omega)
  rw [← z0] at z1 z2 z3
  obtain ⟨kt, tt⟩ := KT_of q1 r1 u1 (by omega) (by omega) (by omega)
  have ky := KY_of z1 z2
  have hk4 : ∀ k ∈ o, k < 4 := fun k hk => List.mem_range.mp (ho.mem_iff.mp hk)
  have eT : (o.map fun k => [w1, w2, w3, w4].getD k "") = (o.map fun k => (k + 1) % 4).map fun k => [w4, w1, w2, w3].getD k "" := by
    rw [List.map_map]
    refine List.map_congr_left fun k hk => ?_
    have := hk4 k hk
    match k, this with
    | 0, _ => rfl
    | 1, _ => rfl
    | 2, _ => rfl
    | 3, _ => rfl
  have hp : (o.map fun k => (k + 1) % 4).Perm [0, 1, 2, 3] := (ho.map _).trans (by decide)
  rw [eT]
  generalize (o.map fun k => (k + 1) % 4) = o' at hp ⊢
  have ok : ∀ w ∈ o'.map (fun k => [w4, w1, w2, w3].getD k ""), tokOk (tl w) := fun w hw => by
    obtain ⟨k, hk, rfl⟩ := List.mem_map.mp hw
    have hk := hp.mem_iff.mp hk
    simp only [List.mem_cons, List.not_mem_nil, or_false] at hk
    rcases hk with rfl | rfl | rfl | rfl
    · show tokOk (tl w4); rw [e4]; exact tt
    · show tokOk (tl w1); rw [e1]; exact dig_tok p1
    · show tokOk (tl w2); rw [e2]; exact f3
    · show tokOk (tl w3); rw [e3]; exact dig_tok z1
  have key := date_of_txt (x := Txt.join (" " : Str) (o'.map fun k => [w4, w1, w2, w3].getD k "")) (a := w4) (b := w1) (c := w2) (e := w3) (o := o')
    (by rw [e4]; exact kt) (by rw [e1]; exact KD_of p1 (by omega)) (by rw [e2]; exact f1) (by rw [e3]; exact ky.a) (by rw [e3]; exact ky.c) (by rw [e3]; exact ky.d) hp
    (fun z => absurd z (by rw [e3, ky.b]; exact Bool.false_ne_true)) (A := (o'.map fun k => [w4, w1, w2, w3].getD k "").map tl) (E := []) (by
      rw [List.append_nil, join_tl]
      exact toks_join (s := tl (" " : Str)) (by decide +kernel) (by decide +kernel) _ fun l hl => by obtain ⟨w, hw, rfl⟩ := List.mem_map.mp hl; exact ok w hw) rfl
  rw [key, e1, e2, e3, e4, ← c.due h0]
  exact tick_due q1 r1 u1 (by omega) (by omega) (by omega) (by omega) f2 (by rw [year4 z2]; omega) (by omega) m1 m2 d1 d2 h1 h2 n1 n2 s1 s2
end Kb
namespace Kb
open PySem PySem.Spec PyProof.Rows L2 TL
theorem leap_400 (y r : Int) : leapB (y + 400 * r) = leapB y := by
  rw [Bool.eq_iff_iff, leap_iff, leap_iff]
  omega
theorem dom_400 (y r : Int) (m : Nat) : domI (y + 400 * r) m = domI y m := by unfold domI; rw [leap_400]
theorem dbm_400 (y r : Int) (m : Nat) : dbmI (y + 400 * r) m = dbmI y m := by
  unfold dbmI
  simp only [dom_400]
/-- rounds of 400 years -/
theorem Dat.rounds {t y m dd hh mm ss y' m' dd' hh' mm' ss' r : Int} (c : Dat t y m dd hh mm ss) (h0 : 0 ≤ t) (hr : 0 ≤ r) (hl : t + 86400 * 146097 * r ≤ lastT) (c' : Dat (t + 86400 * 146097 * r) y' m' dd' hh' mm' ss') :
    y' = y + 400 * r ∧ m' = m ∧ dd' = dd ∧ hh' = hh ∧ mm' = mm ∧ ss' = ss ∧ weekL (t + 86400 * 146097 * r) = weekL t := by
  have d := c.day
  obtain ⟨y1, y2, m1, m2, d1, d2, h1, h2, n1, n2, s1, s2, e⟩ := c
  have eb : dbfI (y + 400 * r) = dbfI y + 146097 * r := by unfold dbfI; rw [dto_400]; omega
  have hy : y + 400 * r ≤ 9999 := by
    unfold lastT at hl
    exact year_end (d := t / 86400 + 146097 * r) (by omega) (by omega) (by omega)
  have n : Dat (t + 86400 * 146097 * r) (y + 400 * r) m dd hh mm ss := ⟨by omega, hy, m1, m2, d1, by rw [dom_400]; exact d2, h1, h2, n1, n2, s1, s2, by rw [eb, dbm_400, e]; omega⟩
  obtain ⟨q1, q2, q3, q4, q5, q6⟩ := n.uniq c'
  refine ⟨q1.symm, q2.symm, q3.symm, q4.symm, q5.symm, q6.symm, ?_⟩
  unfold weekL
  have : (t + 86400 * 146097 * r) / 86400 = t / 86400 + 146097 * r := by omega
  rw [this]
  congr 2
  omega
end Kb

namespace Kb
open PySem PySem.Spec PyProof.Rows L2 TL
/-! ### defs whose body begins with a token out: str.replace of written texts -/
section
variable {X : Cx} {st : List Stmt} {t : TS}
theorem psst_nox (h : PSsT X.nox st t) : PSsT X st t := fun pins s σ H D h0 I hw =>
  wpAny_mono (h pins s σ H D h0 (I.wish _) hw) (fun _ _ q => q.unwish) fun _ _ z => False.elim z
theorem pst_set {i : Nat} {x : Str} {e : Expr} {te : TE} {pos' pos : Pos} (hN : X.N.Nodup) (hi : X.N[i]? = some x) (hx : Loc X.env.scope x) (he : PET X e te) (hs : swapsWith e (some (.Name x pos')) pos.line X.env = pure false := by rfl)
    (hf : X.fn x = true ∨ X.env.scope.names.lookup x = some .local := by first | exact .inl rfl | exact .inr rfl | assumption) :
    PST X (.Assign [.Name x pos'] e pos) (tAsg te (gName i)) := by
  intro pins s σ H D h0 I h
  refine wpAny_Assign_Name (thn (he pins s σ H _ h0 I h) fun v s1 ⟨y, H1, I1, r1, q1⟩ => ?_) hs
  exact store_ok I1 hN hi hx r1 (fun s2 I2 => ⟨_, H1, I2, q1⟩) hf
theorem pet_split {o e : Expr} {to te : TE} {apos pos : Pos} (ho : PET X o to) (he : PE X e te) (hs : starEach [e] X.env = [(false, eval e X.env)] := by rfl) (hbase : attributeBase o "split" X.env (eval o X.env) = eval o X.env := by rfl) (hline : (apos.endLine == pos.line) = true := by rfl) :
    PET X (.Call (.Attribute o "split" apos) [e] [] pos) (tM1 (fun x xs H Q => ∃ a b, x = .str a ∧ xs = [.str b] ∧ (b.length == 0) = false ∧ a.length + 2 ≤ sizeLine ∧ rNewStrs (Txt.split a b) H Q) to te) := by
  intro pins s σ H Q h0 I h
  refine PySem.Call_method1 hbase hs hline (thn (ho pins s σ H _ h0 I h) fun v s1 ⟨x, H1, I1, r1, q1⟩ => ?_)
  obtain ⟨⟨a, rfl⟩, q1⟩ := q1
  obtain ⟨ta, rfl⟩ := r1
  refine ⟨"str", _, F.plainAttrs_str, F.slot_str_split, F.type_str_split, typeIs_str _ _ _, (fun _ e => nomatch e), Calls.callWith_builtin rfl (Calls.evalArgs_plain (Calls.spliced_cons ?_))⟩
  exact thn (he.run pins s1 σ H1 _ I1 q1) fun u s2 ⟨y, H2, I2, r2, q2⟩ => Calls.spliced_nil (mt_split pins s2 σ H2 (.str a) [y] (.str a ta) [u] Q I2 ⟨ta, rfl⟩ (.cons r2 .nil) q2)
end
section
variable {M : Model} {A : Around} {E : Value → Shared → Prop} {s : Shared}
theorem wpAny_newEnvT {scope : Scope} {globals : Addr} {binds : List (Str × Value)} {n : Str} {v : Value} {r : List (Str × Value)} {qual : Str} {func : Option Addr} {code : Value} {builtins : Addr} {Q : Env → Shared → Prop}
    (hk : scope.kind = .function) (hb : binds = (n, v) :: r) (hn : scope.names.lookup n = some .local)
    (hkind : ∀ x ∈ binds, scope.names.lookup x.1 = some .local ∨ (scope.names.lookup x.1 = some .cell ∧ ((cellsFrom (s.heap.objs.size + 1) scope.names []).lookup x.1).isSome = true))
    (hQ : ∀ env, env = newEnv scope s.heap.objs.size globals (cellsFrom (s.heap.objs.size + 1) scope.names []) qual func code none builtins →
      ∀ s', InCallC s env.locals (bindL env.kindOf binds fun _ => none) env.cells (bindC env.kindOf binds fun _ => none) s' → 1 ≤ s'.toks → Q env s') :
    wpAny M A (newFunctionEnv scope globals [] binds qual func code none builtins) Q E s := by
  simp only [newFunctionEnv, Option.isSome_none, Bool.false_eq_true, if_false]
  refine wpAny_bind (wpAny_alloc ?_)
  refine wpAny_bind (wpAny_layCells _ (fun name kind cells => by cases hkc : kind == NameKind.cell <;> simp [hkc]) _ _ _ _ ?_)
  have ok := cellsFrom_ok scope.names (s.heap.push { cls := .type "frame", data := .dict #[] }) (s.heap.objs.size + 1) [] ⟨fun _ _ hm => (nomatch hm), List.Pairwise.nil⟩ (by rw [Heap.size_push]; exact Nat.le_refl _)
  rw [Heap.size_push] at ok
  rw [show ({ s with heap := s.heap.push { cls := .type "frame", data := .dict #[] } } : Shared).heap.objs.size = s.heap.objs.size + 1 from Heap.size_push ..]
  subst hb
  have x0 : InCallC s (newEnv scope s.heap.objs.size globals (cellsFrom (s.heap.objs.size + 1) scope.names []) qual func code none builtins).locals (fun _ => none) (newEnv scope s.heap.objs.size globals (cellsFrom (s.heap.objs.size + 1) scope.names []) qual func code none builtins).cells (fun _ => none) { s with heap := pushCells (s.heap.push { cls := .type "frame", data := .dict #[] }) scope.names } :=
    ⟨⟨⟨_, _, rfl⟩, (Heap.Ns.new s.heap (.type "frame")).keeps (pushCells_keeps _ _), fun b o e => pushCells_keeps _ _ b o (Heap.get?_push_of_some _ e), Nat.le_refl _⟩,
      fun n c hc => (ok.empty n c (mem_of_lookup hc)).1, ok.apart, fun n c hm => (ok.empty n c hm).2⟩
  have hl : (newEnv scope s.heap.objs.size globals (cellsFrom (s.heap.objs.size + 1) scope.names []) qual func code none builtins).kindOf n = some .local := hn
  refine wpAny_bind ?_
  rw [List.forIn_cons]
  refine wpAny_bind (wpAny_bind ?_)
  refine wpAny_storeName_local hl x0.toInCall.ns (fun h' hn' hs' => ?_) (by show (scope.kind == .class || (scope.kind == .module && _)) = false; rw [hk]; rfl)
  refine wpAny_pure ?_
  have x1 : InCallC s (newEnv scope s.heap.objs.size globals (cellsFrom (s.heap.objs.size + 1) scope.names []) qual func code none builtins).locals (fun y => if y = n then some v else none) (newEnv scope s.heap.objs.size globals (cellsFrom (s.heap.objs.size + 1) scope.names []) qual func code none builtins).cells (fun _ => none) { s with heap := h', toks := s.toks + 1 } :=
    ⟨⟨⟨h', _, rfl⟩, hn', fun b o e => hs'.extBut b o (Nat.ne_of_lt (Heap.lt_size e)) (x0.toInCall.keep b o e), x0.toInCall.fresh⟩, fun k c hc => (x0.cell k c hc).sameBut hs' (Nat.ne_of_gt (x0.above k c (mem_of_lookup hc))), x0.apart, x0.above⟩
  refine wpAny_mono (wpAny_toks (wpAny_bindParams (s₀ := s) (env := newEnv scope s.heap.objs.size globals (cellsFrom (s.heap.objs.size + 1) scope.names []) qual func code none builtins) _ (fun _ _ _ => rfl) hk r _ _ _
    (fun _ s' => InCallC s s.heap.objs.size (bindL (newEnv scope s.heap.objs.size globals (cellsFrom (s.heap.objs.size + 1) scope.names []) qual func code none builtins).kindOf ((n, v) :: r) fun _ => none) (cellsFrom (s.heap.objs.size + 1) scope.names []) (bindC (newEnv scope s.heap.objs.size globals (cellsFrom (s.heap.objs.size + 1) scope.names []) qual func code none builtins).kindOf ((n, v) :: r) fun _ => none) s') x1
    (fun y hy => hkind y (List.mem_cons_of_mem _ hy)) fun s'' x'' => ?_)) (fun _ s' ⟨ht, x⟩ => wpAny_pure (hQ _ rfl s' x ?_)) fun _ _ z => z.2
  · unfold bindL bindC; rw [if_pos hl, if_pos hl]; exact x''
  · exact Nat.le_trans (Nat.le_add_left _ _) ht
end
section
variable {P : Program} {w : World} {K : PySem.W.Frag} {mg : Str → Option Value} {base : Heap}
theorem fn_ofTC {CX : CXT} {k : Nat} {f : Addr} {name qual : Str} {params : Arguments} {body : List Stmt} {scope : Scope} {dV kV doc pm cdv ct oc : Value} {an od : Option Addr}
    {osl : Array (Option Value)} {N ps : List Str} {sp : Sp} {p0 : Str} {pr : List Str} (lk : K.lookup f = some ⟨oc, od, .func (PySem.W.fnOf name qual params body scope dV kV doc pm an cdv ct), osl⟩) (hcd : PySem.W.codeIn K cdv qual = true) (S : FnScope N ps scope)
    (hps : ps = p0 :: pr) (hp0 : scope.names.lookup p0 = some .local) (len : ∀ vs H Q E, sp vs H Q E → vs.length = ps.length)
    (hbody : ∀ (A : Around) (outer : List Env) (s : Shared) (H : Hp) (vs : List V) (Q : VK) (E : XK), Room k (A.deeper (envOfC qual scope s.heap.objs.size f cdv)) → sp vs H Q E →
      ∃ t, PSsT (cxOf CX P w K mg base N qual scope f cdv A outer s H E) body t ∧ t { nx := fun _ H' => Q .non H', rt := Q } (L2.start N vs) H) :
    FnOk P w K mg base CX (k + 1) f (PySem.W.fnOf name qual params body scope dV kV doc pm an cdv ct) ps sp := by
  refine ⟨len, fun A outer s H args us vs Q E hr e0 hb r hsp => ?_⟩
  have hl := len _ _ _ _ hsp
  have KX : K.In s.heap := e0.mod.kin.keeps fun b o e => (e0.bs b o e).1
  have lim : s.heap.NoLimit := e0.mod.nolimit.keeps fun b o e => (e0.bs b o e).1
  have hkind : ∀ y ∈ ps.zip us, scope.names.lookup y.1 = some .local ∨ (scope.names.lookup y.1 = some .cell ∧ ((cellsFrom (s.heap.objs.size + 1) scope.names []).lookup y.1).isSome = true) := fun ⟨n, v⟩ hy => by
    rcases S.par n (List.of_mem_zip hy).1 with q | q
    · exact .inl q
    · exact .inr ⟨q, PySem.W.cellsFrom_some _ _ _ (.inl q)⟩
  refine codeAny_call_function hr.depth (KX _ _ lk) rfl S.co S.gen rfl (PySem.W.codeRec_of KX hcd) (hb _ _ _ _ ?_)
  obtain ⟨u0, ur, rfl⟩ : ∃ u0 ur, us = u0 :: ur := by
    have : us.length = ps.length := by rw [← r.length, hl]
    rw [hps] at this
    exact List.exists_cons_of_length_eq_add_one this
  refine wpAny_newEnvT (n := p0) (v := u0) (r := pr.zip ur) S.kind (by rw [hps]; rfl) hp0 hkind fun env he s1 x hto => ?_
  subst he
  refine ⟨lim.keeps x.toInCall.keep, codeAny_func ?_⟩
  obtain ⟨t, ht, hq⟩ := hbody A outer s H vs Q E (hr.deeper _) hsp
  have I : Inv (cxOf CX P w K mg base N qual scope f cdv A outer s H E) [] (L2.start N vs) H s1 := inv_start S hr.hd e0 hl r x
  refine wpAny_mono (ht [] s1 (L2.start N vs) H _ hto I hq) (fun fl s' hs => ?_) fun e s' hs => hs
  have fin : ∀ {σ' : L2.St} {H' : Hp} {v : V} {u : Value}, Inv (cxOf CX P w K mg base N qual scope f cdv A outer s H E) [] σ' H' s' → RelV v u → Q v H' → CE outer P w H s Q u s' :=
    fun {σ' H' v u} J rv q => ⟨v, H', J.os, J.bare, J.base, J.hok, rv, q⟩
  cases fl with
  | ret u =>
    obtain ⟨v, σ', H', J, rv, q⟩ := hs
    exact fin J rv q
  | next =>
    obtain ⟨σ', H', J, q⟩ := hs
    exact fin (v := V.non) (u := Value.none) J rfl q
  | brk =>
    obtain ⟨_, _, _, q⟩ := hs
    exact False.elim q
  | cont =>
    obtain ⟨_, _, _, q⟩ := hs
    exact False.elim q
theorem Df.okT {x p0 : Str} {pr : List Str} {st : Stmt} {N ps : List Str} {k : Nat} {sp : Sp} (D : Df K mg x st ps) (S : FnScope N ps (defScope st)) (hps : ps = p0 :: pr) (hp0 : (defScope st).names.lookup p0 = some .local) (len : ∀ vs H Q E, sp vs H Q E → vs.length = ps.length)
    (hbody : ∀ (f : Addr) (cdv : Value) (A : Around) (outer : List Env) (s : Shared) (H : Hp) (vs : List V) (Q : VK) (E : XK), Room k (A.deeper (envOfC x (defScope st) s.heap.objs.size f cdv)) → sp vs H Q E →
      ∃ t, PSsT (cxOf CX0 P w K mg base N x (defScope st) f cdv A outer s H E).nox (defBody st) t ∧ t { nx := fun _ H' => Q .non H', rt := Q } (L2.start N vs) H) : Cal P w K mg base CX0 (k + 1) x ps sp := by
  obtain ⟨f, fd, F, m, b⟩ := D
  obtain ⟨oc, od, kV, doc, pm, an, cdv, ct, osl, rfl, lk, hcd⟩ := F.ex
  refine ⟨f, _, ?_, m, F.kp, .all b⟩
  refine fn_ofTC lk hcd S hps hp0 len fun A outer s H vs Q E hr hsp => ?_
  obtain ⟨t, h, q⟩ := hbody f cdv A outer s H vs Q E hr hsp
  exact ⟨t, psst_nox h, q⟩
end
end Kb

namespace Kb
open PySem PySem.Spec PyProof.Rows L2 TL
/-! ### a drawn rule without its mark -/
theorem replace_excl (x : Str) : tl (Txt.replace x ("!" : Str) ("" : Str)) = (tl x).filter (· != 33) := by
  have e1 : ("!" : Str) = ⟨#[33]⟩ := ext_tl (by decide +kernel)
  have e2 : ("" : Str) = ⟨#[]⟩ := ext_tl (by decide +kernel)
  rw [e1, e2]
  exact replace_strikes x 33
theorem abc_no33 {L : List (List Nat)} (h : ∀ l ∈ L, abc l) : ∀ c ∈ joinL [46] L, c ≠ 33 := by
  intro c hc
  have : ∀ L : List (List Nat), (∀ l ∈ L, abc l) → ∀ c ∈ joinL [46] L, c = 46 ∨ c = 97 ∨ c = 98 ∨ c = 99 := by
    intro L
    induction L with
    | nil => intro _ c hc; simp [joinL] at hc
    | cons p L ih =>
      intro h c hc
      have hp : ∀ c ∈ p, c = 97 ∨ c = 98 ∨ c = 99 := fun c hc => by
        rcases h p (List.mem_cons_self ..) with rfl | rfl | rfl <;> simp at hc <;> omega
      cases L with
      | nil => have : c ∈ p := by simpa [joinL] using hc
               have := hp c this; omega
      | cons q r =>
        have hc : c ∈ p ++ ([46] ++ joinL [46] (q :: r)) := hc
        rcases List.mem_append.mp hc with g | g
        · have := hp c g; omega
        · rcases List.mem_append.mp g with g | g
          · simp at g; omega
          · exact ih (fun l hl => h l (List.mem_cons_of_mem _ hl)) c g
  have := this L h c hc
  omega
theorem filter_excl {t : List Nat} (h : GenR t) : sp1 46 (t.filter (· != 33)) = patL t := by
  obtain ⟨L, h1, h2, h3, h4⟩ := h.cases
  have hf : (joinL [46] L).filter (· != 33) = joinL [46] L := by
    rw [List.filter_eq_self]
    intro c hc
    exact bne_iff_ne.mpr (abc_no33 h3 c hc)
  rcases h4 with ⟨hx, e, hp⟩ | ⟨hx, e, hp⟩ | ⟨hx, h5, e, hp⟩
  · rw [hp, e, hf, abc_sp1 h1 h3]
  · rw [hp, e]
    show sp1 46 ((42 :: 46 :: joinL [46] L).filter (· != 33)) = _
    rw [List.filter_cons_of_pos (by decide), List.filter_cons_of_pos (by decide), hf]
    show sp1 46 ([42] ++ 46 :: joinL [46] L) = _
    rw [sp1_app, abc_sp1 h1 h3]; rfl
  · rw [hp, e, List.filter_cons_of_neg (by decide), hf, abc_sp1 h1 h3]
/-- place by place -/
def okAt (P Z : List (List Nat)) (j : Nat) : Bool := decide (P[j]? = some [42]) || decide (P[j]? = Z[j]?)
def allAt (P Z : List (List Nat)) (n : Nat) : Bool := (List.range n).all (okAt P Z)
theorem allAt_succ (P Z : List (List Nat)) (n : Nat) : allAt P Z (n + 1) = (allAt P Z n && okAt P Z n) := by
  unfold allAt
  rw [List.range_succ, List.all_append]; simp
theorem allAt_iff (P Z : List (List Nat)) (n : Nat) : allAt P Z n = true ↔ ∀ j, j < n → P[j]? = some [42] ∨ P[j]? = Z[j]? := by
  unfold allAt okAt
  rw [List.all_eq_true]
  simp only [List.mem_range, Bool.or_eq_true, decide_eq_true_eq]
theorem mtL_allAt {t : List Nat} {W : List (List Nat)} (h : GenR t) (hW : ∀ w ∈ W, abc w) (hl : (patL t).length ≤ W.length) : mtL (patL t) W = allAt (patL t) (lastN (patL t).length W) (patL t).length := by
  obtain ⟨L, h1, h2, h3, h4⟩ := h.cases
  have n42 : ∀ {l : List Nat}, abc l → l ≠ [42] := fun h => by rcases h with rfl | rfl | rfl <;> decide
  unfold mtL
  rw [decide_eq_true hl, Bool.true_and]
  have hlen : (lastN (patL t).length W).length = (patL t).length := by rw [lastN_len, Nat.min_eq_left hl]
  have hZ : ∀ w ∈ lastN (patL t).length W, abc w := fun w hw => hW w (lastN_mem hw)
  generalize lastN (patL t).length W = Z at *
  have eq_of : ∀ (P Q : List (List Nat)), P.length = Q.length → (∀ l ∈ P, l ≠ [42]) → ((∀ j, j < P.length → P[j]? = some [42] ∨ P[j]? = Q[j]?) ↔ Q = P) := fun P Q hpq hP => by
    constructor
    · intro g
      apply List.ext_getElem? fun j => ?_
      by_cases hj : j < P.length
      · rcases g j hj with e | e
        · exact absurd rfl (hP _ (List.mem_of_getElem? e))
        · exact e.symm
      · rw [List.getElem?_eq_none (by omega), List.getElem?_eq_none (by omega)]
    · intro g j _; right; rw [g]
  have case1 : patL t = L → (if (patL t).head? = some [42] then decide (Z.tail = (patL t).tail) else decide (Z = patL t)) = allAt (patL t) Z (patL t).length := fun hp => by
    have hn : (patL t).head? ≠ some [42] := fun q => by
      rw [hp] at q
      exact n42 (h3 _ (List.mem_of_mem_head? q)) rfl
    rw [if_neg hn, Bool.eq_iff_iff, decide_eq_true_eq, allAt_iff]
    exact (eq_of (patL t) Z hlen.symm fun l hl => by rw [hp] at hl; exact n42 (h3 l hl)).symm
  rcases h4 with ⟨hx, e, hp⟩ | ⟨hx, e, hp⟩ | ⟨hx, h5, e, hp⟩
  · exact case1 hp
  · rw [hp] at hlen ⊢
    rw [if_pos (show ([42] :: L).head? = some [42] from rfl), Bool.eq_iff_iff, decide_eq_true_eq, allAt_iff]
    obtain ⟨z, Z', rfl⟩ : ∃ z Z', Z = z :: Z' := List.exists_cons_of_ne_nil fun q => by rw [q] at hlen; simp at hlen
    rw [List.tail_cons, List.tail_cons]
    rw [← eq_of L Z' (by simpa using hlen.symm) fun l hl => n42 (h3 l hl)]
    constructor
    · intro g j hj
      cases j with
      | zero => left; rfl
      | succ j => exact g j (by simpa using hj)
    · intro g j hj
      exact g (j + 1) (by simpa using hj)
  · exact case1 hp
end Kb
namespace Kb
open PySem PySem.Spec PyProof.Rows L2 TL
theorem takeF {α : Type} {q : α → Bool} {xs : List α} {i : Nat} {x : α} (h : xs[i]? = some x) : (xs.take (i + 1)).filter q = (xs.take i).filter q ++ (if q x = true then [x] else []) := by
  rw [List.take_add_one, h, List.filter_append]
  congr 1
  by_cases hq : q x = true
  · rw [if_pos hq]; simp [hq]
  · rw [if_neg hq]; simp [hq]
theorem takeF_t {α : Type} {q : α → Bool} {xs : List α} {i : Nat} {x : α} (h : xs[i]? = some x) (hq : q x = true) : (xs.take (i + 1)).filter q = (xs.take i).filter q ++ [x] := by rw [takeF h, if_pos hq]
theorem takeF_f {α : Type} {q : α → Bool} {xs : List α} {i : Nat} {x : α} (h : xs[i]? = some x) (hq : q x = false) : (xs.take (i + 1)).filter q = (xs.take i).filter q := by rw [takeF h, if_neg (by rw [hq]; exact Bool.false_ne_true), List.append_nil]
theorem sp1_len_cons {c x : Nat} (h : x ≠ c) (l : List Nat) : (sp1 c (x :: l)).length = (sp1 c l).length := by
  obtain ⟨p, r, e⟩ := sp1_cons c l
  rw [sp1_miss h e, e]; rfl
theorem GenR.size {t : List Nat} (h : GenR t) : (sp1 46 t).length = (patL t).length := by
  obtain ⟨L, h1, h2, h3, h4⟩ := h.cases
  rcases h4 with ⟨hx, e, hp⟩ | ⟨hx, e, hp⟩ | ⟨hx, h5, e, hp⟩
  · rw [hp, e, abc_sp1 h1 h3]
  · rw [hp, e]
    show (sp1 46 ([42] ++ 46 :: joinL [46] L)).length = _
    rw [sp1_app, abc_sp1 h1 h3]; rfl
  · rw [hp, e, sp1_len_cons (by decide), abc_sp1 h1 h3]
theorem GenR.ne {t : List Nat} (h : GenR t) : ∃ a r, t = a :: r ∧ excT t = decide (a = 33) := by
  obtain ⟨L, h1, h2, h3, h4⟩ := h.cases
  rcases h4 with ⟨hx, e, hp⟩ | ⟨hx, e, hp⟩ | ⟨hx, h5, e, hp⟩
  · obtain ⟨a, r, ea, h33, _⟩ := abc_head h1 h3
    exact ⟨a, r, e.trans ea, by rw [hx, decide_eq_false h33]⟩
  · exact ⟨42, _, e, by rw [hx]; rfl⟩
  · exact ⟨33, _, e, by rw [hx]; rfl⟩
theorem one_excl (c : Nat) : decide (V.str ⟨#[c]⟩ = V.str ("!" : Str)) = decide (c = 33) := by
  rw [show ("!" : Str) = ⟨#[33]⟩ from ext_tl (by decide +kernel), dec_str, Bool.eq_iff_iff, beq_iff_eq, decide_eq_true_eq, str_eq_iff]
  show [c] = [33] ↔ _
  simp
/-- the greatest of sizes, as the law finds it -/
theorem big_max {q : List Nat → Bool} {rs : List (List Nat)} {m : Nat} (h1 : m ∈ (rs.filter q).map (fun t => (patL t).length) ++ [0]) (h2 : ∀ y ∈ (rs.filter q).map (fun t => (patL t).length) ++ [0], y ≤ m) : m = bigN 0 q rs := by
  refine Nat.le_antisymm ?_ ?_
  · rcases List.mem_append.mp h1 with g | g
    · obtain ⟨t, ht, rfl⟩ := List.mem_map.mp g
      obtain ⟨ht, hq⟩ := List.mem_filter.mp ht
      exact bigN_mem q rs 0 t ht hq
    · rw [List.mem_singleton.mp g]; exact Nat.zero_le _
  · rcases bigN_cases q rs 0 with e | ⟨t, ht, hq, e⟩
    · omega
    · rw [e]
      exact h2 _ (List.mem_append_left _ (List.mem_map.mpr ⟨t, List.mem_filter.mpr ⟨ht, hq⟩, rfl⟩))
theorem big_pred {q : List Nat → Bool} {rs : List (List Nat)} {m : Nat} (h0 : rs.filter q ≠ []) (h1 : m ∈ (rs.filter q).map (fun t => (patL t).length - 1) ++ [0]) (h2 : ∀ y ∈ (rs.filter q).map (fun t => (patL t).length - 1) ++ [0], y ≤ m) : m = bigN 0 q rs - 1 := by
  refine Nat.le_antisymm ?_ ?_
  · rcases List.mem_append.mp h1 with g | g
    · obtain ⟨t, ht, rfl⟩ := List.mem_map.mp g
      obtain ⟨ht, hq⟩ := List.mem_filter.mp ht
      have := bigN_mem q rs 0 t ht hq
      show (patL t).length - 1 ≤ _
      omega
    · rw [List.mem_singleton.mp g]; exact Nat.zero_le _
  · rcases bigN_cases q rs 0 with e | ⟨t, ht, hq, e⟩
    · omega
    · rw [e]
      exact h2 _ (List.mem_append_left _ (List.mem_map.mpr ⟨t, List.mem_filter.mpr ⟨ht, hq⟩, rfl⟩))
theorem big_one (q : List Nat → Bool) : ∀ (rs : List (List Nat)) (b : Nat), bigN (max 1 b) q rs = max 1 (bigN b q rs)
  | [], b => rfl
  | t :: rs, b => by
    show bigN (if q t then max (max 1 b) (patL t).length else max 1 b) q rs = max 1 (bigN (if q t then max b (patL t).length else b) q rs)
    by_cases hq : q t = true
    · rw [if_pos hq, if_pos hq, ← big_one q rs]; congr 1; omega
    · rw [if_neg hq, if_neg hq, big_one q rs]
theorem lonN_big (rs w : List (List Nat)) : lonN rs w = max 1 (bigN 0 (fun t => !excT t && mtL (patL t) w) rs) := by
  unfold lonN
  exact big_one _ rs 0
theorem bigN_none {q : List Nat → Bool} {rs : List (List Nat)} (h : rs.filter q = []) : bigN 0 q rs = 0 := by
  rcases bigN_cases q rs 0 with e | ⟨t, ht, hq, e⟩
  · exact e
  · have : t ∈ rs.filter q := List.mem_filter.mpr ⟨ht, hq⟩
    rw [h] at this; cases this
end Kb

namespace Kb
open PySem PySem.Spec PyProof.Rows L2 TL
theorem bigN_same {q : List Nat → Bool} {rs zs : List (List Nat)} {b : Nat} (h : ∀ t, t ∈ rs ↔ t ∈ zs) : bigN b q rs = bigN b q zs := by
  have le : ∀ (rs zs : List (List Nat)), (∀ t, t ∈ rs → t ∈ zs) → bigN b q rs ≤ bigN b q zs := fun rs zs h => by
    rcases bigN_cases q rs b with e | ⟨t, ht, hq, e⟩
    · rw [e]; exact bigN_ge _ _ _
    · rw [e]; exact bigN_mem q zs b t (h t ht) hq
  exact Nat.le_antisymm (le _ _ fun t => (h t).mp) (le _ _ fun t => (h t).mpr)
theorem sufN_same {rs zs w : List (List Nat)} (h : ∀ t, t ∈ rs ↔ t ∈ zs) : sufN rs w = sufN zs w := by
  unfold sufN excN lonN
  rw [bigN_same h, bigN_same h]
theorem famL_same {rs zs w : List (List Nat)} (h : ∀ t, t ∈ rs ↔ t ∈ zs) : famL rs w = famL zs w := by
  unfold famL
  rw [sufN_same h]
theorem RulesOK.rev {rs : List Str} (h : RulesOK rs) : RulesOK rs.reverse := ⟨(List.reverse_perm rs).symm.nodup h.1, fun r hr => h.2 r (List.mem_reverse.mp hr)⟩
end Kb

namespace Kb
open PySem PySem.Spec PyProof.Rows L2 TL
theorem abc_lt {L : List (List Nat)} (h : ∀ l ∈ L, abc l) : ∀ c ∈ joinL [46] L, c < 128 := by
  induction L with
  | nil => intro c hc; simp [joinL] at hc
  | cons p L ih =>
    intro c hc
    have hp : ∀ c ∈ p, c < 128 := fun c hc => by
      rcases h p (List.mem_cons_self ..) with rfl | rfl | rfl <;> simp at hc <;> omega
    cases L with
    | nil => exact hp c (by simpa [joinL] using hc)
    | cons q r =>
      have hc : c ∈ p ++ ([46] ++ joinL [46] (q :: r)) := hc
      rcases List.mem_append.mp hc with g | g
      · exact hp c g
      · rcases List.mem_append.mp g with g | g
        · simp at g; omega
        · exact ih (fun l hl => h l (List.mem_cons_of_mem _ hl)) c g
end Kb

namespace Kb
open PySem PySem.Spec PyProof.Rows L2 TL
theorem addr_joinW {W : List Str} (h1 : W.length = 4) (h2 : ∀ w ∈ W, ∃ n : Nat, n < 256 ∧ tl w = numL n) : AddrW (Txt.join ("." : Str) W) :=
  ⟨W.map tl, by rw [List.length_map]; exact h1, fun l hl => by obtain ⟨w, hw, rfl⟩ := List.mem_map.mp hl; exact h2 w hw, by rw [join_tl, tl_dot]⟩
end Kb

namespace Kb
open PySem PySem.Spec PyProof.Rows L2 TL
/-- two rules of numbers behind drawn ones -/
theorem num_rules {rs : List Str} {x y : Str} {a b c : List Nat} (h : RulesOK rs) (hg : ∀ r ∈ rs, GenR (tl r)) (hx : tl x = a) (hy : tl y = 42 :: 46 :: joinL [46] [b, c])
    (ha : labB a = true ∧ digB a = true) (hb : labB b = true ∧ digB b = true) (hc : labB c = true) (lx : x.length ≤ 100) (ly : y.length ≤ 100) : RulesOK (rs ++ [x, y]) := by
  have dg : ∀ l : List Nat, digB l = true → ∃ d r, l = d :: r ∧ 48 ≤ d ∧ d ≤ 57 := fun l hl => by
    obtain ⟨h1, h2⟩ := digB_iff.mp hl
    obtain ⟨d, r, rfl⟩ := List.exists_cons_of_ne_nil h2
    have := h1 d (List.mem_cons_self ..)
    exact ⟨d, r, rfl, this.1, this.2⟩
  obtain ⟨d, r, ea, d1, d2⟩ := dg a ha.2
  obtain ⟨d', r', eb, d1', d2'⟩ := dg b hb.2
  have hfa : 46 ∉ a := dot_free ha.1
  have rx : ruleB (tl x) = true := by
    have e1 : excT (tl x) = false := by unfold excT; rw [hx, ea]; exact decide_eq_false (by simp; omega)
    unfold ruleB
    rw [e1, hx]
    have : [42, 46].isPrefixOf a = false := by
      rw [ea]
      show ((42 == d) && _) = false
      rw [beq_eq_false_iff_ne.mpr (by omega), Bool.false_and]
    rw [this]
    simp only [Bool.false_eq_true, if_false]
    rw [sp1_of_free hfa]
    show (labB a && true) = true
    rw [ha.1]; rfl
  have ry : ruleB (tl y) = true := by
    have e1 : excT (tl y) = false := by unfold excT; rw [hy]; rfl
    unfold ruleB
    rw [e1, hy]
    have : [42, 46].isPrefixOf (42 :: 46 :: joinL [46] [b, c]) = true := by simp [List.isPrefixOf]
    rw [this]
    simp only [Bool.false_eq_true, if_false, if_true, List.drop_succ_cons, List.drop_zero]
    rw [sp1_joinL (by simp) fun p hp => by
      rcases List.mem_cons.mp hp with rfl | hp
      · exact dot_free hb.1
      · rw [List.mem_singleton.mp hp]; exact dot_free hc]
    show (labB b && (labB c && true)) = true
    rw [hb.1, hc]; rfl
  have hd : ∀ r ∈ rs, ∀ u v, tl r = u :: v → u = 33 ∨ (u = 42 ∧ ∃ q w, v = 46 :: q :: w ∧ 97 ≤ q) ∨ 97 ≤ u := fun r hr u v e => by
    obtain ⟨L, h1, h2, h3, h4⟩ := (hg r hr).cases
    have big : ∀ q w, joinL [46] L = q :: w → 97 ≤ q := fun q w e => by
      obtain ⟨l, R, rfl⟩ := List.exists_cons_of_ne_nil h1
      have hl := h3 l (List.mem_cons_self ..)
      have : ∀ z, (joinL [46] ([z] :: R)).head? = some z := fun z => by cases R <;> rfl
      rcases hl with rfl | rfl | rfl
      · have t := this 97; rw [e] at t; simp at t; omega
      · have t := this 98; rw [e] at t; simp at t; omega
      · have t := this 99; rw [e] at t; simp at t; omega
    rcases h4 with ⟨_, e', _⟩ | ⟨_, e', _⟩ | ⟨_, _, e', _⟩
    · rw [e] at e'; exact .inr (.inr (big _ _ e'.symm))
    · rw [e] at e'
      simp only [List.cons.injEq] at e'
      obtain ⟨q, w, ej, _⟩ := abc_head h1 h3
      exact .inr (.inl ⟨e'.1, q, w, by rw [e'.2, ej], big _ _ ej⟩)
    · rw [e] at e'; simp only [List.cons.injEq] at e'; exact .inl e'.1
  refine ⟨?_, fun r hr => ?_⟩
  · rw [List.nodup_append]
    refine ⟨h.1, ?_, fun u hu v hv e => ?_⟩
    · rw [List.nodup_cons]
      refine ⟨fun q => ?_, by simp⟩
      have e := congrArg tl (List.mem_singleton.mp q)
      rw [hx, hy, ea] at e
      simp only [List.cons.injEq] at e
      omega
    · subst e
      rcases List.mem_cons.mp hv with q | q
      · rcases hd u hu d r (by rw [q, hx, ea]) with g | ⟨g, _⟩ | g <;> omega
      · rw [List.mem_singleton] at q
        rcases hd u hu 42 (46 :: joinL [46] [b, c]) (by rw [q, hy]) with g | ⟨g, q2, w, e2, g2⟩ | g
        · omega
        · rw [eb] at e2
          have e2 : 46 :: d' :: (r' ++ ([46] ++ c)) = 46 :: q2 :: w := e2
          simp only [List.cons.injEq] at e2
          omega
        · omega
  · rcases List.mem_append.mp hr with q | q
    · exact h.2 r q
    · rcases List.mem_cons.mp q with q | q
      · rw [q]; exact ⟨rx, by omega⟩
      · rw [List.mem_singleton.mp q]; exact ⟨ry, by omega⟩
end Kb

namespace Kb
open PySem PySem.Spec PyProof.Rows L2
/-! ### t[::-1] of a tuple -/
section
variable {prog : Program} {w : World} {A : Around} {E : Value → Shared → Prop} {s : Shared}
theorem sliceApplied_rev {sl : Addr} {vs : Value} {n : Nat} {Q : Int × Int × Nat → Shared → Prop} (hs : s.heap.IsSliceOf sl .none .none vs) (ps : IsPart vs (some (-1)))
    (h : Q ((n : Int) - 1, -1, n) s) : wpAny (model prog w) A (Builtin.Slice.sliceApplied (.ref sl) (pure (n : Int))) Q E s := by
  obtain ⟨os, hos, hcs, hds⟩ := id hs
  unfold Builtin.Slice.sliceApplied Builtin.Slice.sliceFields
  refine wpAny_bind (wpAny_bind (wpAny_field hos hds (x := .none) rfl (wpAny_bind (wpAny_field hos hds (x := .none) rfl (wpAny_bind (wpAny_field hos hds (x := vs) rfl (wpAny_pure ?_)))))))
  refine wpAny_bind (HT.slicePart_ ps ?_)
  show wpAny _ _ (if ((-1 : Int) == 0) = true then _ else _) _ _ s
  rw [if_neg (by decide)]
  refine wpAny_bind (HT.slicePart_ .none (wpAny_bind (HT.slicePart_ .none (wpAny_bind (wpAny_pure ?_)))))
  have e : Builtin.Slice.slicePlaces ((n : Int) - 1) (-1) (-1) = n := by
    unfold Builtin.Slice.slicePlaces
    rw [if_neg (by decide)]
    split
    · rw [show (-(-1 : Int)) = 1 by decide, Int.ediv_one]; omega
    · omega
  show wpAny _ _ (pure ((n : Int) - 1, (-1 : Int), Builtin.Slice.slicePlaces ((n : Int) - 1) (-1) (-1))) _ _ s
  rw [e]
  exact wpAny_pure h
theorem rev_pick (xs : Array Value) : ((List.range xs.size).filterMap fun (m : Nat) => xs[(((xs.size : Int) - 1) + (m : Int) * (-1)).toNat]?).toArray = xs.toList.reverse.toArray := by
  congr 1
  have : ∀ n, n ≤ xs.size → (List.range n).filterMap (fun (m : Nat) => xs[(((xs.size : Int) - 1) + (m : Int) * (-1)).toNat]?) = (xs.toList.reverse.take n) := by
    intro n
    induction n with
    | zero => intro _; simp
    | succ n ih =>
      intro h
      rw [List.range_succ, List.filterMap_append, ih (by omega), List.take_add_one]
      congr 1
      have e : (((xs.size : Int) - 1) + (n : Int) * (-1)).toNat = xs.size - 1 - n := by omega
      have h2 : xs.toList.reverse[n]? = xs[xs.size - 1 - n]? := by
        rw [List.getElem?_reverse (by rw [Array.length_toList]; omega), Array.length_toList, Array.getElem?_toList]
      rw [h2]
      simp only [List.filterMap_cons, List.filterMap_nil, e]
      cases xs[xs.size - 1 - n]? <;> rfl
  rw [this _ (Nat.le_refl _), List.take_of_length_le (by simp)]
theorem getItem_tuple_rev {t sl : Addr} {items : Array Value} {vs : Value} {Q : Value → Shared → Prop} (ht : IsTup s.heap t items) (hs : s.heap.IsSliceOf sl .none .none vs) (ps : IsPart vs (some (-1)))
    (h : Q (.ref s.heap.objs.size) { s with heap := s.heap.push { cls := .type "tuple", data := .seq items.toList.reverse.toArray } })
    (hsz : items.size ≤ sizeLine) : wpAny (model prog w) A (getItem (.ref t) (.ref sl)) Q E s := by
  have htake : sizeOk (.seq items.toList.reverse.toArray) := by
    show items.toList.reverse.toArray.size ≤ sizeLine
    simpa using hsz
  obtain ⟨os, hos, hcs, hds⟩ := id hs
  have hTs : s.TypeIs (.ref sl) "slice" := ⟨os, hos, hcs⟩
  unfold getItem
  try with_reducible refine wpAny_holding ?_
  first | refine wpAny_bind (wpAny_pure ?_) | skip
  refine wpAny_bind (wpAny_sequenceKey ht.typeIs (by decide) ?_)
  refine wpAny_bind (wpAny_callSpecial?_slot (name := Str.ofString "__getitem__") ht.typeIs PyProof.Rows.slot_tuple_getitem
    (wpAny_call_entry PyProof.Rows.slot_tuple_getitem ht.typeIs entry_tuple_getitem ?_ (args_tuple_getitem _ _)))
  show wpAny _ _ (Builtin.Tuple.tupleItemsOf (.ref t) >>= _) _ _ s
  refine wpAny_bind (tupleItemsOf_ ht ?_)
  refine wpAny_bind (wpAny_typeOf hTs ?_)
  rw [if_pos (by decide)]
  refine wpAny_bind (sliceApplied_rev hs ps ?_)
  show wpAny _ _ (if (((items.size : Int) - 1) == 0 && (-1 : Int) == 1 && items.size == items.size) = true then _ else _) _ _ s
  rw [if_neg (by simp), rev_pick]
  first
    | exact wpAny_bind (m := Builtin.Tuple.tupleExact _) (wpAny_newObj_type (wpAny_pure ⟨_, rfl, wpAny_pure h⟩) htake)
    | exact wpAny_bind (m := Builtin.Tuple.tupleExact _) (wpAny_newObj_type (wpAny_bind (wpAny_pure (wpAny_pure ⟨_, rfl, wpAny_pure h⟩))) htake)
    | exact wpAny_bind (wpAny_bind (m := Builtin.Tuple.tupleExact _) (wpAny_newObj_type (wpAny_pure (wpAny_pure ⟨_, rfl, wpAny_pure h⟩)) htake))
    | exact wpAny_bind (wpAny_bind (m := Builtin.Tuple.tupleExact _) (wpAny_newObj_type (wpAny_pure ⟨_, rfl, wpAny_pure h⟩) htake))
end
def tRevT (K : PySem.W.Frag) (te : TE) : TE := fun σ H Q => te σ H fun x H1 => ∃ a xs, x = .ref a ∧ SqT K H1 a xs ∧ ∀ p, H1 p = none → Q (.ref p) (upd H1 p (.tup xs.reverse))
theorem pe_revT {X : Cx} {e : Expr} {te : TE} {k : Nat} {p1 p2 p3 pos : Pos} (he : PE X e te) : PE X (.Subscript e (.Slice none none (some (.UnaryOp .USub (.Constant (.int 1) k p1) p2)) p3) pos) (tRevT X.K te) := by
  refine ⟨fun pins s σ H Q I h => ?_⟩
  refine Subscript_ (thn (he.run pins s σ H _ I h) fun v s1 ⟨x, H1, I1, r1, q1⟩ => ?_)
  obtain ⟨a, xs, ex, hx, q⟩ := q1
  subst ex
  cases r1
  have hst : PO X (some (.UnaryOp .USub (.Constant (.int 1) k p1) p2)) (tPart (tUn (rU fun i => .int (-i)) (tC (.int 1)))) := po_some (pe_un un_neg pe_int)
  refine wpAny_Slice (thn (po_none.run pins s1 σ H1 (fun o H2 => o = none ∧ H2 = H1) I1 ⟨rfl, rfl⟩) fun vl s2 ⟨l, H2, I2, pl, el, e2⟩ => ?_)
  subst el e2
  refine thn (po_none.run pins s2 σ H2 (fun o H3 => o = none ∧ H3 = H2) I2 ⟨rfl, rfl⟩) fun vu s3 ⟨u, H3, I3, pu, eu, e3⟩ => ?_
  subst eu e3
  refine thn (hst.run pins s3 σ H3 (fun o H4 => o = some (-1) ∧ H4 = H3) I3 ⟨1, rfl, -1, rfl, rfl, rfl⟩) fun vs s4 ⟨o, H4, I4, ps, eo, e4⟩ => ?_
  subst eo e4
  cases pl
  cases pu
  have I5 : Inv X pins σ H4 { s4 with heap := s4.heap.push { cls := .type "slice", data := .fields #[.none, .none, vs] } } := I4.kept (t' := s4.toks) fun b ob q => Heap.get?_push_of_some _ q
  obtain ⟨its, r, ht, hz⟩ := I5.tuple hx
  have hlen := r.length
  show wpAny (model X.prog X.w) X.A (subscriptTail e (.Slice none none (some (.UnaryOp .USub (.Constant (.int 1) k p1) p2)) p3) (.ref a) (.ref s4.heap.objs.size)) (EP X pins σ Q) X.xe { s4 with heap := s4.heap.push { cls := .type "slice", data := .fields #[.none, .none, vs] } }
  refine tail_any (ops := [.ref a, .ref s4.heap.objs.size]) ht.typeIs (PyProof.Rows.slot_tuple_getitem.lookup) ?_ (by with_unfolding_all rfl)
  refine getItem_tuple_rev ht (Heap.IsSliceOf.new _ .none .none vs) ps ?_ (by rw [List.size_toArray]; omega)
  refine ⟨.ref _, _, I5.laid (t' := s4.toks) (o := .tup xs.reverse) (fun b ob q => Heap.get?_push_of_some _ q) (Nat.le_refl _) ?_, rfl, q _ (I5.hok.fresh (Nat.le_refl _))⟩
  exact ⟨by rw [List.length_reverse]; exact hz, _, r.reverse, ⟨_, Heap.get?_push_size _ rfl, rfl, _, rfl⟩⟩
end Kb

namespace Kb
open PySem PySem.Spec PyProof.Rows L2
/-! ### defs that ask that no repr is under way, called by others of the kind -/
def CalG (P : Program) (w : World) (K : PySem.W.Frag) (mg : Str → Option Value) (base : Heap) (CX : CXT) (k : Nat) (x : Str) (ps : List Str) (sp : Sp) : Prop :=
  ∃ (f : Addr) (fd : FuncData), FnG P w K mg base CX k f fd ps sp ∧ mg x = some (.ref f) ∧ PySem.W.keepIn K (.ref f) = true ∧ Binds K fd ps []
section
variable {P : Program} {w : World} {K : PySem.W.Frag} {mg : Str → Option Value} {base : Heap}
theorem Df.ok0G {x : Str} {st : Stmt} {N ps : List Str} {k : Nat} {sp : Sp} (D : Df K mg x st ps) (S : FnScope N ps (defScope st)) (len : ∀ vs H Q E, sp vs H Q E → vs.length = ps.length)
    (hbody : ∀ (f : Addr) (cdv : Value) (A : Around) (outer : List Env) (s : Shared) (H : Hp) (vs : List V) (Q : VK) (E : XK), A.guards = some [] → Room k (A.deeper (envOfC x (defScope st) s.heap.objs.size f cdv)) → sp vs H Q E →
      ∃ t, PSs (cxOf CX0 P w K mg base N x (defScope st) f cdv A outer s H E).nox (defBody st) t ∧ t { nx := fun _ H' => Q .non H', rt := Q } (start N vs) H) : CalG P w K mg base CX0 (k + 1) x ps sp := by
  obtain ⟨f, fd, F, m, b⟩ := D
  exact ⟨f, fd, Kb.Fun.okG F S len (hbody f), m, F.kp, .all b⟩
end
section
variable {X : Cx} {CX : CXT} {j k : Nat} {x : Str} {f : Addr} {fd : FuncData} {ps : List Str} {ds : List Value} {dvs : List V} {sp : Sp} {E : XK} {p pos : Pos} {e : Expr} {es : List Expr} {t : TA}
theorem run_fnG {pins : List (Addr × Obj)} {σ : L2.St} {H : Hp} {s : Shared} {Q : VK} {us : List Value} {vs : List V} (F : FnG X.prog X.w X.K X.mg X.base CX k f fd ps sp) (hgd : X.A.guards = some []) (hr : Room k X.A) (hb : Binds X.K fd ps ds) (hd : Vals dvs ds) (hx : Passes CX X E)
    (I : Inv X pins σ H s) (r : Vals vs us) (h : sp (vs ++ dvs) H Q E) : wpAny (model X.prog X.w) X.A (call (.ref f) us) (EP X pins σ Q) X.xe s := by
  have r2 : Vals (vs ++ dvs) (us ++ ds) := r.append hd
  have hl : (us ++ ds).length = ps.length := by rw [← r2.length]; exact F.len _ _ _ _ h
  refine wpAny_call (codeAny_mono (F.run X.A X.stack s H ⟨us, []⟩ (us ++ ds) (vs ++ dvs) Q E hgd hr I.env0 (hb s us I.kIn hl) r2 h) fun r s' hq => ?_)
  cases r with
  | error e => exact hx pins σ H s e s' I hq
  | ok fl =>
    cases fl with
    | ret u => exact I.after hq
    | next => exact False.elim hq
    | brk => exact False.elim hq
    | cont => exact False.elim hq
theorem pe_cG (c : CalG X.prog X.w X.K X.mg X.base CX j x ps sp) (hgd : X.A.guards = some []) (hr : Room k X.A) (hjk : j ≤ k) (hg : Gl X x) (hx : Passes CX X E)
    (ha : PA X (e :: es) t) (hdb : (x == ("__debug__" : Str)) = false := by decide) (he : starEach (e :: es) X.env = (false, eval e X.env) :: starEach es X.env := by rfl) (hpl : (backTo pos (starEach es X.env)).any (·.1) = false := by rfl) :
    PE X (.Call (.Name x p) (e :: es) [] pos) (tCall sp [] E t) := by
  obtain ⟨f, fd, F, m, kp, b⟩ := c
  refine ⟨fun pins s σ H Q I h => ?_⟩
  refine wpAny_Call_Name_kw (ld_glob I hg m ?_ hdb)
  refine PySem.W.callWith_K (h₀ := X.base) I.ok.mod.kin kp (thn (ha.run pos pins s σ H _ I h) fun us s1 ⟨vs, H1, I1, r, q⟩ => ⟨I1.kIn, ?_⟩) he hpl
  exact run_fnG (dvs := []) (F.mono hjk) hgd hr b .nil hx I1 r q
end
end Kb

namespace Kb
open PySem PySem.Spec PyProof.Rows L2
/-! ### d.values(), list and tuple of it -/
def tVals (td : TE) : TE := fun σ H Q => td σ H fun x H1 => ∃ a kvs, x = .ref a ∧ H1 a = some (.dK kvs) ∧ ∀ p, H1 p = none → Q (.ref p) (upd H1 p (viewO "dict_values" p a))
section
variable {X : Cx} {e : Expr} {td : TE} {apos cpos : Pos}
theorem pe_vals (he : PE X e td) (hbase : attributeBase e "values" X.env (eval e X.env) = eval e X.env := by rfl) (hline : (apos.endLine == cpos.line) = true := by rfl) : PE X (.Call (.Attribute e "values" apos) [] [] cpos) (tVals td) := by
  refine ⟨fun pins s σ H Q I h => ?_⟩
  refine wpAny_Call_method (T := "dict") (id := "dict.values") hbase rfl hline F.plainAttrs_dict F.slot_dict_values F.type_dict_values (thn (he.run pins s σ H _ I h) fun u s1 ⟨x, H1, I1, rx, a, kvs, ex, hd, q⟩ => ?_)
  subst ex
  obtain rfl : u = Value.ref a := rx
  obtain ⟨hz, hsys, vs, rel, dof⟩ := (show ObjOk X.prog X.w H1 s1.heap a (.dK kvs) from I1.hok a _ hd)
  refine ⟨dof.typeIs, dof.mapOf.noDict, ?_⟩
  have fin : EP X pins σ Q (.ref s1.heap.objs.size) { s1 with heap := s1.heap.push (DSub.viewOb "dict_values" a) } :=
    ⟨.ref s1.heap.objs.size, _, I1.laid (t' := s1.toks) (fun b o q => Heap.get?_push_of_some _ q) (Nat.le_refl _) (viewO_ok (Heap.get?_push_size _ rfl)), rfl, q _ (I1.hok.fresh (Nat.le_refl _))⟩
  show wpAny _ _ (callWith cpos (.builtin "dict.values") [.ref a] [] []) _ X.xe s1
  exact method_meetsIn F.slot_dict_values F.entry_dict_values rfl (PySem.evalArgs_none ⟨rfl, dof.typeIs, F.args_dict_values_1 _, _, meets_dict_values (mixKind X.prog X.w) a hsys, ⟨vs, dof⟩, fin⟩)
end
theorem kv_at {κ : Type} : ∀ {ks : List (κ × V)} {vs : List (κ × Value)} {j : Nat} {k : κ} {w : Value}, KV ks vs → vs[j]? = some (k, w) → ∃ y, ks[j]? = some (k, y) ∧ RelV y w
  | _, _, _, _, _, .nil, h => by simp at h
  | p :: _, q :: _, 0, k, w, .cons r _, h => by
    simp at h
    subst h
    obtain ⟨p1, p2⟩ := p
    obtain ⟨r1, r2⟩ := r
    have r1 : p1 = k := r1
    subst r1
    exact ⟨p2, rfl, r2⟩
  | _ :: _, _ :: _, j + 1, k, w, .cons _ t, h => by
    obtain ⟨y, h1, h2⟩ := kv_at (j := j) t (by simpa using h)
    exact ⟨y, by simpa using h1, h2⟩
section
variable {X : Cx}
theorem call_listV (hc : X.calm = true) : CallR X (.type "list") (fun xs H Q => ∃ (p a : Addr) (kvs : List (L2.Key × V)), xs = [.ref p] ∧ H p = some (viewO "dict_values" p a) ∧ H a = some (.dK kvs) ∧ ∀ q, H q = none → Q (.ref q) (upd H q (.lst (kvs.map (·.2))))) := by
  intro pins s σ H xs us Q I r h
  obtain ⟨p, a, kvs, e, hp, hk, q⟩ := h
  subst e
  obtain ⟨u, eu, rx⟩ := vals1 r
  subst eu
  obtain rfl : u = Value.ref p := rx
  have hv : s.heap.get? p = some (DSub.viewOb "dict_values" a) := (show ObjOk X.prog X.w H s.heap p (viewO "dict_values" p a) from I.hok p _ hp).1
  obtain ⟨z, lo, vs, rk, hd⟩ := (show ObjOk X.prog X.w H s.heap a (.dK kvs) from I.hok a _ hk)
  obtain ⟨ep, hat⟩ := hd.dictAt
  have hl : kvs.length = vs.length := Paired.length rk
  refine PySem.W.kdl_call (PySem.W.kdl_values (r := p) (d := a) (knd := mixKind X.prog X.w) (kvs := vs) (ep := ep)) (I.ok.hd hc) ⟨⟨_, hv, rfl, rfl⟩, hat⟩ (by rw [← hl]; exact z) fun h' tk acc' c' hkeep hS hacc => ?_
  refine ⟨.ref s.heap.objs.size, upd H s.heap.objs.size (.lst (kvs.map (·.2))), I.laid hkeep (Nat.le_refl _) (show ObjOk X.prog X.w _ _ _ (.lst (kvs.map (·.2))) from ⟨?_, acc'.toList, c', ?_, ?_⟩), rfl, q _ (I.hok.fresh (Nat.le_refl _))⟩
  · rw [List.length_map]; exact z
  · have el : acc'.toList.length = acc'.size := by simp
    refine vals_of_at (by rw [List.length_map, el, hacc.1, hl]) fun j x w h1 h2 => ?_
    obtain ⟨k, hky⟩ := hacc.2 j w (by rw [← Array.getElem?_toList]; exact h2)
    obtain ⟨y, g1, g2⟩ := kv_at rk hky
    rw [List.getElem?_map, g1] at h1
    cases h1
    exact g2
  · rw [Array.toArray_toList]; exact hS
end
section
variable {prog : Program} {w : World} {A : Around} {E : Value → Shared → Prop} {s : Shared} {r d : Addr} {κ : Type} [DecidableEq κ] {knd : PySem.KeyKind prog w κ} {kvs : List (κ × Value)} {ep : Nat}
theorem code_tuple_vals {Q₁ : Value → Shared → Prop} (hh : A.handled = none) (hv : s.heap.get? r = some (DSub.viewOb "dict_values" d)) (hat : s.heap.DictAt knd d kvs ep) (hlen : kvs.length ≤ sizeLine)
    (h : ∀ (h' : Heap) (tk : Nat) (acc : Array Value), (∀ b o, s.heap.get? b = some o → h'.get? b = some o) → PySem.ItemsOf (fun i v => ∃ k, kvs[i]? = some (k, v)) acc kvs.length →
      Q₁ (.ref h'.objs.size) { s with heap := h'.push { cls := .type "tuple", data := .seq acc }, toks := tk }) :
    codeAny (model prog w) A (.call (.builtin "tuple.__new__") ⟨[.type "tuple", .ref r], []⟩) (wants Q₁ E) s := by
  refine codeAny_of_tree ?_
  show wpAny _ A.in1 (do checkBuiltinCall "tuple.__new__" ⟨[.type "tuple", .ref r], []⟩; again (.builtin "tuple.__new__" ⟨[.type "tuple", .ref r], []⟩)) _ _ s
  refine wpAny_bind (wpAny_of_eq (F.newCall_tuple_1 _) (wpAny_pure ⟨plainId_quiet F.plain_tuple_new _, codeAny_builtin F.entry_tuple_new ?_⟩))
  rw [Around.under_plainId F.plain_tuple_new _]
  have hsub := sub_tuple_self
  have hinit := init_tuple_lookup
  have hmh := madeHere_tuple
  have hTI : s.TypeIs (.ref r) "dict_values" := ⟨_, hv, rfl⟩
  have hh1 : A.in1.handled = none := hh
  have hcol : ∀ {R : List Value → Shared → Prop} {E' : Value → Shared → Prop}, (∀ (h' : Heap) (tk : Nat) (acc : Array Value), (∀ b o, s.heap.get? b = some o → h'.get? b = some o) → PySem.ItemsOf (fun i v => ∃ k, kvs[i]? = some (k, v)) acc kvs.length → R acc.toList { s with heap := h', toks := tk }) →
      wpAny (model prog w) A.in1 (collect (.ref r)) R E' s := fun h => PySem.W.kdu_collect (A := A.in1) (PySem.W.kdl_values (r := r) (d := d) (knd := knd) (kvs := kvs) (ep := ep)) hh1 ⟨⟨_, hv, rfl, rfl⟩, hat⟩ hlen h
  wp_walk using wpAny_typeOf hTI, hcol
  intro h' tk acc hk hacc
  show wpAny _ _ (Builtin.Tuple.tupleExact acc.toList.toArray >>= fun v => ret v) _ _ _
  unfold Builtin.Tuple.tupleExact
  refine wpAny_bind (wpAny_newObj_type ?_ (by show acc.toList.toArray.size ≤ sizeLine; simp only [Array.toArray_toList]; rw [hacc.1]; exact hlen))
  refine wpAny_pure ?_
  have e : acc.toList.toArray = acc := by simp
  rw [e]
  exact h h' tk acc hk hacc
theorem call_tuple_vals {Q : Value → Shared → Prop} (hh : A.handled = none) (hv : s.heap.get? r = some (DSub.viewOb "dict_values" d)) (hat : s.heap.DictAt knd d kvs ep) (hlen : kvs.length ≤ sizeLine)
    (hQ : ∀ (h' : Heap) (tk : Nat) (acc : Array Value), (∀ b o, s.heap.get? b = some o → h'.get? b = some o) → PySem.ItemsOf (fun i v => ∃ k, kvs[i]? = some (k, v)) acc kvs.length →
      Q (.ref h'.objs.size) { s with heap := h'.push { cls := .type "tuple", data := .seq acc }, toks := tk }) :
    wpAny (model prog w) A (call (.type "tuple") [.ref r]) Q E s := by
  refine callType_codes (Q₁ := fun obj s₁ => s₁.TypeIs obj "tuple" ∧ Q obj s₁) F.called_tuple (F.typeCall_tuple_1 _) F.entry_object_init
    (code_tuple_vals (A := A.in1) hh hv hat hlen fun h' tk acc hk hacc => ⟨⟨_, Heap.get?_push_size _ rfl, rfl⟩, hQ h' tk acc hk hacc⟩) fun obj s₁ h₁ => ?_
  exact ⟨h₁.1, F.args_object_init_2 obj _, object_init_meets F.called_tuple.init.lookup F.called_tuple.made (by decide) prog w A.in1 _ s₁ ⟨h₁.1, rfl, h₁.2⟩⟩
end
section
variable {X : Cx}
theorem call_tupV (hc : X.calm = true) : CallR X (.type "tuple") (fun xs H Q => ∃ (p a : Addr) (kvs : List (L2.Key × V)), xs = [.ref p] ∧ H p = some (viewO "dict_values" p a) ∧ H a = some (.dK kvs) ∧ ∀ q, H q = none → Q (.ref q) (upd H q (.tup (kvs.map (·.2))))) := by
  intro pins s σ H xs us Q I r h
  obtain ⟨p, a, kvs, e, hp, hk, q⟩ := h
  subst e
  obtain ⟨u, eu, rx⟩ := vals1 r
  subst eu
  obtain rfl : u = Value.ref p := rx
  have hv : s.heap.get? p = some (DSub.viewOb "dict_values" a) := (show ObjOk X.prog X.w H s.heap p (viewO "dict_values" p a) from I.hok p _ hp).1
  obtain ⟨z, lo, vs, rk, hd⟩ := (show ObjOk X.prog X.w H s.heap a (.dK kvs) from I.hok a _ hk)
  obtain ⟨ep, hat⟩ := hd.dictAt
  have hl : kvs.length = vs.length := Paired.length rk
  refine call_tuple_vals (I.ok.hd hc) hv hat (by rw [← hl]; exact z) fun h' tk acc hkeep hacc => ?_
  have I1 : Inv X pins σ H { s with heap := h', toks := tk } := I.kept (t' := tk) hkeep
  refine ⟨.ref h'.objs.size, upd H h'.objs.size (.tup (kvs.map (·.2))), I1.laid (t' := tk) (fun c o e => Heap.get?_push_of_some _ e) (Nat.le_refl _) (show ObjOk X.prog X.w _ _ _ (.tup (kvs.map (·.2))) from ⟨by rw [List.length_map]; exact z, acc.toList, ?_, ?_⟩), rfl, q _ (I1.hok.fresh (Nat.le_refl _))⟩
  · have el : acc.toList.length = acc.size := by simp
    refine vals_of_at (by rw [List.length_map, el, hacc.1, hl]) fun j x w h1 h2 => ?_
    obtain ⟨k, hky⟩ := hacc.2 j w (by rw [← Array.getElem?_toList]; exact h2)
    obtain ⟨y, g1, g2⟩ := kv_at rk hky
    rw [List.getElem?_map, g1] at h1
    cases h1
    exact g2
  · rw [Array.toArray_toList]; exact IsTup.new _ _
end
/-! ### == of dicts of plain values -/
def flat4 : V → Bool
  | .non => true
  | .bl _ => true
  | .int _ => true
  | .str _ => true
  | _ => false
def eq4 : V → V → Bool
  | .non, .non => true
  | .bl a, .bl b => a == b
  | .int a, .int b => a == b
  | .str a, .str b => a == b
  | .bl a, .int b => (if a then 1 else 0) == b
  | .int a, .bl b => a == (if b then 1 else 0)
  | _, _ => false
theorem eqAt4 {A : Around} {s : Shared} {x y : V} {u v : Value} (rx : RelV x u) (ry : RelV y v) (fx : flat4 x = true) (fy : flat4 y = true) : SeqAt.EqAt A s u v (eq4 x y) := by
  cases x <;> first | (exact absurd (show false = true from fx) Bool.false_ne_true) | skip
  all_goals cases y <;> first | (exact absurd (show false = true from fy) Bool.false_ne_true) | skip
  · cases (show u = Value.none from rx); cases (show v = Value.none from ry); exact .same _
  · cases (show u = Value.none from rx); cases (show v = Value.bool _ from ry); exact .none_bool _
  · cases (show u = Value.none from rx); obtain ⟨t, rfl⟩ := ry; exact .none_int _ _
  · cases (show u = Value.none from rx); obtain ⟨t, rfl⟩ := ry; exact .none_str _ _
  · cases (show u = Value.bool _ from rx); cases (show v = Value.none from ry); exact .bool_none _
  · cases (show u = Value.bool _ from rx); cases (show v = Value.bool _ from ry); exact .bool_bool _ _
  · cases (show u = Value.bool _ from rx); obtain ⟨t, rfl⟩ := ry; exact .bool_int _ _ _
  · cases (show u = Value.bool _ from rx); obtain ⟨t, rfl⟩ := ry; exact .bool_str _ _ _
  · obtain ⟨t, rfl⟩ := rx; cases (show v = Value.none from ry); exact .int_none _ _
  · obtain ⟨t, rfl⟩ := rx; cases (show v = Value.bool _ from ry); exact .int_bool _ _ _
  · obtain ⟨t, rfl⟩ := rx; obtain ⟨t2, rfl⟩ := ry; exact .int_int _ _ _ _
  · obtain ⟨t, rfl⟩ := rx; obtain ⟨t2, rfl⟩ := ry; exact .int_str _ _ _ _
  · obtain ⟨t, rfl⟩ := rx; cases (show v = Value.none from ry); exact .str_none _ _
  · obtain ⟨t, rfl⟩ := rx; cases (show v = Value.bool _ from ry); exact .str_bool _ _ _
  · obtain ⟨t, rfl⟩ := rx; obtain ⟨t2, rfl⟩ := ry; exact .str_int _ _ _ _
  · obtain ⟨t, rfl⟩ := rx; obtain ⟨t2, rfl⟩ := ry; exact .str_str _ _ _ _
def eqKB (ls : List (L2.Key × V)) : List (L2.Key × V) → Bool
  | [] => true
  | p :: r => match valV ls p.1 with
    | none => false
    | some y => eq4 p.2 y && eqKB ls r
theorem hits_any {A : Around} {s : Shared} {ls : List (L2.Key × V)} {vb : List (L2.Key × Value)} (rb : KV ls vb) (fl : ∀ p ∈ ls, flat4 p.2 = true) {ks : List (L2.Key × V)} {va : List (L2.Key × Value)} (ra : KV ks va) :
    (∀ p ∈ ks, flat4 p.2 = true) → PySem.W.KeqHits A s vb va (eqKB ls ks) := by
  unfold KV at ra
  induction ra with
  | nil => intro _; exact .nil
  | @cons p q ps qs h t ih =>
    intro hp
    obtain ⟨h1, h2⟩ := h
    obtain ⟨k, v⟩ := q
    have h1' : p.1 = k := h1
    have rr : RelO (valV ls p.1) (valueAt vb p.1) := rb.val p.1
    unfold eqKB
    cases hv : valV ls p.1 with
    | none =>
      rw [hv] at rr
      cases hb : valueAt vb p.1 with
      | none => rw [h1'] at hb; exact .miss hb
      | some y => rw [hb] at rr; exact rr.elim
    | some x =>
      rw [hv] at rr
      obtain ⟨y, hy, ry⟩ := rr.some_of
      rw [h1'] at hy
      have fx : flat4 x = true := by
        unfold valV at hv
        obtain ⟨q, hq, e⟩ := Option.map_eq_some_iff.mp hv
        rw [← e]; exact fl q (List.mem_of_find?_eq_some hq)
      exact .hit hy (eqAt4 h2 ry (hp p List.mem_cons_self) fx) (ih fun p' hm => hp p' (List.mem_cons_of_mem _ hm))
def rEqDK : R2 := fun x y H Q => ∃ a b ks ls, x = .ref a ∧ y = .ref b ∧ H a = some (.dK ks) ∧ H b = some (.dK ls) ∧ ks.length = ls.length ∧ (∀ p ∈ ks, flat4 p.2 = true) ∧ (∀ p ∈ ls, flat4 p.2 = true) ∧ Q (.bl (eqKB ls ks)) H
theorem op_eqDK {X : Cx} (hu : X.A.units < cLine) : OpR X (compareOp .Eq) rEqDK := by
  intro pins s σ H x y v u Q I rx ry h
  obtain ⟨a, b, ks, ls, rfl, rfl, ea, eb, hlen, fk, fl, q⟩ := h
  obtain rfl : v = Value.ref a := rx
  obtain rfl : u = Value.ref b := ry
  obtain ⟨_, ya, va, ra, da⟩ := (show ObjOk X.prog X.w H s.heap a (.dK ks) from I.hok a _ ea)
  obtain ⟨_, yb, vb, rb, db⟩ := (show ObjOk X.prog X.w H s.heap b (.dK ls) from I.hok b _ eb)
  have hl : va.length = vb.length := by rw [← ra.length, ← rb.length]; exact hlen
  refine PySem.W.keq_eq (knd := mixKind X.prog X.w) (r := eqKB ls ks) ya yb da db hu (fun _ => hits_any rb fl ra fk) ?_
  rw [hl, beq_self_eq_true, Bool.true_and]
  exact ⟨.bl _, H, I, rfl, q⟩
end Kb

namespace Kb
open PySem PySem.Spec PyProof.Rows L2
/-! ### d.update(e), e another dict -/
def rUpdD : V → List V → Hp → VK → Prop := fun x vs H Q => ∃ a b kvs more, x = .ref a ∧ vs = [.ref b] ∧ a ≠ b ∧ H a = some (.dK kvs) ∧ H b = some (.dK more) ∧ kvs.length + more.length ≤ sizeLine ∧ Q .non (upd H a (.dK (mergeK kvs more)))
theorem mt_updD {X : Cx} : MtM X "dict.update" rUpdD := by
  intro pins s σ H x vs v us Q I rx rv h
  obtain ⟨a, b, kvs, more, rfl, rfl, ne, ea, eb, hz, q⟩ := h
  obtain rfl : v = Value.ref a := rx
  obtain ⟨u, rfl, ru⟩ := rv.one
  obtain rfl : u = Value.ref b := ru
  obtain ⟨_, _, va, ra, da⟩ := dk_of I.hok ea
  obtain ⟨_, yb, vb, rb, db⟩ := dk_of I.hok eb
  refine call_meetsIn PySem.F.slot_dict_update da.typeIs PySem.F.entry_dict_update (PySem.F.args_dict_update_2 _ _) (meets_dict_update (mixKind X.prog X.w) a b ne yb) ⟨va, vb, da, db, by rw [← ra.length, ← rb.length]; exact hz, fun h' dd' _ hs => ?_⟩
  have he : ∃ q, h'.get? a = some q := let ⟨q, _, _, hq, _⟩ := dd'; ⟨q, hq⟩
  exact ⟨.non, _, d_write (t' := s.toks) I (by rw [ea]; exact True.intro) hs he (dk_new (Nat.le_trans (length_mergeK more kvs) hz) (by obtain ⟨_, hd, _⟩ := dk_of I.hok ea; exact hd) (rb.merge ra) dd'), rfl, q⟩
end Kb

namespace Kb
open PySem PySem.Spec PyProof.Rows L2
/-! ### a named except clause whose suite raises -/
/-- where the suite runs: what it lets out meets xe -/
abbrev sx (X : Cx) (a : Addr) (pn : List (Addr × Obj)) (xe : Value → Shared → Prop) : Cx := { X with A := X.A.mark (some (.ref a)), calm := false, pn := pn, xe := xe }
section
variable {X : Cx} {pins : List (Addr × Obj)} {i : Nat} {n : Str} {pos : Pos} {Wout : WX}
/-- the name goes, and the suite's own error goes on -/
theorem as_out {a0 : Addr} {oe0 : Obj} {xe' : Value → Shared → Prop} {Ea : Value → Shared → Prop} {Eb : Value → Value → Shared → Prop} (hs : X.stack = X.env :: X.outer) (hf : X.env.frame = some X.env.locals) (hex : X.ex = []) (hN : X.N.Nodup) (hi : X.N[i]? = some n)
    (hln : X.env.kindOf n = some .local) (ok : X.Ok) (tk : Takes X Wout) {EN : Value → Shared → Prop} (hpa : ∀ e s, X.xe e s → EN e s) {u : Value} {s' : Shared}
    (xx : XE (sx X a0 ((a0, oe0) :: (X.pn ++ pins)) xe') (fun cls d σ H => Wout cls d (σ.set i none) H) u s') :
    wpAny (model X.prog X.w) (X.A.mark (some (.ref a0))) (noteFrame u X.env) (fun _ t1 => wpAny (model X.prog X.w) (X.A.mark (some (.ref a0))) (do bindName X.env n .none; unbindBehindTheSuite X.env n pos)
      (fun _ t2 => wpAny (model X.prog X.w) (X.A.mark (some (.ref a0))) (passOn "try.except-as" u X.env : Sem Flow) (fun _ _ => False) EN t2) (Eb u) t1) Ea s' := by
  obtain ⟨a, B, sI, p2, σ2, H2, cls, d, rfl, I2, nb, up, sky, na, os, ag, w⟩ := xx
  have I0 : Inv X pins σ2 H2 sI := Inv.unsuite (X := X) (a := a0) (q := (a0, oe0)) (pn' := p2) (I2.wish fun _ _ => False) ok
  have hfr : (X.A.mark (some (.ref a0))).frames = some (X.env :: X.outer) := by rw [← hs]; exact ok.frames
  have sk : Sky B (X.env :: X.outer) a (Zc cls d) X.env.locals s'.heap := by rw [← hs]; exact sky
  have key : ∀ g, HandSPX.HeldZ B (X.env :: X.outer) a (Zc cls d) X.env.locals g → s'.heap.UpToSlots g →
      wpAny (model X.prog X.w) (X.A.mark (some (.ref a0))) (do bindName X.env n .none; unbindBehindTheSuite X.env n pos)
        (fun _ t2 => wpAny (model X.prog X.w) (X.A.mark (some (.ref a0))) (passOn "try.except-as" (.ref a) X.env : Sem Flow) (fun _ _ => False) EN t2) (Eb (.ref a)) { s' with heap := g } := by
    intro g held upg
    have J : Inv X pins σ2 H2 { s' with heap := g } := I0.landed nb held.1 (up.trans upg) os ag
    obtain ⟨q1, q2, q3, ox, vx, T, oT, vT, ex, zx, dx, v1, bT, Tx, eT, dT, t3⟩ := id held
    have off : ∀ {b : Addr} {o : Obj} {f : Array Value}, g.get? b = some o → o.data = .fields f → b ∉ frs (X.env :: X.outer) := by
      intro b o f e dd m
      obtain ⟨_, o2, e2, no⟩ := q3.mem m
      cases e.symm.trans e2
      exact no _ dd
    have inL : X.env.locals ∈ frs (X.env :: X.outer) := List.mem_filterMap.mpr ⟨X.env, List.mem_cons_self, hf⟩
    have inF : ∀ b, b ∈ X.fs → b ∈ frs (X.env :: X.outer) := fun b m => by
      obtain ⟨v, hv, q⟩ := List.mem_filterMap.mp m
      exact List.mem_filterMap.mpr ⟨v, List.mem_cons_of_mem _ hv, q⟩
    have oa := off ex dx
    have oTT := off eT dT
    have HT : H2 T = none := (I0.inGround nb).gone bT
    have pinOf : ∀ {b : Addr} {o : Obj} {f : Array Value}, g.get? b = some o → o.data = .fields f → H2 b = none → b ∉ frs (X.env :: X.outer) → b ≠ X.env.locals ∧ b ∉ X.fs ∧ ∀ v, o.data ≠ .cell v := fun {b o f} e dd hb nf =>
      ⟨fun z => nf (z ▸ inL), fun z => nf (inF b z), fun v z => by rw [dd] at z; cases z⟩
    have JY : Inv (X.tr ((a, ox) :: (T, oT) :: (X.pn ++ pins)) X.xe) [] σ2 H2 { s' with heap := g } := by
      refine ⟨ok.toTry _ _, J.os, J.bare, J.base, J.loc, J.cell, J.free, J.freeC, fun p hp => ?_, J.hok, J.len⟩
      rw [List.append_nil] at hp
      rcases List.mem_cons.mp hp with rfl | hp
      · obtain ⟨y1, y2, y3⟩ := pinOf ex dx na oa
        exact ⟨ex, na, y1, y2, y3⟩
      rcases List.mem_cons.mp hp with rfl | hp
      · obtain ⟨y1, y2, y3⟩ := pinOf eT dT HT oTT
        exact ⟨eT, HT, y1, y2, y3⟩
      · exact J.pin p hp
    refine gone_ok (X := X.tr ((a, ox) :: (T, oT) :: (X.pn ++ pins)) X.xe) JY hN hi hln fun s4 J4 => ?_
    have pa := J4.pin (a, ox) (List.mem_append_left _ List.mem_cons_self)
    have pT := J4.pin (T, oT) (List.mem_append_left _ (List.mem_cons_of_mem _ List.mem_cons_self))
    have ga : s4.heap.get? a = some ox := pa.1
    have gT : s4.heap.get? T = some oT := pT.1
    have J6 : Inv X pins (σ2.set i none) H2 s4 := ⟨ok, J4.os, J4.bare, J4.base, J4.loc, J4.cell, J4.free, J4.freeC, fun p hp => J4.pin p (List.mem_append_left _ (List.mem_cons_of_mem _ (List.mem_cons_of_mem _ hp))), J4.hok, J4.len⟩
    have apart : ∀ b o, sI.heap.get? b = some o → b ≠ a ∧ b ≠ T := fun b o e => by
      by_cases m : b ∈ frs X.stack
      · rw [hs] at m
        exact ⟨fun z => oa (z ▸ m), fun z => oTT (z ▸ m)⟩
      · have y := nb b o e m
        exact ⟨fun z => (by rw [z, q2] at y; cases y), fun z => (by rw [z, bT] at y; cases y)⟩
    have apart0 : ∀ b o, X.s_0.heap.get? b = some o → b ≠ a ∧ b ≠ T := fun b o e => by
      obtain ⟨o2, y⟩ := I0.base.there b o e (by rw [hex]; exact List.not_mem_nil)
      exact apart b o2 y
    obtain ⟨G, in1, out1⟩ := restrict s4.heap fun b => decide (b ≠ a ∧ b ≠ T)
    have fromG : ∀ b o, G.get? b = some o → s4.heap.get? b = some o ∧ (b ≠ a ∧ b ≠ T) := fun b o e => by
      by_cases m : b ≠ a ∧ b ≠ T
      · rw [in1 b (decide_eq_true m)] at e; exact ⟨e, m⟩
      · rw [out1 b (decide_eq_false m)] at e; cases e
    have toG : ∀ b o, b ≠ a → b ≠ T → s4.heap.get? b = some o → G.get? b = some o := fun b o m1 m2 e => (in1 b (decide_eq_true ⟨m1, m2⟩)).trans e
    have I6 : Inv X pins (σ2.set i none) H2 { s4 with heap := G } := J6.less (fun b o e => (fromG b o e).1) toG ⟨ox, vx, ga, dx⟩ ⟨oT, vT, gT, dT⟩ na HT apart0 fun p hp => apart p.1 p.2 (I0.pin p hp).1
    have noB : ∀ b, ¬ (b ≠ a ∧ b ≠ T) → (PySem.W.hideAll G (frs X.stack)).get? b = none := fun b m => by
      cases y : (PySem.W.hideAll G (frs X.stack)).get? b with
      | none => rfl
      | some o => exact absurd (fromG b o (PySem.W.of_hideAll _ y)).2 m
    have held6 : HandSPX.HeldZ (PySem.W.hideAll G (frs X.stack)) (X.env :: X.outer) a (Zc cls d) X.env.locals s4.heap :=
      ⟨fun b o e => (fromG b o (PySem.W.of_hideAll _ e)).1, noB a (fun z => z.1 rfl), by rw [← hs]; exact funFrames_none J6.stack fun b hb => PySem.W.hideAll_none _ hb,
        ox, vx, T, oT, vT, ga, zx, dx, v1, noB T (fun z => z.2 rfl), Tx, gT, dT, t3⟩
    unfold PySem.passOn
    refine wpAny_bind (wpAny_field ga dx v1 ?_)
    rw [if_neg (by simp : ¬ ((Value.ref T == Value.none) = true))]
    have on : wpAny (model X.prog X.w) (X.A.mark (some (.ref a0))) (setFlight (.ref a) X.env.frame) (fun _ t => wpAny (model X.prog X.w) (X.A.mark (some (.ref a0))) (throw (.ref a) : Sem Flow) (fun _ _ => False) EN t) EN s4 := by
      rw [hf]
      refine HandSPX.setFlight_onZ held6 fun g7 h7 u7 => wpAny_throw (hpa _ _ (tk _ _ ?_))
      exact ⟨a, _, { s4 with heap := G }, pins, _, H2, cls, d, rfl, I6, fun b o e hb => PySem.W.hideAll_get _ e hb, (Heap.UpToSlots.of_keeps fun b o e => (fromG b o e).1).trans u7, .inr (.inr (by rw [hs] at *; exact h7)), na, rfl, J6.bare, w⟩
    first
      | exact wpAny_bind (wpAny_pure (wpAny_bind on))
      | exact wpAny_bind on
  rcases sk with ⟨y1, y2, y3, ox, vx, y4, y5, y6, y7⟩ | fl | hh
  · exact HandSPX.look_newZ Zc.steady hfr y3 hf y4 y1 y2 y6 y7 y5 key
  · exact HandSPX.looks_onZ Zc.steady hfr hf fl key
  · exact HandSPX.againZ hf hh.2.2.2 (key _ hh (Heap.UpToSlots.refl _))
end
end Kb
namespace Kb
open PySem PySem.Spec PyProof.Rows L2
/-- the clause names what is raised, and its suite never ends but by an error -/
def wAsX (K : PySem.W.Frag) (c : Value) (i : Nat) (ts : Addr → Value → Option Addr → TS) : WX := fun cls d σ H =>
  PySem.W.exmOne K cls c = some true ∧ ∀ a, H a = none → ts a cls d { nx := fun _ _ => False, rt := fun _ _ => False } (σ.set i (some (.ref a))) H
section
variable {X : Cx} {x n : Str} {c : Value} {i : Nat} {body suite : List Stmt} {b₀ : Stmt} {np pos pos' : Pos} {tb : WX → TS} {ts : Addr → Value → Option Addr → TS} {Wout : WX}
theorem ps_try_asX (hs : X.stack = X.env :: X.outer) (hf : X.env.frame = some X.env.locals) (hex : X.ex = []) (hN : X.N.Nodup) (hi : X.N[i]? = some n) (hln : X.env.kindOf n = some .local) (hc : Names X x c)
    (hpa : ∀ hd : Option Value, PassesOwnAt (model X.prog X.w) (X.A.mark hd) X.A X.env X.xe) (tk : Takes X Wout)
    (hb : ∀ (W : WX) (pn : List (Addr × Obj)) (xe : Value → Shared → Prop), L2N.Takes (X.tr pn xe) W → PassesOwn (model X.prog X.w) X.A X.env xe → PSs (X.tr pn xe) body (tb W))
    (hsu : ∀ (a : Addr) (oe : Obj) (cls : Value) (d : Option Addr) (pn : List (Addr × Obj)) (xe : Value → Shared → Prop), L2N.Zn cls d oe → (∃ vs, oe.data = .fields vs) →
      Takes (sx X a ((a, oe) :: pn) xe) (fun cls d σ H => Wout cls d (σ.set i none) H) → L2H.HotC (sx X a ((a, oe) :: pn) xe) → PSs (sx X a ((a, oe) :: pn) xe) (b₀ :: suite) (ts a cls d)) :
    PS X (.Try body [.ExceptHandler (some (.Name x np)) (some n) (b₀ :: suite) pos'] [] [] pos) (fun D σ H => tb (wAsX X.K c i ts) D σ H) := by
  refine ⟨fun pins s σ H D I h => ?_⟩
  have ok := I.ok
  have hfr : X.A.frames = some (X.env :: X.outer) := by rw [← hs]; exact ok.frames
  refine wpAny_Try_except (wpAny_mono ((hb (wAsX X.K c i ts) (X.pn ++ pins) (fun e t1 => wpAny (model X.prog X.w) X.A (noteFrame e X.env) (fun _ t2 => wpAny (model X.prog X.w) X.A (setFlight e none) (fun _ t3 =>
    wpAny (model X.prog X.w) X.A (handleBy e X.env [.ExceptHandler (some (.Name x np)) (some n) (b₀ :: suite) pos']) (SP X pins D) X.xe t3) X.xe t2) X.xe t1) (fun u s' xx => ?_) PassesOwn.looking).run [] s σ H D (I.toTry _) h) (fun f s1 done => ?_) (fun e t q => q))
  · obtain ⟨a, B, sI, p2, σ2, H2, cls, d, rfl, I2, nb, up, sky, na, os, ag, hm, go⟩ := xx
    have J : Inv X pins σ2 H2 sI := I2.ofTry ok
    have sk : L2.Sky B (X.env :: X.outer) a (L2N.Zn cls d) X.env.locals s'.heap := by rw [← hs]; exact sky
    show wpAny (model X.prog X.w) X.A (noteFrame (.ref a) X.env) _ _ _
    refine L2N.Sky.land L2N.Zn.steady hfr hf sk fun g fl upg => ?_
    have Jg : Inv X pins σ2 H2 { s' with heap := g } := J.landed nb fl.1 (up.trans upg) os ag
    obtain ⟨oe, vs, eo, zo, dz⟩ := fl.there
    have off : ∀ {h : Heap} {o : Obj} {f : Array Value}, h.FunFrames B (X.env :: X.outer) → h.get? a = some o → o.data = .fields f → a ∉ frs (X.env :: X.outer) := by
      intro h o f ff e dd m
      obtain ⟨_, o2, e2, no⟩ := ff.mem m
      cases e.symm.trans e2
      exact no _ dd
    have oa := off fl.2.2.1 eo dz
    have nL : a ≠ X.env.locals := fun z => oa (List.mem_filterMap.mpr ⟨X.env, List.mem_cons_self, by rw [hf, z]⟩)
    have nF : a ∉ X.fs := fun m => by
      obtain ⟨v, hv, q⟩ := List.mem_filterMap.mp m
      exact oa (List.mem_filterMap.mpr ⟨v, List.mem_cons_of_mem _ hv, q⟩)
    have S := Jg.suite eo dz na nL nF
    refine wpAny_handleBy_cons (codeAny_handlers_test ?_) (by intro q; cases q)
    have isA : PySem.W.Looks (model X.prog X.w) g (typeOf (.ref a)) cls := fun A Q E t k q => wpAny_typeOf_ref (k _ _ eo) (by rw [zo.1]; exact q)
    have its := PySem.W.exm_one (M := model X.prog X.w) Jg.kIn isA hm
    have named : ∀ {Q : Value → Shared → Prop} {E : Value → Shared → Prop}, Q c { s' with heap := g } → wpAny (model X.prog X.w) (X.A.mark (some (.ref a))) (eval (.Name x np) X.env) Q E { s' with heap := g } := by
      intro Q E q
      obtain ⟨hg, hdbg, hmg | ⟨hmg, hv, hnn⟩⟩ := hc
      · exact ld_glob (X := X.suite a ((a, oe) :: (X.pn ++ pins))) S hg hmg q hdbg
      · exact ld_blt (X := X.suite a ((a, oe) :: (X.pn ++ pins))) S hg hmg hv q hnn hdbg
    refine named (its.here (codeAny_handlers_suite_as (HandSPX.lands_againZ fl fun g4 fl4 up4 => ?_)))
    have J4 : Inv X pins σ2 H2 { s' with heap := g4 } := J.landed nb fl4.1 ((up.trans upg).trans up4) os ag
    obtain ⟨oe4, vs4, eo4, zo4, do4⟩ := fl4.there
    have S4 := J4.suite eo4 do4 na nL nF
    refine store_ok (X := X.suite a ((a, oe4) :: (X.pn ++ pins))) (v := .ref a) S4 hN hi (.inl hln) rfl (fun s5 S5 => ?_) (.inr hln)
    have hot : ∀ xe, L2H.HotC (sx X a ((a, oe4) :: (X.pn ++ pins)) xe) := fun xe => ⟨(a, oe4), ⟨rfl, vs4, do4, zo4.2.2 vs4 do4⟩, List.mem_cons_self⟩
    refine wpAny_mono ((hsu a oe4 cls d (X.pn ++ pins) (fun z t3 => wpAny (model X.prog X.w) (X.A.mark (some (.ref a))) (noteFrame z X.env) (fun _ t4 => wpAny (model X.prog X.w) (X.A.mark (some (.ref a))) (do bindName X.env n .none; unbindBehindTheSuite X.env n pos')
      (fun _ t5 => wpAny (model X.prog X.w) (X.A.mark (some (.ref a))) (passOn "try.except-as" z X.env : Sem Flow) (fun _ _ => False) (notedBy (model X.prog X.w) (X.A.mark (some (.ref a))) X.env (cameBackBy (model X.prog X.w) X.A X.env X.xe)) t5)
      (fun y t5 => wpAny (model X.prog X.w) (X.A.mark (some (.ref a))) (setFlight z none) (fun _ t6 => (notedBy (model X.prog X.w) (X.A.mark (some (.ref a))) X.env (cameBackBy (model X.prog X.w) X.A X.env X.xe)) y t6) (notedBy (model X.prog X.w) (X.A.mark (some (.ref a))) X.env (cameBackBy (model X.prog X.w) X.A X.env X.xe)) t5) t4)
      (notedBy (model X.prog X.w) (X.A.mark (some (.ref a))) X.env (cameBackBy (model X.prog X.w) X.A X.env X.xe)) t3) zo4 ⟨_, do4⟩ (fun u t xx => ?_) (hot _)).run [] s5 _ H2 _ (Inv.unwish (X := sx X a ((a, oe4) :: (X.pn ++ pins)) _) (E := fun _ _ => False) S5) (go a na)) (fun f s6 q => ?_) (fun e t q => q)
    · exact as_out (Eb := fun z y t5 => wpAny (model X.prog X.w) (X.A.mark (some (.ref a))) (setFlight z none) (fun _ t6 => (notedBy (model X.prog X.w) (X.A.mark (some (.ref a))) X.env (cameBackBy (model X.prog X.w) X.A X.env X.xe)) y t6) (notedBy (model X.prog X.w) (X.A.mark (some (.ref a))) X.env (cameBackBy (model X.prog X.w) X.A X.env X.xe)) t5)
        hs hf hex hN hi hln ok tk (hpa _) xx
    · cases f with
      | next => obtain ⟨_, _, _, q⟩ := q; exact q.elim
      | brk => obtain ⟨_, _, _, q⟩ := q; exact q.elim
      | cont => obtain ⟨_, _, _, q⟩ := q; exact q.elim
      | ret u => obtain ⟨_, _, _, _, _, q⟩ := q; exact q.elim
  · cases f with
    | next => obtain ⟨_, _, J, q⟩ := done; exact wpAny_execs_nil ⟨_, _, J.ofTry ok, q⟩
    | brk => obtain ⟨_, _, J, q⟩ := done; exact ⟨_, _, J.ofTry ok, q⟩
    | cont => obtain ⟨_, _, J, q⟩ := done; exact ⟨_, _, J.ofTry ok, q⟩
    | ret u => obtain ⟨_, _, _, J, r, q⟩ := done; exact ⟨_, _, _, J.ofTry ok, r, q⟩
end
end Kb
namespace Kb
open PySem PySem.Spec PyProof.Rows L2
/-! ### an own error without a context, made where nothing is handled -/
section
variable {X : Cx} {e : Expr} {es : List Expr} {ta : TA} {p pos : Pos}
theorem pmk_oexN {CX : CXT} {x : Str} {C fI : Addr} {k : Nat} {fd : FuncData} {ps : List Str} {sp : Sp} (T : OexC X.K C) (iC : PySem.W.findIn X.K (.ref C) "__init__" = some (some (.ref fI))) (tI : PySem.W.typeIn X.K (.ref fI) = some (.type "function"))
    (F1 : FnOk X.prog X.w X.K X.mg X.base CX k fI fd ps sp) (hr : Room (k + 1) X.A) (hb : Binds X.K fd ps []) (hx : Passes CX X (fun _ _ _ => False)) (hg : Gl X x) (hm : X.mg x = some (.ref C)) (ha : PA X (e :: es) ta)
    (hdb : (x == ("__debug__" : Str)) = false := by decide) (he : starEach (e :: es) X.env = (false, eval e X.env) :: starEach es X.env := by rfl) (hpl : (backTo pos (starEach es X.env)).any (·.1) = false := by rfl) :
    L2N.PMk X (.Call (.Name x p) (e :: es) [] pos) (tMkO C sp [] ta) := by
  intro pins s σ H Q I h
  obtain ⟨_, _, _, _, bm, _, _, _, _, _, _, _, _, _, _, cC, hbm⟩ := T.cls
  refine wpAny_Call_Name_kw (ld_glob I hg hm (PySem.W.callWith_K (h₀ := X.base) I.ok.mod.kin T.kC (thn (ha.run pos pins s σ H _ I h) fun us t1 ⟨vs, H1, J1, rv, few, more⟩ => ⟨J1.kIn, ?_⟩) he hpl) hdb)
  show wpAny _ _ (call (.ref C) us) _ _ _
  obtain ⟨g0, gn, dn, tn, on⟩ := t1
  have top : g0.objs.size ≤ g0.objs.size + 1 := Nat.le_succ _
  have want := more (g0.objs.size + 1) (J1.hok.fresh top)
  have stays : ∀ b o, g0.get? b = some o → ((g0.push (PySem.W.kdv_tup us)).push (PySem.HandSPX.excO C g0.objs.size)).get? b = some o := fun b o y => Heap.get?_push_of_some _ (Heap.get?_push_of_some _ y)
  have made : ((g0.push (PySem.W.kdv_tup us)).push (PySem.HandSPX.excO C g0.objs.size)).get? (g0.objs.size + 1) = some (PySem.HandSPX.excO C g0.objs.size) := by heap_get
  have J2 := J1.laid (t' := tn) (a := g0.objs.size + 1) (o := exo (g0.objs.size + 1) C none) stays top (exo_ok made)
  rw [List.append_nil] at want
  have rvs : Vals (V.ref (g0.objs.size + 1) :: vs) (Value.ref (g0.objs.size + 1) :: us) := .cons rfl rv
  have many : (Value.ref (g0.objs.size + 1) :: us ++ []).length = ps.length := by
    rw [List.append_nil, ← rvs.length, F1.len _ _ _ _ want]
  have bnd := hb _ (Value.ref (g0.objs.size + 1) :: us) J2.kIn many
  rw [List.append_nil] at bnd
  have room := F1.run _ X.stack _ _ ⟨Value.ref (g0.objs.size + 1) :: us, []⟩ (Value.ref (g0.objs.size + 1) :: us) _ _ (fun _ _ _ => False) (hr.make C us []) (J2.env0.make C us []) bnd rvs want
  refine wpAny_call (PySem.HandSPX.call_own F.excBase_ValueError (fun Y => PySem.HandSPX.refsVE_contains Y bm hbm) (J1.kIn _ _ cC) (PySem.W.looks_findIn J1.kIn iC) (fun self => PySem.W.bind_fn J1.kIn self tI) (by rw [← Paired.length rv, sizeLine_eq]; omega) (codeAny_mono room fun r t back => ?_))
  cases r with
  | error er => exact hx pins σ _ _ er t J2 back
  | ok fl =>
    cases fl with
    | next => exact back.elim
    | brk => exact back.elim
    | cont => exact back.elim
    | ret u =>
      obtain ⟨v, H2, o2, b2, un2, ok2, r2, rfl, d, fs, ea, ed, fresh, q2⟩ := back
      obtain ⟨g2, gn2, dn2, tn2, on2⟩ := t
      obtain ⟨t0, G, J, sub, gone, there, clear⟩ := mk_end0 (d2 := dn2) (t2 := tn2) J1 top stays un2 ok2 o2 b2 ea ed fresh
      exact ⟨r2, g0.objs.size + 1, _, _, ⟨G, gn2, dn2, tn2, on2⟩, _, .ref C, some d, rfl, J, sub, gone, there, ⟨rfl, rfl, fun w hw => by cases hw; rfl⟩, rfl, rfl, clear, rfl, b2, raises_own T.exC T.tyC, q2⟩
theorem pmk_errN {cn f : Str} {C : Addr} {e : Expr} {ta : TA} {p pos : Pos} {k : Nat} (T : Err X.K X.mg cn f C) (hr : Room k X.A) (hk : 2 ≤ k) (hx : Passes CX0 X (fun _ _ _ => False)) (ha : PA X [e] ta) (hg : Gl X cn)
    (hdb : (cn == ("__debug__" : Str)) = false := by decide) (he : starEach (e :: []) X.env = (false, eval e X.env) :: starEach [] X.env := by rfl) (hpl : (backTo pos (starEach [] X.env)).any (·.1) = false := by rfl) :
    L2N.PMk X (.Call (.Name cn p) [e] [] pos) (tErr C f ta) := by
  intro pins s σ H Q I h
  obtain ⟨fI, fd, iC, tI, hb, F⟩ := T.ini
  refine pmk_oexN T.T iC tI (F X.prog X.w X.base) (hr.mono hk) hb hx hg T.g (pa_mono ha) hdb he hpl pins s σ H Q I ⟨_, h, ?_⟩
  rintro vs H1 ⟨v, rfl, hq⟩
  refine ⟨by show 1 ≤ 1000; decide, fun a hn => ⟨a, v, rfl, upd_same, T.T, T.no, fun dx hdx hne => ⟨rfl, dx, [(f, v)], upd_same, ?_, ?_, ?_⟩⟩⟩
  · rw [upd_ne hne, upd_same]
  · rw [upd_ne hne] at hdx; exact hdx
  · rw [upd_ne hne] at hdx
    rw [upd_del hn hne]
    exact hq dx hdx
theorem ps_raiseEN {cn f : Str} {C : Addr} {e : Expr} {ta : TA} {W : WX} {p pos pos2 : Pos} {k : Nat} (hc : X.calm = true) (T : Err X.K X.mg cn f C) (hr : Room k X.A) (hk : 2 ≤ k) (hx : Passes CX0 X (fun _ _ _ => False)) (tk : L2N.Takes X W) (ha : PA X [e] ta) (hg : Gl X cn)
    (hdb : (cn == ("__debug__" : Str)) = false := by decide) (he : starEach (e :: []) X.env = (false, eval e X.env) :: starEach [] X.env := by rfl) (hpl : (backTo pos (starEach [] X.env)).any (·.1) = false := by rfl) :
    PS X (.Raise (some (.Call (.Name cn p) [e] [] pos)) none pos2) (tRaise C f W ta) := L2N.ps_raise hc tk (pmk_errN T hr hk hx ha hg hdb he hpl)
theorem pe_cXN {W : WX} {j k : Nat} {x : Str} {ps : List Str} {sp : Sp} {p pos : Pos} {e : Expr} {es : List Expr} {t : TA} (c : Cal X.prog X.w X.K X.mg X.base (L2N.CX X.prog X.w) j x ps sp) (hr : Room k X.A) (hjk : j ≤ k) (hg : Gl X x) (tk : L2N.Takes X W)
    (ha : PA X (e :: es) t) (hdb : (x == ("__debug__" : Str)) = false := by decide) (he : starEach (e :: es) X.env = (false, eval e X.env) :: starEach es X.env := by rfl) (hpl : (backTo pos (starEach es X.env)).any (·.1) = false := by rfl) :
    PE X (.Call (.Name x p) (e :: es) [] pos) (tCallS sp (WE W) t) := by
  obtain ⟨f, fd, F, m, kp, b⟩ := c
  exact pe_callS F (hr.mono hjk) hg m kp b (fun σ => L2N.passAt tk σ) ha hdb he hpl
/-- an own error, with __init__ also where an error is handled -/
structure ErrH (K : PySem.W.Frag) (mg : Str → Option Value) (cn f : Str) (C : Addr) : Prop extends Err K mg cn f C where
  iniH : ∃ (fI : Addr) (fd : FuncData), PySem.W.findIn K (.ref C) "__init__" = some (some (.ref fI)) ∧ PySem.W.typeIn K (.ref fI) = some (.type "function") ∧ Binds K fd ["self", f] [] ∧
    ∀ (P : Program) (w : World) (base : Heap), L2H.FnH P w K mg base CX0 1 fI fd ["self", f] (spInit K C f)
theorem pmk_errH {cn f : Str} {C : Addr} {e : Expr} {ta : TA} {p pos : Pos} {k : Nat} (T : ErrH X.K X.mg cn f C) (hr : L2H.RoomH k X.A) (hk : 2 ≤ k) (hc : L2H.HotC X) (hx : Passes CX0 X (fun _ _ _ => False)) (ha : PA X [e] ta) (hg : Gl X cn)
    (hdb : (cn == ("__debug__" : Str)) = false := by decide) (he : starEach (e :: []) X.env = (false, eval e X.env) :: starEach [] X.env := by rfl) (hpl : (backTo pos (starEach [] X.env)).any (·.1) = false := by rfl) :
    L2H.PMk5 X (.Call (.Name cn p) [e] [] pos) (tErr C f ta) := by
  intro pins s σ H Q I h
  obtain ⟨fI, fd, iC, tI, hb, F⟩ := T.iniH
  refine L2H.pmk5_oexH T.T iC tI (F X.prog X.w X.base) (hr.mono hk) hc hb hx hg T.g (pa_mono ha) hdb he hpl pins s σ H Q I ⟨_, h, ?_⟩
  rintro vs H1 ⟨v, rfl, hq⟩
  refine ⟨by show 1 ≤ 1000; decide, fun a hn => ⟨a, v, rfl, upd_same, T.T, T.no, fun dx hdx hne => ⟨rfl, dx, [(f, v)], upd_same, ?_, ?_, ?_⟩⟩⟩
  · rw [upd_ne hne, upd_same]
  · rw [upd_ne hne] at hdx; exact hdx
  · rw [upd_ne hne] at hdx
    rw [upd_del hn hne]
    exact hq dx hdx
/-- raise C(e) from None, in a suite -/
theorem ps_raiseEH {cn f : Str} {C : Addr} {e : Expr} {ta : TA} {W : WX} {p pos pos2 cpos : Pos} {j k : Nat} (T : ErrH X.K X.mg cn f C) (hr : L2H.RoomH k X.A) (hk : 2 ≤ k) (hc : L2H.HotC X) (hx : Passes CX0 X (fun _ _ _ => False)) (tk : Takes X W) (ha : PA X [e] ta) (hg : Gl X cn)
    (hdb : (cn == ("__debug__" : Str)) = false := by decide) (he : starEach (e :: []) X.env = (false, eval e X.env) :: starEach [] X.env := by rfl) (hpl : (backTo pos (starEach [] X.env)).any (·.1) = false := by rfl) :
    PS X (.Raise (some (.Call (.Name cn p) [e] [] pos)) (some (.Constant .none j cpos)) pos2) (tRaise C f W ta) := L2H.ps_raiseHN hc tk (pmk_errH T hr hk hc hx ha hg hdb he hpl)
end
section
variable {P : Program} {w : World} {K : PySem.W.Frag} {mg : Str → Option Value} {base : Heap}
theorem Df.okXN {x : Str} {st : Stmt} {N ps : List Str} {k : Nat} {sp : Sp} (D : Df K mg x st ps) (S : FnScope N ps (defScope st)) (len : ∀ vs H Q E, sp vs H Q E → vs.length = ps.length)
    (hbody : ∀ (f : Addr) (cdv : Value) (A : Around) (outer : List Env) (s : Shared) (H : Hp) (vs : List V) (Q : VK) (E : XK), Room k (A.deeper (envOfC x (defScope st) s.heap.objs.size f cdv)) → sp vs H Q E →
      ∃ t, PSs (cxOf (L2N.CX P w) P w K mg base N x (defScope st) f cdv A outer s H E) (defBody st) t ∧ t { nx := fun _ H' => Q .non H', rt := Q } (start N vs) H) : Cal P w K mg base (L2N.CX P w) (k + 1) x ps sp := by
  obtain ⟨f, fd, F, m, b⟩ := D
  obtain ⟨_, _, _, _, _, _, _, _, _, rfl, lk, hcd⟩ := F.ex
  exact ⟨f, _, fn_of lk hcd S len fun A outer s H vs Q E hr hsp => hbody f _ A outer s H vs Q E hr hsp, m, F.kp, .all b⟩
theorem Fun.okH {x qual : Str} {st : Stmt} {f : Addr} {fd : FuncData} {N ps : List Str} {k : Nat} {sp : Sp} (F : Fun K x qual st f fd) (S : FnScope N ps (defScope st)) (len : ∀ vs H Q E, sp vs H Q E → vs.length = ps.length)
    (hbody : ∀ (cdv : Value) (A : Around) (outer : List Env) (s : Shared) (H : Hp) (vs : List V) (Q : VK) (E : XK) (p : Addr × Obj), sp vs H Q E →
      ∃ t, PSs (L2H.cxH CX0 P w K mg base N qual (defScope st) f cdv A outer s H E p) (defBody st) t ∧ t { nx := fun _ H' => Q .non H', rt := Q } (start N vs) H) : L2H.FnH P w K mg base CX0 (k + 1) f fd ps sp := by
  obtain ⟨_, _, _, _, _, _, _, _, _, rfl, lk, hcd⟩ := F.ex
  exact L2H.fn_ofH lk hcd S len fun A outer s H vs Q E p _ _ hsp => hbody _ A outer s H vs Q E p hsp
theorem Err.toH {cn f q0 : Str} {C fI : Addr} {fd : FuncData} {st : Stmt} (E : Err K mg cn f C) (a1 : PySem.W.findIn K (.ref C) "__init__" = some (some (.ref fI))) (t1 : PySem.W.typeIn K (.ref fI) = some (.type "function"))
    (b : Binds K fd ["self", f] []) (F : Fun K "__init__" q0 st fI fd) (ok : ∀ (P : Program) (w : World) (base : Heap), Fun K "__init__" q0 st fI fd → L2H.FnH P w K mg base CX0 1 fI fd ["self", f] (spInit K C f)) : ErrH K mg cn f C :=
  ⟨E, fI, fd, a1, t1, b, fun P w base => ok P w base F⟩
/-- nothing is let out by a callee that lets nothing out -/
theorem passFN {X : Cx} : Passes (L2N.CX P w) X (fun _ _ _ => False) := fun _ _ _ _ _ _ _ h => by
  obtain ⟨_, _, _, _, _, _, _, _, _, _, _, _, q⟩ := h
  exact q.elim
end
end Kb
namespace Kb
open PySem PySem.Spec PyProof.Rows L2
/-- the field of the caught error, in a suite that raises -/
theorem pe_xfS {X : Cx} {a C : Addr} {oe : Obj} {cls : Value} {d : Option Addr} {pn : List (Addr × Obj)} {xe : Value → Shared → Prop} {e : Expr} {te : TE} {pos : Pos} {n : Str} (T : XfC X.K C) (hno : PySem.W.findIn X.K (.ref C) n = some none)
    (hz : L2N.Zn cls d oe) (hf : ∃ vs, oe.data = .fields vs) (he : PE (X.suite a ((a, oe) :: pn)) e te) (hb : attributeBase e n X.env (eval e X.env) = eval e X.env := by rfl) :
    PE (sx X a ((a, oe) :: pn) xe) (.Attribute e n pos) (tXf a cls d C n te) := PE.nox (X := sx X a ((a, oe) :: pn) xe) (pe_xf T hno hz.zc hf he hb)
end Kb

namespace Pf
open PySem PySem.Spec PyProof.Rows L2 TL Kb
def top (i : Nat) : Stmt := PySem.Challenge.pw_crumbjar_k31_crumbs_under_rules.main.body.getD i (.Pass ⟨0, 0, 0, 0⟩)
def mth : Stmt → Nat → Stmt
  | .ClassDef _ _ _ body _ _ _ _ _ _ _, j => body.getD j (.Pass ⟨0, 0, 0, 0⟩)
  | s, _ => s
def clsInit : Stmt → Stmt
  | .ClassDef _ _ _ body _ _ _ _ _ _ _ => body.getD 0 (.Pass ⟨0, 0, 0, 0⟩)
  | s => s
abbrev si_BadCrumb : Stmt := clsInit (top 8)
theorem sci_BadCrumb : FnScope ["self", "field"] ["self", "field"] (defScope si_BadCrumb) := ⟨rfl, rfl, rfl, by decide +kernel, rfl, by decide +kernel, by decide +kernel⟩
theorem oki_BadCrumb {K : PySem.W.Frag} {mg : Str → Option Value} {C fI : Addr} {fd : FuncData} (P : Program) (w : World) (base : Heap) (F : Fun K "__init__" "BadCrumb.__init__" si_BadCrumb fI fd) : FnOk P w K mg base CX0 1 fI fd ["self", "field"] (spInit K C "field") := by
  refine F.ok sci_BadCrumb (fun vs H Q E h => ?_) (fun cdv A outer s H vs Q E hr h => ?_)
  · obtain ⟨_, _, rfl, _⟩ := h; rfl
  · refine ⟨_, pss_one (ps_ost (pv 0) (pv 1)), ?_⟩
    obtain ⟨a, v, rfl, ha, T, no, hQ⟩ := h
    exact ⟨_, rfl, _, rfl, a, C, rfl, T, no, .inl ⟨ha, fun dx h1 h2 => hQ dx h1 h2⟩⟩
theorem bi_BadCrumb : ∀ (kV doc pm : Value) (an : Option Addr) (cdv ct : Value) (us : List Value), us.length = (["self", "field"] : List Str).length → bindArgs (PySem.W.fnOf "__init__" "BadCrumb.__init__" (defArgs si_BadCrumb) (defBody si_BadCrumb) (defScope si_BadCrumb) .none kV doc pm an cdv ct) ⟨us, []⟩ = pure ((["self", "field"] : List Str).zip us) :=
  fun _ _ _ _ _ _ us hl => match us, hl with | [_, _], _ => rfl
theorem okh_BadCrumb {K : PySem.W.Frag} {mg : Str → Option Value} {C fI : Addr} {fd : FuncData} (P : Program) (w : World) (base : Heap) (F : Fun K "__init__" "BadCrumb.__init__" si_BadCrumb fI fd) : L2H.FnH P w K mg base CX0 1 fI fd ["self", "field"] (spInit K C "field") := by
  refine Kb.Fun.okH F sci_BadCrumb (fun vs H Q E h => ?_) (fun cdv A outer s H vs Q E p h => ?_)
  · obtain ⟨_, _, rfl, _⟩ := h; rfl
  · refine ⟨_, pss_one (ps_ost (pv 0) (pv 1)), ?_⟩
    obtain ⟨a, v, rfl, ha, T, no, hQ⟩ := h
    exact ⟨_, rfl, _, rfl, a, C, rfl, T, no, .inl ⟨ha, fun dx h1 h2 => hQ dx h1 h2⟩⟩
abbrev si_BadLine : Stmt := clsInit (top 7)
theorem sci_BadLine : FnScope ["self", "field"] ["self", "field"] (defScope si_BadLine) := ⟨rfl, rfl, rfl, by decide +kernel, rfl, by decide +kernel, by decide +kernel⟩
theorem oki_BadLine {K : PySem.W.Frag} {mg : Str → Option Value} {C fI : Addr} {fd : FuncData} (P : Program) (w : World) (base : Heap) (F : Fun K "__init__" "BadLine.__init__" si_BadLine fI fd) : FnOk P w K mg base CX0 1 fI fd ["self", "field"] (spInit K C "field") := by
  refine F.ok sci_BadLine (fun vs H Q E h => ?_) (fun cdv A outer s H vs Q E hr h => ?_)
  · obtain ⟨_, _, rfl, _⟩ := h; rfl
  · refine ⟨_, pss_one (ps_ost (pv 0) (pv 1)), ?_⟩
    obtain ⟨a, v, rfl, ha, T, no, hQ⟩ := h
    exact ⟨_, rfl, _, rfl, a, C, rfl, T, no, .inl ⟨ha, fun dx h1 h2 => hQ dx h1 h2⟩⟩
theorem bi_BadLine : ∀ (kV doc pm : Value) (an : Option Addr) (cdv ct : Value) (us : List Value), us.length = (["self", "field"] : List Str).length → bindArgs (PySem.W.fnOf "__init__" "BadLine.__init__" (defArgs si_BadLine) (defBody si_BadLine) (defScope si_BadLine) .none kV doc pm an cdv ct) ⟨us, []⟩ = pure ((["self", "field"] : List Str).zip us) :=
  fun _ _ _ _ _ _ us hl => match us, hl with | [_, _], _ => rfl
theorem okh_BadLine {K : PySem.W.Frag} {mg : Str → Option Value} {C fI : Addr} {fd : FuncData} (P : Program) (w : World) (base : Heap) (F : Fun K "__init__" "BadLine.__init__" si_BadLine fI fd) : L2H.FnH P w K mg base CX0 1 fI fd ["self", "field"] (spInit K C "field") := by
  refine Kb.Fun.okH F sci_BadLine (fun vs H Q E h => ?_) (fun cdv A outer s H vs Q E p h => ?_)
  · obtain ⟨_, _, rfl, _⟩ := h; rfl
  · refine ⟨_, pss_one (ps_ost (pv 0) (pv 1)), ?_⟩
    obtain ⟨a, v, rfl, ha, T, no, hQ⟩ := h
    exact ⟨_, rfl, _, rfl, a, C, rfl, T, no, .inl ⟨ha, fun dx h1 h2 => hQ dx h1 h2⟩⟩
abbrev si_BadRules : Stmt := clsInit (top 4)
theorem sci_BadRules : FnScope ["self", "index"] ["self", "index"] (defScope si_BadRules) := ⟨rfl, rfl, rfl, by decide +kernel, rfl, by decide +kernel, by decide +kernel⟩
theorem oki_BadRules {K : PySem.W.Frag} {mg : Str → Option Value} {C fI : Addr} {fd : FuncData} (P : Program) (w : World) (base : Heap) (F : Fun K "__init__" "BadRules.__init__" si_BadRules fI fd) : FnOk P w K mg base CX0 1 fI fd ["self", "index"] (spInit K C "index") := by
  refine F.ok sci_BadRules (fun vs H Q E h => ?_) (fun cdv A outer s H vs Q E hr h => ?_)
  · obtain ⟨_, _, rfl, _⟩ := h; rfl
  · refine ⟨_, pss_one (ps_ost (pv 0) (pv 1)), ?_⟩
    obtain ⟨a, v, rfl, ha, T, no, hQ⟩ := h
    exact ⟨_, rfl, _, rfl, a, C, rfl, T, no, .inl ⟨ha, fun dx h1 h2 => hQ dx h1 h2⟩⟩
theorem bi_BadRules : ∀ (kV doc pm : Value) (an : Option Addr) (cdv ct : Value) (us : List Value), us.length = (["self", "index"] : List Str).length → bindArgs (PySem.W.fnOf "__init__" "BadRules.__init__" (defArgs si_BadRules) (defBody si_BadRules) (defScope si_BadRules) .none kV doc pm an cdv ct) ⟨us, []⟩ = pure ((["self", "index"] : List Str).zip us) :=
  fun _ _ _ _ _ _ us hl => match us, hl with | [_, _], _ => rfl
theorem okh_BadRules {K : PySem.W.Frag} {mg : Str → Option Value} {C fI : Addr} {fd : FuncData} (P : Program) (w : World) (base : Heap) (F : Fun K "__init__" "BadRules.__init__" si_BadRules fI fd) : L2H.FnH P w K mg base CX0 1 fI fd ["self", "index"] (spInit K C "index") := by
  refine Kb.Fun.okH F sci_BadRules (fun vs H Q E h => ?_) (fun cdv A outer s H vs Q E p h => ?_)
  · obtain ⟨_, _, rfl, _⟩ := h; rfl
  · refine ⟨_, pss_one (ps_ost (pv 0) (pv 1)), ?_⟩
    obtain ⟨a, v, rfl, ha, T, no, hQ⟩ := h
    exact ⟨_, rfl, _, rfl, a, C, rfl, T, no, .inl ⟨ha, fun dx h1 h2 => hQ dx h1 h2⟩⟩
abbrev s_has_only : Stmt := top 15
theorem sc_has_only : FnScope ["text", "signs"] ["text", "signs"] (defScope s_has_only) := ⟨rfl, rfl, rfl, by decide +kernel, rfl, by decide +kernel, by decide +kernel⟩
abbrev s__is_label : Stmt := top 29
theorem sc__is_label : FnScope ["text"] ["text"] (defScope s__is_label) := ⟨rfl, rfl, rfl, by decide +kernel, rfl, by decide +kernel, by decide +kernel⟩
abbrev s_are_labels : Stmt := top 28
theorem sc_are_labels : FnScope ["texts", "text"] ["texts"] (defScope s_are_labels) := ⟨rfl, rfl, rfl, by decide +kernel, rfl, by decide +kernel, by decide +kernel⟩
abbrev s__is_rule : Stmt := top 66
theorem sc__is_rule : FnScope ["value", "labels"] ["value"] (defScope s__is_rule) := ⟨rfl, rfl, rfl, by decide +kernel, rfl, by decide +kernel, by decide +kernel⟩
abbrev s_need_rules : Stmt := top 63
theorem sc_need_rules : FnScope ["rules", "index", "rule"] ["rules"] (defScope s_need_rules) := ⟨rfl, rfl, rfl, by decide +kernel, rfl, by decide +kernel, by decide +kernel⟩
abbrev s_is_digits : Stmt := top 16
theorem sc_is_digits : FnScope ["text"] ["text"] (defScope s_is_digits) := ⟨rfl, rfl, rfl, by decide +kernel, rfl, by decide +kernel, by decide +kernel⟩
abbrev s__is_number : Stmt := top 31
theorem sc__is_number : FnScope ["label"] ["label"] (defScope s__is_number) := ⟨rfl, rfl, rfl, by decide +kernel, rfl, by decide +kernel, by decide +kernel⟩
abbrev s__are_four_numbers : Stmt := top 30
theorem sc__are_four_numbers : FnScope ["labels", "label"] ["labels"] (defScope s__are_four_numbers) := ⟨rfl, rfl, rfl, by decide +kernel, rfl, by decide +kernel, by decide +kernel⟩
abbrev s_is_host : Stmt := top 24
theorem sc_is_host : FnScope ["value", "labels"] ["value"] (defScope s_is_host) := ⟨rfl, rfl, rfl, by decide +kernel, rfl, by decide +kernel, by decide +kernel⟩
abbrev s_is_address_host : Stmt := top 25
theorem sc_is_address_host : FnScope ["value"] ["value"] (defScope s_is_address_host) := ⟨rfl, rfl, rfl, by decide +kernel, rfl, by decide +kernel, by decide +kernel⟩
abbrev s__last_labels : Stmt := top 68
theorem sc__last_labels : FnScope ["host", "many"] ["host", "many"] (defScope s__last_labels) := ⟨rfl, rfl, rfl, by decide +kernel, rfl, by decide +kernel, by decide +kernel⟩
abbrev s__size : Stmt := top 67
theorem sc__size : FnScope ["text"] ["text"] (defScope s__size) := ⟨rfl, rfl, rfl, by decide +kernel, rfl, by decide +kernel, by decide +kernel⟩
abbrev s__matches : Stmt := top 70
theorem sc__matches : FnScope ["pattern", "host", "ending"] ["pattern", "host"] (defScope s__matches) := ⟨rfl, rfl, rfl, by decide +kernel, rfl, by decide +kernel, by decide +kernel⟩
abbrev s__suffix_size : Stmt := top 69
theorem sc__suffix_size : FnScope ["rules", "host", "longest", "exception", "rule"] ["rules", "host"] (defScope s__suffix_size) := ⟨rfl, rfl, rfl, by decide +kernel, rfl, by decide +kernel, by decide +kernel⟩
abbrev s_known_suffix : Stmt := top 64
theorem sc_known_suffix : FnScope ["rules", "host"] ["rules", "host"] (defScope s_known_suffix) := ⟨rfl, rfl, rfl, by decide +kernel, rfl, by decide +kernel, by decide +kernel⟩
abbrev s_known_family : Stmt := top 65
theorem sc_known_family : FnScope ["rules", "host", "suffix"] ["rules", "host"] (defScope s_known_family) := ⟨rfl, rfl, rfl, by decide +kernel, rfl, by decide +kernel, by decide +kernel⟩
abbrev s_is_crumb : Stmt := top 76
theorem sc_is_crumb : FnScope ["rules", "value", "site", "is_foreign"] ["rules", "value"] (defScope s_is_crumb) := ⟨rfl, rfl, rfl, by decide +kernel, rfl, by decide +kernel, by decide +kernel⟩
abbrev s__law_begun : Stmt := top 87
theorem sc__law_begun : FnScope ["script", "blend", "k", "cell"] ["script"] (defScope s__law_begun) := ⟨rfl, rfl, rfl, by decide +kernel, rfl, by decide +kernel, by decide +kernel⟩
abbrev s__law_next : Stmt := top 88
theorem sc__law_next : FnScope ["draw", "below", "great", "upon", "found", "blend"] ["draw", "below"] (defScope s__law_next) := ⟨rfl, rfl, rfl, by decide +kernel, rfl, by decide +kernel, by decide +kernel⟩
abbrev s__law_pick : Stmt := top 89
theorem sc__law_pick : FnScope ["draw", "some"] ["draw", "some"] (defScope s__law_pick) := ⟨rfl, rfl, rfl, by decide +kernel, rfl, by decide +kernel, by decide +kernel⟩
abbrev s__law_rules : Stmt := top 93
theorem sc__law_rules : FnScope ["draw", "some"] ["draw"] (defScope s__law_rules) := ⟨rfl, rfl, rfl, by decide +kernel, rfl, by decide +kernel, by decide +kernel⟩
abbrev s__law_is_numbers : Stmt := top 90
theorem sc__law_is_numbers : FnScope ["host", "sign"] ["host"] (defScope s__law_is_numbers) := ⟨rfl, rfl, rfl, by decide +kernel, rfl, by decide +kernel, by decide +kernel⟩
abbrev s__law_suffix : Stmt := top 91
theorem sc__law_suffix : FnScope ["rules", "host", "labels", "size", "ahead", "rule", "words", "tail", "off", "is_met", "k"] ["rules", "host"] (defScope s__law_suffix) := ⟨rfl, rfl, rfl, by decide +kernel, rfl, by decide +kernel, by decide +kernel⟩
abbrev s__law_family : Stmt := top 92
theorem sc__law_family : FnScope ["rules", "host"] ["rules", "host"] (defScope s__law_family) := ⟨rfl, rfl, rfl, by decide +kernel, rfl, by decide +kernel, by decide +kernel⟩
abbrev s__law_hosts : Stmt := top 94
theorem sc__law_hosts : FnScope ["some"] [] (defScope s__law_hosts) := ⟨rfl, rfl, rfl, by decide +kernel, rfl, by decide +kernel, by decide +kernel⟩
abbrev s__law_crumb_parts : Stmt := top 95
theorem sc__law_crumb_parts : FnScope ["draw", "rules", "spot", "label", "worth", "again", "mark", "is_firm", "is_alone", "c", "top", "is_local", "first"] ["draw", "rules"] (defScope s__law_crumb_parts) := ⟨rfl, rfl, rfl, by decide +kernel, rfl, by decide +kernel, by decide +kernel⟩
abbrev s_is_integer : Stmt := top 12
theorem sc_is_integer : FnScope ["value"] ["value"] (defScope s_is_integer) := ⟨rfl, rfl, rfl, by decide +kernel, rfl, by decide +kernel, by decide +kernel⟩
abbrev s_is_tick : Stmt := top 13
theorem sc_is_tick : FnScope ["value"] ["value"] (defScope s_is_tick) := ⟨rfl, rfl, rfl, by decide +kernel, rfl, by decide +kernel, by decide +kernel⟩
abbrev s__is_path_sign : Stmt := top 43
theorem sc__is_path_sign : FnScope ["sign"] ["sign"] (defScope s__is_path_sign) := ⟨rfl, rfl, rfl, by decide +kernel, rfl, by decide +kernel, by decide +kernel⟩
abbrev s_is_path : Stmt := top 39
theorem sc_is_path : FnScope ["value", "sign"] ["value"] (defScope s_is_path) := ⟨rfl, rfl, rfl, by decide +kernel, rfl, by decide +kernel, by decide +kernel⟩
abbrev s_mark_of : Stmt := top 78
theorem sc_mark_of : FnScope ["name", "value", "text", "mark"] ["name", "value"] (defScope s_mark_of) := ⟨rfl, rfl, rfl, by decide +kernel, rfl, by decide +kernel, by decide +kernel⟩
abbrev s_key_of : Stmt := top 79
theorem sc_key_of : FnScope ["space", "host", "is_exact", "path", "name"] ["space", "host", "is_exact", "path", "name"] (defScope s_key_of) := ⟨rfl, rfl, rfl, by decide +kernel, rfl, by decide +kernel, by decide +kernel⟩
abbrev s__need : Stmt := top 80
theorem sc__need : FnScope ["field", "is_right"] ["field", "is_right"] (defScope s__need) := ⟨rfl, rfl, rfl, by decide +kernel, rfl, by decide +kernel, by decide +kernel⟩
abbrev s__is_from_0 : Stmt := top 54
theorem sc__is_from_0 : FnScope ["value", "most"] ["value", "most"] (defScope s__is_from_0) := ⟨rfl, rfl, rfl, by decide +kernel, rfl, by decide +kernel, by decide +kernel⟩
abbrev s_is_trimmed : Stmt := top 49
theorem sc_is_trimmed : FnScope ["text"] ["text"] (defScope s_is_trimmed) := ⟨rfl, rfl, rfl, by decide +kernel, rfl, by decide +kernel, by decide +kernel⟩
abbrev s__has_control : Stmt := top 58
theorem sc__has_control : FnScope ["text", "sign"] ["text"] (defScope s__has_control) := ⟨rfl, rfl, rfl, by decide +kernel, rfl, by decide +kernel, by decide +kernel⟩
abbrev s__is_part : Stmt := top 57
theorem sc__is_part : FnScope ["value"] ["value"] (defScope s__is_part) := ⟨rfl, rfl, rfl, by decide +kernel, rfl, by decide +kernel, by decide +kernel⟩
abbrev s__is_name : Stmt := top 55
theorem sc__is_name : FnScope ["value"] ["value"] (defScope s__is_name) := ⟨rfl, rfl, rfl, by decide +kernel, rfl, by decide +kernel, by decide +kernel⟩
abbrev s__is_value : Stmt := top 56
theorem sc__is_value : FnScope ["value", "name"] ["value", "name"] (defScope s__is_value) := ⟨rfl, rfl, rfl, by decide +kernel, rfl, by decide +kernel, by decide +kernel⟩
abbrev s_Line__init : Stmt := mth (top 52) 0
theorem sc_Line__init : FnScope ["self", "name", "value", "expires", "age", "domain", "path", "is_secure", "is_hidden", "same", "is_partitioned", "priority", "field", "is_right"] ["self", "name", "value", "expires", "age", "domain", "path", "is_secure", "is_hidden", "same", "is_partitioned", "priority"] (defScope s_Line__init) := ⟨rfl, rfl, rfl, by decide +kernel, rfl, by decide +kernel, by decide +kernel⟩
abbrev s__need_name_and_value : Stmt := top 81
theorem sc__need_name_and_value : FnScope ["name", "value", "wrong"] ["name", "value"] (defScope s__need_name_and_value) := ⟨rfl, rfl, rfl, by decide +kernel, rfl, by decide +kernel, by decide +kernel⟩
abbrev s__is_scheme : Stmt := top 42
theorem sc__is_scheme : FnScope ["value"] ["value"] (defScope s__is_scheme) := ⟨rfl, rfl, rfl, by decide +kernel, rfl, by decide +kernel, by decide +kernel⟩
abbrev s_is_origin : Stmt := top 40
theorem sc_is_origin : FnScope ["value"] ["value"] (defScope s_is_origin) := ⟨rfl, rfl, rfl, by decide +kernel, rfl, by decide +kernel, by decide +kernel⟩
abbrev s__is_partition : Stmt := top 83
theorem sc__is_partition : FnScope ["value"] ["value"] (defScope s__is_partition) := ⟨rfl, rfl, rfl, by decide +kernel, rfl, by decide +kernel, by decide +kernel⟩
abbrev s_need_host : Stmt := top 27
theorem sc_need_host : FnScope ["host"] ["host"] (defScope s_need_host) := ⟨rfl, rfl, rfl, by decide +kernel, rfl, by decide +kernel, by decide +kernel⟩
abbrev s_host_fits : Stmt := top 26
theorem sc_host_fits : FnScope ["host", "domain"] ["host", "domain"] (defScope s_host_fits) := ⟨rfl, rfl, rfl, by decide +kernel, rfl, by decide +kernel, by decide +kernel⟩
abbrev s_is_safe : Stmt := top 41
theorem sc_is_safe : FnScope ["origin", "scheme", "host"] ["origin"] (defScope s_is_safe) := ⟨rfl, rfl, rfl, by decide +kernel, rfl, by decide +kernel, by decide +kernel⟩
abbrev s__can_be_in : Stmt := top 84
theorem sc__can_be_in : FnScope ["space", "host", "same", "site", "is_foreign"] ["space", "host", "same"] (defScope s__can_be_in) := ⟨rfl, rfl, rfl, by decide +kernel, rfl, by decide +kernel, by decide +kernel⟩
abbrev s__is_birth : Stmt := top 85
theorem sc__is_birth : FnScope ["value"] ["value"] (defScope s__is_birth) := ⟨rfl, rfl, rfl, by decide +kernel, rfl, by decide +kernel, by decide +kernel⟩
abbrev s_Crumb__init : Stmt := mth (top 75) 0
theorem sc_Crumb__init : FnScope ["self", "name", "value", "host", "is_exact", "path", "is_secure", "is_hidden", "same", "priority", "space", "born", "seen", "ends", "mark"] ["self", "name", "value", "host", "is_exact", "path", "is_secure", "is_hidden", "same", "priority", "space", "born", "seen", "ends"] (defScope s_Crumb__init) := ⟨rfl, rfl, rfl, by decide +kernel, rfl, by decide +kernel, by decide +kernel⟩
abbrev s__law_crumb : Stmt := top 96
theorem sc__law_crumb : FnScope ["c"] ["c"] (defScope s__law_crumb) := ⟨rfl, rfl, rfl, by decide +kernel, rfl, by decide +kernel, by decide +kernel⟩
abbrev s__law_can_be : Stmt := top 97
theorem sc__law_can_be : FnScope ["rules", "c", "spot", "place"] ["rules", "c"] (defScope s__law_can_be) := ⟨rfl, rfl, rfl, by decide +kernel, rfl, by decide +kernel, by decide +kernel⟩
abbrev s__law_bad_rules : Stmt := top 98
theorem sc__law_bad_rules : FnScope ["wrong", "crumb", "caught", "error"] ["wrong", "crumb"] (defScope s__law_bad_rules) := ⟨rfl, rfl, rfl, by decide +kernel, rfl, by decide +kernel, by decide +kernel⟩
abbrev s_need_tick : Stmt := top 14
theorem sc_need_tick : FnScope ["value"] ["value"] (defScope s_need_tick) := ⟨rfl, rfl, rfl, by decide +kernel, rfl, by decide +kernel, by decide +kernel⟩
abbrev s_has_ended : Stmt := top 77
theorem sc_has_ended : FnScope ["crumb", "tick"] ["crumb", "tick"] (defScope s_has_ended) := ⟨rfl, rfl, rfl, by decide +kernel, rfl, by decide +kernel, by decide +kernel⟩
abbrev s__law_ends_right : Stmt := top 99
theorem sc__law_ends_right : FnScope ["c", "crumb", "some", "tick"] ["c", "crumb"] (defScope s__law_ends_right) := ⟨rfl, rfl, rfl, by decide +kernel, rfl, by decide +kernel, by decide +kernel⟩
abbrev s__law_own_space : Stmt := top 100
theorem sc__law_own_space : FnScope ["draw", "c", "words", "some", "other", "k"] ["draw", "c"] (defScope s__law_own_space) := ⟨rfl, rfl, rfl, by decide +kernel, rfl, by decide +kernel, by decide +kernel⟩
abbrev s_law : Stmt := top 101
theorem sc_law : FnScope ["script", "draw", "turn", "rules", "others", "c", "one", "crumb", "odd"] ["script"] (defScope s_law) := ⟨rfl, rfl, rfl, by decide +kernel, rfl, by decide +kernel, by decide +kernel⟩
/-- what the top has written -/
structure Txt (K : PySem.W.Frag) (mg : Str → Option Value) : Prop where
  b_bool : mg "bool" = none
  b_dict : mg "dict" = none
  b_enumerate : mg "enumerate" = none
  b_int : mg "int" = none
  b_isinstance : mg "isinstance" = none
  b_len : mg "len" = none
  b_max : mg "max" = none
  b_min : mg "min" = none
  b_ord : mg "ord" = none
  b_range : mg "range" = none
  b_repr : mg "repr" = none
  b_str : mg "str" = none
  b_tuple : mg "tuple" = none
  c_LAST_TICK : ∃ u, mg "LAST_TICK" = some u ∧ RelV (.int 253402300799) u
  c_DIGITS : ∃ u, mg "DIGITS" = some u ∧ RelV (.str "0123456789") u
  c_MOST_OF_LABEL : ∃ u, mg "MOST_OF_LABEL" = some u ∧ RelV (.int 20) u
  c_MOST_LABELS : ∃ u, mg "MOST_LABELS" = some u ∧ RelV (.int 10) u
  c_MOST_OF_HOST : ∃ u, mg "MOST_OF_HOST" = some u ∧ RelV (.int 100) u
  c_MOST_OF_NUMBER : ∃ u, mg "MOST_OF_NUMBER" = some u ∧ RelV (.int 255) u
  c_LABEL_SIGNS : ∃ u, mg "LABEL_SIGNS" = some u ∧ RelV (.str "abcdefghijklmnopqrstuvwxyz0123456789-") u
  c_SCHEMES : ∃ a, mg "SCHEMES" = some (.ref a) ∧ ∀ H, SqT K H a [(.str "http"), (.str "https")]
  c_MOST_OF_PATH : ∃ u, mg "MOST_OF_PATH" = some u ∧ RelV (.int 200) u
  c_BARRED : ∃ u, mg "BARRED" = some u ∧ RelV (.str ";?#") u
  c_PERCENT : ∃ u, mg "PERCENT" = some u ∧ RelV (.int 37) u
  c_SAMES : ∃ a, mg "SAMES" = some (.ref a) ∧ ∀ H, SqT K H a [(.str "strict"), (.str "lax"), (.str "none")]
  c_PRIORITIES : ∃ a, mg "PRIORITIES" = some (.ref a) ∧ ∀ H, SqT K H a [(.str "low"), (.str "medium"), (.str "high")]
  c_MOST_AGE : ∃ u, mg "MOST_AGE" = some u ∧ RelV (.int 34560000) u
  c_BLANKS : ∃ u, mg "BLANKS" = some u ∧ RelV (.str " \t") u
  c_MOST_OF_LINE : ∃ u, mg "MOST_OF_LINE" = some u ∧ RelV (.int 4096) u
  c_MOST_RULES : ∃ u, mg "MOST_RULES" = some u ∧ RelV (.int 30) u
  c_ANY : ∃ u, mg "ANY" = some u ∧ RelV (.str "*") u
  c_EXCEPTION : ∃ u, mg "EXCEPTION" = some u ∧ RelV (.str "!") u
  c_DEFAULT : ∃ u, mg "DEFAULT" = some u ∧ RelV (.str "default") u
  c_SECURE_MARK : ∃ u, mg "SECURE_MARK" = some u ∧ RelV (.str "__secure-") u
  c_HOST_MARK : ∃ u, mg "HOST_MARK" = some u ∧ RelV (.str "__host-") u
  e_BadCrumb : ∃ C, ErrH K mg "BadCrumb" "field" C
  e_BadLine : ∃ C, ErrH K mg "BadLine" "field" C
  e_BadRules : ∃ C, ErrH K mg "BadRules" "index" C
  o_Crumb : ∃ C, OwnC K mg "Crumb" ["name", "value", "host", "is_exact", "path", "is_secure", "is_hidden", "same", "priority", "space", "born", "seen", "ends", "key"] C
  o_Line : ∃ C, OwnC K mg "Line" ["name", "value", "expires", "age", "domain", "path", "is_secure", "is_hidden", "same", "is_partitioned", "priority"] C
  f_BadRules : ExF K mg "BadRules" "CrumbError" "AbsentError" [("BadRules", true), ("BadCrumb", false)]
  d_has_only : Df K mg "has_only" s_has_only ["text", "signs"]
  d__is_label : Df K mg "_is_label" s__is_label ["text"]
  d_are_labels : Df K mg "are_labels" s_are_labels ["texts"]
  d__is_rule : Df K mg "_is_rule" s__is_rule ["value"]
  d_need_rules : Df K mg "need_rules" s_need_rules ["rules"]
  d_is_digits : Df K mg "is_digits" s_is_digits ["text"]
  d__is_number : Df K mg "_is_number" s__is_number ["label"]
  d__are_four_numbers : Df K mg "_are_four_numbers" s__are_four_numbers ["labels"]
  d_is_host : Df K mg "is_host" s_is_host ["value"]
  d_is_address_host : Df K mg "is_address_host" s_is_address_host ["value"]
  d__last_labels : Df K mg "_last_labels" s__last_labels ["host", "many"]
  d__size : Df K mg "_size" s__size ["text"]
  d__matches : Df K mg "_matches" s__matches ["pattern", "host"]
  d__suffix_size : Df K mg "_suffix_size" s__suffix_size ["rules", "host"]
  d_known_suffix : Df K mg "known_suffix" s_known_suffix ["rules", "host"]
  d_known_family : Df K mg "known_family" s_known_family ["rules", "host"]
  d_is_crumb : Df K mg "is_crumb" s_is_crumb ["rules", "value"]
  d__law_begun : Df K mg "_law_begun" s__law_begun ["script"]
  d__law_next : Df K mg "_law_next" s__law_next ["draw", "below"]
  d__law_pick : Df K mg "_law_pick" s__law_pick ["draw", "some"]
  d__law_rules : Df K mg "_law_rules" s__law_rules ["draw"]
  d__law_is_numbers : Df K mg "_law_is_numbers" s__law_is_numbers ["host"]
  d__law_suffix : Df K mg "_law_suffix" s__law_suffix ["rules", "host"]
  d__law_family : Df K mg "_law_family" s__law_family ["rules", "host"]
  d__law_hosts : Df K mg "_law_hosts" s__law_hosts []
  d__law_crumb_parts : Df K mg "_law_crumb_parts" s__law_crumb_parts ["draw", "rules"]
  d_is_integer : Df K mg "is_integer" s_is_integer ["value"]
  d_is_tick : Df K mg "is_tick" s_is_tick ["value"]
  d__is_path_sign : Df K mg "_is_path_sign" s__is_path_sign ["sign"]
  d_is_path : Df K mg "is_path" s_is_path ["value"]
  d_mark_of : Df K mg "mark_of" s_mark_of ["name", "value"]
  d_key_of : Df K mg "key_of" s_key_of ["space", "host", "is_exact", "path", "name"]
  d__need : Df K mg "_need" s__need ["field", "is_right"]
  d__is_from_0 : Df K mg "_is_from_0" s__is_from_0 ["value", "most"]
  d_is_trimmed : Df K mg "is_trimmed" s_is_trimmed ["text"]
  d__has_control : Df K mg "_has_control" s__has_control ["text"]
  d__is_part : Df K mg "_is_part" s__is_part ["value"]
  d__is_name : Df K mg "_is_name" s__is_name ["value"]
  d__is_value : Df K mg "_is_value" s__is_value ["value", "name"]
  m_Line__init : MthK K mg "Line" "__init__" "Line.__init__" s_Line__init 3 ["self", "name", "value", "expires", "age", "domain", "path", "is_secure", "is_hidden", "same", "is_partitioned", "priority"] [("expires", .non), ("age", .non), ("domain", .non), ("path", .non), ("is_secure", (.bl false)), ("is_hidden", (.bl false)), ("same", .non), ("is_partitioned", (.bl false)), ("priority", .non)]
  d__need_name_and_value : Df K mg "_need_name_and_value" s__need_name_and_value ["name", "value"]
  d__is_scheme : Df K mg "_is_scheme" s__is_scheme ["value"]
  d_is_origin : Df K mg "is_origin" s_is_origin ["value"]
  d__is_partition : Df K mg "_is_partition" s__is_partition ["value"]
  d_need_host : Df K mg "need_host" s_need_host ["host"]
  d_host_fits : Df K mg "host_fits" s_host_fits ["host", "domain"]
  d_is_safe : Df K mg "is_safe" s_is_safe ["origin"]
  d__can_be_in : Df K mg "_can_be_in" s__can_be_in ["space", "host", "same"]
  d__is_birth : Df K mg "_is_birth" s__is_birth ["value"]
  m_Crumb__init : MthQ K mg "Crumb" "__init__" "Crumb.__init__" s_Crumb__init 4 ["self", "name", "value", "host", "is_exact", "path", "is_secure", "is_hidden", "same", "priority", "space", "born", "seen", "ends"] ["is_exact", "path", "is_secure", "is_hidden", "same", "priority", "space", "born", "seen", "ends"]
  d__law_crumb : Df K mg "_law_crumb" s__law_crumb ["c"]
  d__law_can_be : Df K mg "_law_can_be" s__law_can_be ["rules", "c"]
  d__law_bad_rules : Df K mg "_law_bad_rules" s__law_bad_rules ["wrong", "crumb"]
  d_need_tick : Df K mg "need_tick" s_need_tick ["value"]
  d_has_ended : Df K mg "has_ended" s_has_ended ["crumb", "tick"]
  d__law_ends_right : Df K mg "_law_ends_right" s__law_ends_right ["c", "crumb"]
  d__law_own_space : Df K mg "_law_own_space" s__law_own_space ["draw", "c"]
def sp_has_only : Sp := fun vs H Q _ => ∃ x g : Str, vs = [.str x, .str g] ∧ x.length ≤ 1000000 ∧ Q (.bl (onlyB (tl g) (tl x))) H
def sp__is_label : Sp := fun vs H Q _ => ∃ x : Str, vs = [.str x] ∧ x.length ≤ 1000000 ∧ Q (.bl (labB (tl x))) H
theorem one_dash (c : Nat) : decide (V.str ⟨#[c]⟩ = V.str ("-" : Str)) = decide (c = 45) := by
  rw [show ("-" : Str) = ⟨#[45]⟩ from ext_tl (by decide +kernel), dec_str, Bool.eq_iff_iff, beq_iff_eq, decide_eq_true_eq, str_eq_iff]
  show [c] = [45] ↔ _
  simp
def sp_are_labels (K : PySem.W.Frag) : Sp := fun vs H Q _ => ∃ (p : Addr) (xs : List Str), vs = [.ref p] ∧ SqL K H p (xs.map V.str) ∧ (∀ x ∈ xs, x.length ≤ 1000000) ∧ Q (.bl ((xs.map tl).all labB)) H
/-- a text, or a value that is none -/
def TxtV (K : PySem.W.Frag) (H : Hp) (v : V) : Prop := (∃ x : Str, v = .str x ∧ x.length ≤ 1000) ∨ ∃ t : Value, TyX K H v t ∧ PySem.W.kitOne K t (.type "str") = some false
/-- a value that is no host, and the place that is told of it -/
def NoHost (v : V) (k : Nat) : Prop := (∃ x : Str, v = .str x ∧ hostB (tl x) = false ∧ PlaceB (tl x) k) ∨ ((∀ x : Str, v ≠ .str x) ∧ k = 0)
def Refuses (mg : Str → Option Value) (H : Hp) (E : XK) (v : V) : Prop := ∀ (k : Nat) (C d : Addr) (H' : Hp), NoHost v k → mg "BadHost" = some (.ref C) → Same H H' → H' d = none → E (.ref C) (some d) (L2.upd H' d (.xd [(("place" : Str), .int (k : Nat))]))
theorem ty_nostr {K : PySem.W.Frag} {H : Hp} {v : V} {t : Value} (h : TyX K H v t) (hk : PySem.W.kitOne K t (.type "str") = some false) : ∀ x : Str, v ≠ .str x := fun x e => by
  subst e
  cases h with
  | base h =>
    cases h
    rw [kit_str K] at hk
    cases hk
/-- the error cn is raised with that -/
def RefO (mg : Str → Option Value) (cn f : Str) (given : V) (H : Hp) (E : XK) : Prop := ∀ (C d : Addr) (H' : Hp), mg cn = some (.ref C) → Same H H' → H' d = none → E (.ref C) (some d) (L2.upd H' d (.xd [(f, given)]))
def ruV : V → Bool
  | .str x => ruleB (tl x)
  | _ => false
def sp__is_rule (K : PySem.W.Frag) : Sp := fun vs H Q _ => ∃ v : V, vs = [v] ∧ TxtV K H v ∧ ∀ H' : Hp, Same H H' → Q (.bl (ruV v)) H'
theorem tl_bang2 : tl ("!" : Str) = [33] := by decide +kernel
theorem bang_exc2 (x : Str) : Txt.startswith x ("!" : Str) = excT (tl x) := by
  rw [startswith_tl, tl_bang2]
  unfold excT
  cases h : tl x with
  | nil => rfl
  | cons a r =>
    show ((33 == a) && List.isPrefixOf [] r) = _
    rw [Bool.eq_iff_iff, decide_eq_true_eq, List.isPrefixOf, Bool.and_true, beq_iff_eq, List.head?_cons, Option.some.injEq]
    exact ⟨Eq.symm, Eq.symm⟩
theorem tl_stardot : tl (("*" : Str) ++ ("." : Str)) = [42, 46] := by decide +kernel
/-- the item at j is right -/
def OkAt (xs : List V) (j : Nat) : Prop := j ≠ 30 ∧ ∃ v, xs[j]? = some v ∧ ruV v = true ∧ v ∉ xs.take j
/-- k is the first wrong one -/
def WrongAt (xs : List V) (k : Nat) : Prop := k < xs.length ∧ ¬ OkAt xs k ∧ ∀ j, j < k → OkAt xs j
/-- a value, seen as rules: none, where it is right; else what it is refused with -/
def RulV (K : PySem.W.Frag) (H : Hp) (v : V) (b : Option V) : Prop := (∃ t : Value, TyX K H v t ∧ PySem.W.kitOne K t (.type "tuple") = some false ∧ b = some .non) ∨
  (∃ (p : Addr) (xs : List V), v = .ref p ∧ H p = some (.tup xs) ∧ (∀ x ∈ xs, TxtV K H x) ∧ xs.length ≤ 100 ∧ (((∀ j, j < xs.length → OkAt xs j) ∧ b = none) ∨ ∃ k, WrongAt xs k ∧ b = some (.int (k : Nat))))
theorem ok_strs {xs : List V} : ∀ i, i ≤ xs.length → (∀ j, j < i → OkAt xs j) → ∃ rs : List Str, xs.take i = rs.map V.str ∧ rs.Nodup ∧ (∀ r ∈ rs, ruleB (tl r) = true) ∧ rs.length = i ∧ i ≤ 30
  | 0, _, _ => ⟨[], by simp, List.nodup_nil, by simp, rfl, by decide⟩
  | i + 1, hi, h => by
    obtain ⟨rs, e, nd, hr, hl, h30⟩ := ok_strs i (by omega) fun j hj => h j (by omega)
    obtain ⟨n30, v, hv, hru, hnot⟩ := h i (by omega)
    cases v with
    | str x =>
      refine ⟨rs ++ [x], ?_, ?_, fun r hr' => ?_, by rw [List.length_append, hl]; rfl, by omega⟩
      · rw [List.take_add_one, hv, e, List.map_append]; rfl
      · refine List.nodup_append.mpr ⟨nd, by simp, fun a ha b hb => ?_⟩
        rw [List.mem_singleton] at hb
        subst hb
        intro e2
        subst e2
        exact hnot (by rw [e]; exact List.mem_map.mpr ⟨a, ha, rfl⟩)
      · rcases List.mem_append.mp hr' with q | q
        · exact hr r q
        · rw [List.mem_singleton.mp q]; exact hru
    | _ => cases hru
theorem RulV.good {K : PySem.W.Frag} {H : Hp} {v : V} (h : RulV K H v none) : ∃ (p : Addr) (rs : List Str), v = .ref p ∧ H p = some (.tup (rs.map V.str)) ∧ rs.length ≤ 30 ∧ RulesOK rs := by
  rcases h with ⟨t, _, _, e⟩ | ⟨p, xs, rfl, hp, hx, hl, ⟨ha, _⟩ | ⟨k, _, e⟩⟩
  · cases e
  · obtain ⟨rs, e, nd, hr, hl2, h30⟩ := ok_strs xs.length (Nat.le_refl _) ha
    rw [List.take_length] at e
    subst e
    refine ⟨p, rs, rfl, hp, by omega, nd, fun r hr' => ⟨hr r hr', ?_⟩⟩
    rcases hx _ (List.mem_map.mpr ⟨r, hr', rfl⟩) with ⟨y, e, hy⟩ | ⟨t, ht, hk⟩
    · cases e; exact hy
    · exact absurd rfl (ty_nostr ht hk r)
  · cases e
theorem TxtV.same {K : PySem.W.Frag} {H H' : Hp} {v : V} (h : TxtV K H v) (s : Same H H') : TxtV K H' v := by
  rcases h with h | ⟨t, a, b⟩
  · exact .inl h
  · exact .inr ⟨t, ty_same s a, b⟩
theorem RulV.same {K : PySem.W.Frag} {H H' : Hp} {v : V} {b : Option V} (h : RulV K H v b) (s : Same H H') : RulV K H' v b := by
  rcases h with ⟨t, a, c, e⟩ | ⟨p, xs, a, c, d, e⟩
  · exact .inl ⟨t, ty_same s a, c, e⟩
  · exact .inr ⟨p, xs, a, s _ _ c, fun x hx => (d x hx).same s, e⟩
def sp_need_rules (K : PySem.W.Frag) (mg : Str → Option Value) : Sp := fun vs H Q E => ∃ (v : V) (b : Option V), vs = [v] ∧ RulV K H v b ∧ (b = none → ∀ H' : Hp, Same H H' → Q .non H') ∧ (∀ g, b = some g → RefO mg "BadRules" "index" g H E)
def sp_is_digits : Sp := fun vs H Q _ => ∃ x : Str, vs = [.str x] ∧ x.length ≤ 1000000 ∧ Q (.bl (digB (tl x))) H
def sp__is_number : Sp := fun vs H Q _ => ∃ x : Str, vs = [.str x] ∧ x.length ≤ 640 ∧ Q (.bl (numB (tl x))) H
theorem one_zero (c : Nat) : decide (V.str ⟨#[c]⟩ = V.str ("0" : Str)) = decide (c = 48) := by
  rw [show ("0" : Str) = ⟨#[48]⟩ from ext_tl (by decide +kernel), dec_str, Bool.eq_iff_iff, beq_iff_eq, decide_eq_true_eq, str_eq_iff]
  show [c] = [48] ↔ _
  simp
theorem str_zero (x : Str) : decide (V.str x = V.str ("0" : Str)) = decide (tl x = [48]) := by
  rw [Bool.eq_iff_iff, decide_eq_true_eq, decide_eq_true_eq]
  exact ⟨fun e => by rw [V.str.inj e]; decide +kernel, fun e => by rw [show x = ("0" : Str) from ext_tl (by rw [e]; decide +kernel)]⟩
def sp__are_four_numbers (K : PySem.W.Frag) : Sp := fun vs H Q _ => ∃ (p : Addr) (xs : List Str), vs = [.ref p] ∧ SqL K H p (xs.map V.str) ∧ (∀ x ∈ xs, x.length ≤ 640) ∧ Q (.bl ((xs.map tl).all numB && decide (xs.length = 4))) H
def sp_is_host (K : PySem.W.Frag) : Sp := fun vs H Q _ => ∃ (v : V) (b : Bool), vs = [v] ∧ TxV hostB K H v b ∧ ∀ H', Same H H' → Q (.bl b) H'
theorem lastL_map {P : List Str} {z : Str} {P0 : List Str} (e : P = P0 ++ [z]) : lastL (P.map tl) = tl z := by
  rw [e, List.map_append]; exact lastL_snoc _ _
def sp_is_address_host (K : PySem.W.Frag) : Sp := fun vs H Q _ => ∃ (v : V) (b : Bool), vs = [v] ∧ TxV addrB K H v b ∧ ∀ H', Same H H' → Q (.bl b) H'
def sp__last_labels : Sp := fun vs H Q _ => ∃ (x : Str) (n : Nat), vs = [.str x, .int n] ∧ x.length ≤ 1000 ∧ 1 ≤ n ∧ n ≤ 100000 ∧
  ∀ (e : Str) (H' : Hp), Same H H' → tl e = joinL [46] (lastN n (sp1 46 (tl x))) → e.length ≤ x.length → Q (.str e) H'
theorem sum_map_le {B : Nat} : ∀ L : List Str, (∀ x ∈ L, x.length ≤ B) → (L.map (·.length)).sum ≤ L.length * B
  | [], _ => by simp
  | x :: L, h => by
    have h1 := h x (List.mem_cons_self ..)
    have h2 := sum_map_le L fun y hy => h y (List.mem_cons_of_mem _ hy)
    rw [List.map_cons, List.sum_cons, List.length_cons, Nat.succ_mul]
    omega
theorem join_fits {a b : Nat} (h1 : a ≤ b * 1000) (h2 : b ≤ 1001) : a + b * 1 ≤ 16777216 := by omega
theorem joinL_drop1 {c : Nat} : ∀ L : List (List Nat), (joinL [c] (L.drop 1)).length ≤ (joinL [c] L).length
  | [] => Nat.le_refl _
  | [p] => Nat.zero_le _
  | p :: q :: r => by
    show _ ≤ (p ++ (c :: joinL [c] (q :: r))).length
    rw [List.length_append, List.length_cons, List.drop_succ_cons, List.drop_zero]
    omega
theorem joinL_drop {c : Nat} (L : List (List Nat)) : ∀ k, (joinL [c] (L.drop k)).length ≤ (joinL [c] L).length
  | 0 => Nat.le_refl _
  | k + 1 => by
    rw [← List.drop_drop]
    exact Nat.le_trans (joinL_drop1 _) (joinL_drop L k)
def sp__size : Sp := fun vs H Q _ => ∃ x : Str, vs = [.str x] ∧ Q (.int ((sp1 46 (tl x)).length : Nat)) H
def sp__matches : Sp := fun vs H Q _ => ∃ x y : Str, vs = [.str x, .str y] ∧ x.length ≤ 10000 ∧ y.length ≤ 1000 ∧ ((tl x).head? = some 42 → ∃ u, tl x = 42 :: 46 :: u) ∧
  ∀ H' : Hp, Same H H' → Q (.bl (mtL (sp1 46 (tl x)) (sp1 46 (tl y)))) H'
theorem tl_star : tl ("*" : Str) = [42] := by decide +kernel
def sp__suffix_size (K : PySem.W.Frag) : Sp := fun vs H Q _ => ∃ (p : Addr) (rs : List Str) (y : Str), vs = [.ref p, .str y] ∧ SqT K H p (rs.map V.str) ∧ (∀ r ∈ rs, ruleB (tl r) = true ∧ r.length ≤ 1000) ∧ y.length ≤ 1000 ∧
  ∀ H' : Hp, Same H H' → Q (.int (sufN (rs.map tl) (sp1 46 (tl y)) : Nat)) H'
theorem tl_bang : tl ("!" : Str) = [33] := by decide +kernel
theorem bang_exc (x : Str) : Txt.startswith x ("!" : Str) = excT (tl x) := by
  rw [startswith_tl, tl_bang]
  unfold excT
  cases h : tl x with
  | nil => rfl
  | cons a r =>
    show ((33 == a) && List.isPrefixOf [] r) = _
    rw [Bool.eq_iff_iff, decide_eq_true_eq, List.isPrefixOf, Bool.and_true, beq_iff_eq, List.head?_cons, Option.some.injEq]
    exact ⟨Eq.symm, Eq.symm⟩
theorem patL_len (t : List Nat) : (sp1 46 t).length = (patL t).length := by
  unfold patL patT
  split
  · next h =>
    unfold excT at h
    cases t with
    | nil => rfl
    | cons a r =>
      simp at h
      subst h
      obtain ⟨p, q, e⟩ := sp1_cons 46 r
      rw [sp1_miss (by decide) e, List.tail_cons, e]
      rfl
  · rfl
theorem rule_star {t : List Nat} (h : ruleB t = true) (hx : excT t = false) (hs : t.head? = some 42) : ∃ u, t = 42 :: 46 :: u := by
  unfold ruleB at h
  rw [hx] at h
  simp only [Bool.false_eq_true, if_false] at h
  by_cases g : [42, 46].isPrefixOf t = true
  · obtain ⟨u, e⟩ := List.isPrefixOf_iff_prefix.mp g
    exact ⟨u, e.symm⟩
  · rw [if_neg g] at h
    obtain ⟨p, q, e⟩ := sp1_cons 46 t
    rw [e, List.all_cons, Bool.and_eq_true] at h
    cases t with
    | nil => simp at hs
    | cons a r =>
      simp at hs
      subst hs
      obtain ⟨p2, q2, e2⟩ := sp1_cons 46 r
      rw [sp1_miss (by decide) e2] at e
      have e3 := (List.cons.inj e).1
      have := lab_sign h.1 (c := 42) (by rw [← e3]; exact List.mem_cons_self ..)
      exact absurd this (by decide)
theorem rule_star2 {t : List Nat} (h : ruleB t = true) (hx : excT t = true) : (patT t).head? ≠ some 42 := fun hs => by
  unfold ruleB at h
  unfold patT at hs
  rw [if_pos hx] at h hs
  rw [Bool.and_eq_true] at h
  obtain ⟨p, q, e⟩ := sp1_cons 46 t.tail
  rw [e, List.all_cons, Bool.and_eq_true] at h
  cases ht : t.tail with
  | nil => rw [ht] at hs; simp at hs
  | cons a r =>
    rw [ht] at hs e
    simp at hs
    subst hs
    obtain ⟨p2, q2, e2⟩ := sp1_cons 46 r
    rw [sp1_miss (by decide) e2] at e
    have e3 := (List.cons.inj e).1
    have := lab_sign h.2.1 (c := 42) (by rw [← e3]; exact List.mem_cons_self ..)
    exact absurd this (by decide)
theorem max_nat (a b : Nat) : (if (b : Int) > (a : Int) then (b : Int) else (a : Int)) = ((max a b : Nat) : Int) := by
  split <;> omega
theorem big_take {q : List Nat → Bool} {rs : List Str} {b i : Nat} {r : Str} (h : rs[i]? = some r) : bigN b q ((rs.take (i + 1)).map tl) = if q (tl r) then max (bigN b q ((rs.take i).map tl)) (patL (tl r)).length else bigN b q ((rs.take i).map tl) := by
  rw [List.take_succ, h]
  show bigN b q (((rs.take i) ++ [r]).map tl) = _
  rw [List.map_append]
  exact bigN_snoc _ _ _ _
def sp_known_suffix (K : PySem.W.Frag) : Sp := fun vs H Q _ => ∃ (p : Addr) (rs : List Str) (y : Str), vs = [.ref p, .str y] ∧ SqT K H p (rs.map V.str) ∧ rs.length ≤ 30 ∧ RulesOK rs ∧ hostB (tl y) = true ∧
  (∀ H' : Hp, Same H H' → addrB (tl y) = true → Q .non H') ∧
  ∀ (e : Str) (H' : Hp), Same H H' → addrB (tl y) = false → tl e = joinL [46] (lastN (sufN (rs.map tl) (sp1 46 (tl y))) (sp1 46 (tl y))) → Q (.str e) H'
def famT (rs : List (List Nat)) (t : List Nat) : List Nat := if addrB t then t else joinL [46] (famL rs (sp1 46 t))
def sp_known_family (K : PySem.W.Frag) : Sp := fun vs H Q _ => ∃ (p : Addr) (rs : List Str) (y : Str), vs = [.ref p, .str y] ∧ SqT K H p (rs.map V.str) ∧ rs.length ≤ 30 ∧ RulesOK rs ∧ hostB (tl y) = true ∧
  ∀ (e : Str) (H' : Hp), Same H H' → tl e = famT (rs.map tl) (tl y) → Q (.str e) H'
def adV (x : Str × Str × Str) : List V := [.str x.1, .str x.2.1, .str x.2.2]
def orV (x : Str × Str) : List V := [.str x.1, .str x.2]
/-- the starter of a request -/
def StAt (H : Hp) (v : V) : Option (Str × Str) → Prop
  | none => v = .non
  | some x => ∃ p, v = .ref p ∧ H p = some (.tup (orV x))
/-- the parts of a request -/
structure Rq where
  ch : List (Str × Str × Str)
  st : Option (Str × Str)
  fr : List (Str × Str)
  rd : Bool
  wy : Str
def ChAt (H : Hp) (p : Addr) (l : List (Str × Str × Str)) : Prop := ∃ qs, H p = some (.tup (qs.map V.ref)) ∧ TupsAt H qs (l.map adV)
def OrsAt (H : Hp) (p : Addr) (l : List (Str × Str)) : Prop := ∃ qs, H p = some (.tup (qs.map V.ref)) ∧ TupsAt H qs (l.map orV)
def GoodO (x : Str × Str) : Prop := x.1 ∈ schemes2 ∧ hostB (tl x.2) = true
def GoodA (x : Str × Str × Str) : Prop := x.1 ∈ schemes2 ∧ hostB (tl x.2.1) = true ∧ pathB (tl x.2.2) = true
/-- what can be a request -/
structure RqOk (r : Rq) : Prop where
  c1 : 1 ≤ r.ch.length
  c2 : r.ch.length ≤ 10
  ca : ∀ x ∈ r.ch, GoodA x
  so : ∀ x, r.st = some x → GoodO x ∧ r.fr = []
  f6 : r.fr.length ≤ 6
  fo : ∀ x ∈ r.fr, GoodO x
  wy : r.wy = "http" ∨ (r.wy = "script" ∧ r.ch.length = 1 ∧ r.st = none ∧ r.rd = true)
/-- the last address -/
def Rq.last (r : Rq) : Str × Str × Str := r.ch.getLast?.getD ("", "", "")
/-- a request -/
def ReqAt (mg : Str → Option Value) (H : Hp) (a : Addr) (r : Rq) : Prop := ∃ (C dx pc pf q : Addr) (vs : V), mg "Request" = some (.ref C) ∧ H a = some (.ins C dx [("addresses", .ref pc), ("starter", vs), ("frames", .ref pf), ("is_reading", .bl r.rd), ("by", .str r.wy), ("target", .ref q)]) ∧
  ChAt H pc r.ch ∧ StAt H vs r.st ∧ OrsAt H pf r.fr ∧ H q = some (.tup (adV r.last))
theorem ChAt.same {H H' : Hp} {p : Addr} {l : List (Str × Str × Str)} (h : ChAt H p l) (s : Same H H') : ChAt H' p l := by
  obtain ⟨qs, h1, h2⟩ := h
  exact ⟨qs, s _ _ h1, h2.same s⟩
theorem OrsAt.same {H H' : Hp} {p : Addr} {l : List (Str × Str)} (h : OrsAt H p l) (s : Same H H') : OrsAt H' p l := by
  obtain ⟨qs, h1, h2⟩ := h
  exact ⟨qs, s _ _ h1, h2.same s⟩
theorem StAt.same {H H' : Hp} {v : V} {o : Option (Str × Str)} (h : StAt H v o) (s : Same H H') : StAt H' v o := by
  cases o with
  | none => exact h
  | some x => obtain ⟨p, e, m⟩ := h; exact ⟨p, e, s _ _ m⟩
theorem ReqAt.same {mg : Str → Option Value} {H H' : Hp} {a : Addr} {r : Rq} (h : ReqAt mg H a r) (s : Same H H') : ReqAt mg H' a r := by
  obtain ⟨C, dx, pc, pf, q, vs, h1, h2, h3, h4, h5, h6⟩ := h
  exact ⟨C, dx, pc, pf, q, vs, h1, s _ _ h2, h3.same s, h4.same s, h5.same s, s _ _ h6⟩
theorem TupsAt.row3 {H : Hp} {qs : List Addr} {l : List (Str × Str × Str)} (h : TupsAt H qs (l.map adV)) {i : Nat} (hi : i < l.length) : ∃ q, (qs.map V.ref)[i]? = some (.ref q) ∧ H q = some (.tup [.str l[i].1, .str l[i].2.1, .str l[i].2.2]) := by
  have hl : i < qs.length := by rw [h.len, List.length_map]; exact hi
  have e : (qs.map V.ref)[i]? = some (.ref qs[i]) := by rw [List.getElem?_map, List.getElem?_eq_getElem hl]; rfl
  obtain ⟨q, c, h1, h2, h3⟩ := h.get e
  cases h1
  rw [List.getElem?_map, List.getElem?_eq_getElem hi] at h2
  exact ⟨_, e, by rw [h3, ← Option.some.inj h2]; rfl⟩
theorem TupsAt.row2 {H : Hp} {qs : List Addr} {l : List (Str × Str)} (h : TupsAt H qs (l.map orV)) {i : Nat} (hi : i < l.length) : ∃ q, (qs.map V.ref)[i]? = some (.ref q) ∧ H q = some (.tup [.str l[i].1, .str l[i].2]) := by
  have hl : i < qs.length := by rw [h.len, List.length_map]; exact hi
  have e : (qs.map V.ref)[i]? = some (.ref qs[i]) := by rw [List.getElem?_map, List.getElem?_eq_getElem hl]; rfl
  obtain ⟨q, c, h1, h2, h3⟩ := h.get e
  cases h1
  rw [List.getElem?_map, List.getElem?_eq_getElem hi] at h2
  exact ⟨_, e, by rw [h3, ← Option.some.inj h2]; rfl⟩
theorem sqT_keepA {K : PySem.W.Frag} {a p : Addr} {H H' : Hp} {o : HO} {xs : List V} (k : KeepA a H H') (ha : H a = some o) (n1 : ∀ c, o ≠ .tup c) (n2 : ∀ q u, o ≠ .frz q u) (h : SqT K H p xs) : SqT K H' p xs := by
  rcases h with (h | ⟨q, h⟩) | h
  · exact .inl (.inl (k _ _ h fun z => by rw [z, ha] at h; exact n1 _ (Option.some.inj h)))
  · exact .inl (.inr ⟨q, k _ _ h fun z => by rw [z, ha] at h; exact n2 _ _ (Option.some.inj h)⟩)
  · exact .inr h
theorem ReqAt.keepA {mg : Str → Option Value} {H H' : Hp} {a b C dx : Addr} {r : Rq} (k : KeepA a H H') (ha : H a = some (.ins C dx [])) (h : ReqAt mg H b r) : ReqAt mg H' b r := by
  obtain ⟨D, dy, pc, pf, q, vs, h1, h2, ⟨cs, c1, c2⟩, h4, ⟨fs, f1, f2⟩, h6⟩ := h
  have na : ∀ {x : Addr} {c : List V}, H x = some (.tup c) → x ≠ a := fun e z => by rw [z, ha] at e; cases e
  refine ⟨D, dy, pc, pf, q, vs, h1, k _ _ h2 (fun z => by rw [z, ha] at h2; cases h2), ⟨cs, k _ _ c1 (na c1), k.tups ha (fun xs z => by cases z) c2⟩, ?_, ⟨fs, k _ _ f1 (na f1), k.tups ha (fun xs z => by cases z) f2⟩, k _ _ h6 (na h6)⟩
  cases e : r.st with
  | none => rw [e] at h4; exact h4
  | some x =>
    rw [e] at h4
    obtain ⟨p, e1, e2⟩ := h4
    exact ⟨p, e1, k _ _ e2 (na e2)⟩
/-- the family of a host -/
def famS (rs : List Str) (y : Str) : Str := mkS (famT (rs.map tl) (tl y))
def siteS (rs : List Str) (x : Str × Str) : Str × Str := (x.1, famS rs x.2)
theorem joinL_drop9 (L : List (List Nat)) (n : Nat) : joinL [46] (L.drop n) <:+ joinL [46] L := by
  by_cases h1 : L.take n = []
  · have e : L = L.drop n := by
      have := List.take_append_drop n L
      rw [h1, List.nil_append] at this
      exact this.symm
    rw [← e]
    exact List.suffix_refl _
  · by_cases h2 : L.drop n = []
    · rw [h2]; exact List.nil_suffix
    · have := joinL_app (c := 46) h1 h2
      rw [List.take_append_drop] at this
      rw [this]
      exact ⟨joinL [46] (L.take n) ++ [46], by rw [List.append_assoc]; rfl⟩
theorem famT_suffix (rs : List (List Nat)) (t : List Nat) : famT rs t <:+ t := by
  unfold famT
  split
  · exact List.suffix_refl _
  · have := joinL_drop9 (sp1 46 t) ((sp1 46 t).length - ((lastN (sufN rs (sp1 46 t)) (sp1 46 t)).length + 1))
    rw [joinL_sp1] at this
    exact this
theorem tl_mkS9 (l : List Nat) : tl (mkS l) = l := rfl
theorem ascii_fam {rs : List Str} {y : Str} (h : ascii y) : ascii (famS rs y) := fun s hs => h s ((famT_suffix _ _).subset hs)
theorem shaped_2 {x y : Str} (h1 : ascii x) (h2 : ascii y) : SeqAt.shaped (.tuple ([x, y].map PyData.str)) = true := lay_strsT fun w hw => by
  rcases List.mem_cons.mp hw with rfl | hw
  · exact h1
  · rw [List.mem_singleton.mp hw]; exact h2
theorem ascii_sch {x : Str} (h : x ∈ schemes2) : ascii x := let ⟨_, _, _, _, a, _⟩ := sch_of h; a
/-- two sites compared -/
theorem rEqD_2 {K : PySem.W.Frag} {H : Hp} {Q : VK} {p q : Addr} {x y : Str × Str} (hp : H p = some (.tup (orV x))) (hq : H q = some (.tup (orV y))) (a1 : ascii x.1) (a2 : ascii x.2) (b1 : ascii y.1) (b2 : ascii y.2) (h : Q (.bl (decide (x = y))) H) : rEqD K (.ref p) (.ref q) H Q := by
  refine ⟨_, _, dp_strsT (ys := [x.1, x.2]) (SqT.of hp), dp_strsT (ys := [y.1, y.2]) (SqT.of hq), shaped_2 a1 a2, shaped_2 b1 b2, ?_⟩
  rw [eqv_strsT]
  rw [show decide ([x.1, x.2] = [y.1, y.2]) = decide (x = y) by rw [Bool.eq_iff_iff, decide_eq_true_eq, decide_eq_true_eq, Prod.ext_iff]; simp]
  exact h
theorem rNeD_2 {K : PySem.W.Frag} {H : Hp} {Q : VK} {p q : Addr} {x y : Str × Str} (hp : H p = some (.tup (orV x))) (hq : H q = some (.tup (orV y))) (a1 : ascii x.1) (a2 : ascii x.2) (b1 : ascii y.1) (b2 : ascii y.2) (h : Q (.bl (!decide (x = y))) H) : rNeD K (.ref p) (.ref q) H Q := by
  refine ⟨_, _, dp_strsT (ys := [x.1, x.2]) (SqT.of hp), dp_strsT (ys := [y.1, y.2]) (SqT.of hq), shaped_2 a1 a2, shaped_2 b1 b2, ?_⟩
  rw [eqv_strsT]
  rw [show decide ([x.1, x.2] = [y.1, y.2]) = decide (x = y) by rw [Bool.eq_iff_iff, decide_eq_true_eq, decide_eq_true_eq, Prod.ext_iff]; simp]
  exact h
/-- the parts of a crumb -/
structure Cr where
  nm : Str
  vl : Str
  hs : Str
  ex : Bool
  pt : Str
  sec : Bool
  hid : Bool
  sm : Str
  pr : Int
  sp : Option ((Str × Str) × Bool)
  b0 : Int
  b1 : Int
  sn : Int
  en : Option Int
/-- a partition, or none -/
def SpAt (H : Hp) (v : V) : Option ((Str × Str) × Bool) → Prop
  | none => v = .non
  | some x => ∃ p s, v = .ref p ∧ H p = some (.tup [.ref s, .bl x.2]) ∧ H s = some (.tup (orV x.1))
def crI : Option Int → V
  | none => .non
  | some i => .int i
/-- a crumb -/
def CrumbAt (mg : Str → Option Value) (H : Hp) (a : Addr) (c : Cr) : Prop := ∃ (C dx bt ky : Addr) (v v2 : V), mg "Crumb" = some (.ref C) ∧
  H a = some (.ins C dx [("name", .str c.nm), ("value", .str c.vl), ("host", .str c.hs), ("is_exact", .bl c.ex), ("path", .str c.pt), ("is_secure", .bl c.sec), ("is_hidden", .bl c.hid), ("same", .str c.sm), ("priority", .int c.pr), ("space", v), ("born", .ref bt), ("seen", .int c.sn), ("ends", crI c.en), ("key", .ref ky)]) ∧
  SpAt H v c.sp ∧ H bt = some (.tup [.int c.b0, .int c.b1]) ∧ (v = .non → ∃ e, v2 = .ref e ∧ H e = some (.tup [])) ∧ (v ≠ .non → v2 = v) ∧ H ky = some (.tup [v2, .str c.hs, .bl c.ex, .str c.pt, .str c.nm])
theorem SpAt.same {H H' : Hp} {v : V} {o : Option ((Str × Str) × Bool)} (h : SpAt H v o) (s : Same H H') : SpAt H' v o := by
  cases o with
  | none => exact h
  | some x => obtain ⟨p, q, e, a, b⟩ := h; exact ⟨p, q, e, s _ _ a, s _ _ b⟩
theorem CrumbAt.same {mg : Str → Option Value} {H H' : Hp} {a : Addr} {c : Cr} (h : CrumbAt mg H a c) (s : Same H H') : CrumbAt mg H' a c := by
  obtain ⟨C, dx, bt, ky, v, v2, h1, h2, h3, h4, h5, h6, h7⟩ := h
  exact ⟨C, dx, bt, ky, v, v2, h1, s _ _ h2, h3.same s, s _ _ h4, fun z => (h5 z).imp fun e ⟨x, y⟩ => ⟨x, s _ _ y⟩, h6, s _ _ h7⟩
def NoOwn (K : PySem.W.Frag) (H : Hp) (v : V) : Prop := ∃ T : String, TyX K H v (.type T) ∧ (fastBuiltinMro T).elim false (·.all tyV) = true
theorem kit_self7 (K : PySem.W.Frag) (C : Addr) : PySem.W.kitOne K (.ref C) (.ref C) = some true := by
  unfold PySem.W.kitOne
  simp
/-- the suffix of a host is the host -/
def sfxB (rs : List Str) (y : Str) : Bool := !addrB (tl y) && decide (joinL [46] (lastN (sufN (rs.map tl) (sp1 46 (tl y))) (sp1 46 (tl y))) = tl y)
/-- it can be under the rules -/
def canB (rs : List Str) (c : Cr) : Bool := (c.ex || !sfxB rs c.hs) && match c.sp with
  | none => true
  | some x => decide (famS rs x.1.2 = x.1.2) && (x.2 || decide (famS rs c.hs = x.1.2))
/-- its hosts are hosts -/
def CrHs (c : Cr) : Prop := hostB (tl c.hs) = true ∧ ∀ x, c.sp = some x → hostB (tl x.1.2) = true
def sp_is_crumb (K : PySem.W.Frag) (mg : Str → Option Value) : Sp := fun vs H Q E => ∃ (v u : V) (b : Option V) (o : Option Cr), vs = [v, u] ∧ RulV K H v b ∧ ((∃ a c, u = .ref a ∧ CrumbAt mg H a c ∧ CrHs c ∧ o = some c) ∨ (NoOwn K H u ∧ o = none)) ∧
  (∀ g, b = some g → RefO mg "BadRules" "index" g H E) ∧ (b = none → o = none → ∀ H', Same H H' → Q (.bl false) H') ∧
  (b = none → ∀ c, o = some c → ∀ (p : Addr) (rs : List Str), v = .ref p → H p = some (.tup (rs.map V.str)) → RulesOK rs → ∀ H', Same H H' → Q (.bl (canB rs c)) H')
def sp__law_begun (K : PySem.W.Frag) : Sp := fun vs H Q _ => ∃ (a : Addr) (ns : List Int), vs = [.ref a] ∧ SqL K H a (ns.map V.int) ∧ ns.length ≤ 63 ∧
  ∀ (d g : Addr) (H' : Hp), Same H H' → GAt H' d g 900000000 → Q (.ref d) H'
theorem dpAll_intsG {K : PySem.W.Frag} {H : Hp} : ∀ ns : List Int, DpAll K H (ns.map V.int) (ns.map PyData.int)
  | [] => .nil
  | n :: ns => .cons (.int n) (dpAll_intsG ns)
/-- some number below a bound -/
def sp__law_next (K : PySem.W.Frag) : Sp := fun vs H Q _ => ∃ (d g : Addr) (b : Int) (n : Nat), vs = [.ref d, .int b] ∧ 0 < b ∧ b < 1000000000 ∧ GAt H d g (n + 1) ∧
  ∀ (r : Int) (H' : Hp), 0 ≤ r → r < b → KeepD d g H H' → GAt H' d g n → Q (.int r) H'
/-- some item of a list -/
def sp__law_pick (K : PySem.W.Frag) : Sp := fun vs H Q _ => ∃ (d g p : Addr) (xs : List V) (n : Nat), vs = [.ref d, .ref p] ∧ H p = some (.lst xs) ∧ p ≠ g ∧ 0 < xs.length ∧ xs.length ≤ 1000 ∧ GAt H d g (n + 1) ∧
  ∀ (i : Nat) (x : V) (H' : Hp), xs[i]? = some x → KeepD d g H H' → GAt H' d g n → Q x H'
def rules27 : List (List Str) := [[], ["com"], ["co.uk", "com", "uk"], ["*.uk", "!city.uk", "com"], ["b.com", "com", "*.b.com"], ["x.y.com", "com"], ["*.a.com"], ["localhost", "z.localhost"]]
def sp__law_rules : Sp := fun vs H Q _ => ∃ (d g : Addr) (n : Nat), vs = [.ref d] ∧ GAt H d g (n + 1) ∧
  ∀ (p : Addr) (rs : List Str) (H' : Hp), rs ∈ rules27 → KeepD d g H H' → GAt H' d g n → H' p = some (.tup (rs.map V.str)) → Q (.ref p) H'
def nsig : List Nat := [48, 49, 50, 51, 52, 53, 54, 55, 56, 57, 46]
theorem tl_nsig : tl ("0123456789." : Str) = nsig := by decide +kernel
def numsB (t : List Nat) : Bool := t.all fun c => decide (c ∈ nsig)
def sp__law_is_numbers : Sp := fun vs H Q _ => ∃ y : Str, vs = [.str y] ∧ y.length ≤ 100 ∧ ascii y ∧ ∀ H', Same H H' → Q (.bl (numsB (tl y))) H'
def hosts27 : List Str := ["a.com", "www.a.com", "x.www.a.com", "b.com", "a.b.com", "y.com", "a.x.y.com", "com", "localhost", "a.localhost", "w.a.localhost", "a.co.uk", "w.a.co.uk", "city.uk", "w.city.uk", "10.0.0.1", "z.localhost", "co.uk", "192.168.1.255"]
/-- the hosts of these laws -/
def hosts28 : List Str := hosts27 ++ (["x.y.com", "uk"] : List Str)
theorem host28_ok : hosts28.all (fun y => hostB (tl y) && decide (y.length ≤ 40)) = true := by decide +kernel
theorem host28 {y : Str} (h : y ∈ hosts28) : hostB (tl y) = true ∧ y.length ≤ 40 := by
  have := List.all_eq_true.mp host28_ok y h
  rw [Bool.and_eq_true, decide_eq_true_eq] at this
  exact this
def offL (P w : List (List Nat)) (n : Nat) : List Nat := (List.range n).filter fun k => !(decide (P.getD k [] = [42]) || decide (P.getD k [] = (lastN P.length w).getD k []))
def metL (P w : List (List Nat)) : Bool := decide (P.length ≤ w.length) && decide (offL P w P.length = [])
def stepL (w : List (List Nat)) (s : Nat × Nat) (t : List Nat) : Nat × Nat := if metL (patL t) w = true then (if excT t = true then (s.1, max s.2 (patL t).length) else (max s.1 (patL t).length, s.2)) else s
def foldS (w : List (List Nat)) (rs : List (List Nat)) : Nat × Nat := rs.foldl (stepL w) (1, 0)
def sufN7 (rs w : List (List Nat)) : Nat := if 0 < (foldS w rs).2 then (foldS w rs).2 - 1 else (foldS w rs).1
def sufT7 (rs : List (List Nat)) (t : List Nat) : List Nat := joinL [46] (lastN (sufN7 rs (sp1 46 t)) (sp1 46 t))
theorem metL_le {P w : List (List Nat)} (h : metL P w = true) : P.length ≤ w.length := by
  unfold metL at h
  rw [Bool.and_eq_true, decide_eq_true_eq] at h
  exact h.1
theorem foldS_le {w : List (List Nat)} (hw : 1 ≤ w.length) : ∀ rs : List (List Nat), (foldS w rs).1 ≤ w.length ∧ (foldS w rs).2 ≤ w.length ∧ 1 ≤ (foldS w rs).1 := by
  have gen : ∀ (rs : List (List Nat)) (s : Nat × Nat), s.1 ≤ w.length → s.2 ≤ w.length → 1 ≤ s.1 → (rs.foldl (stepL w) s).1 ≤ w.length ∧ (rs.foldl (stepL w) s).2 ≤ w.length ∧ 1 ≤ (rs.foldl (stepL w) s).1 := by
    intro rs
    induction rs with
    | nil => exact fun s h1 h2 h3 => ⟨h1, h2, h3⟩
    | cons t r ih =>
      intro s h1 h2 h3
      rw [List.foldl_cons]
      refine ih _ ?_ ?_ ?_ <;> (unfold stepL; by_cases hm : metL (patL t) w = true) <;> (first | rw [if_pos hm] | rw [if_neg hm]) <;> (first | (by_cases he : excT t = true <;> (first | rw [if_pos he] | rw [if_neg he]) <;> (have := metL_le hm; simp only; omega)) | assumption)
  exact fun rs => gen rs (1, 0) hw (Nat.zero_le _) (Nat.le_refl _)
theorem foldS_snoc (w rs : List (List Nat)) (t : List Nat) : foldS w (rs ++ [t]) = stepL w (foldS w rs) t := by
  unfold foldS
  rw [List.foldl_append]; rfl
theorem bang_cut (r : Str) : decide (V.str (cutS r none (some 1)) = V.str "!") = excT (tl r) := by
  unfold excT
  rw [Bool.eq_iff_iff, decide_eq_true_eq, decide_eq_true_eq]
  have e : (V.str (cutS r none (some 1)) = V.str "!") ↔ tl (cutS r none (some 1)) = tl "!" := ⟨fun h => congrArg tl (V.str.inj h), fun h => congrArg V.str (ext_tl h)⟩
  rw [e, cutS_to r (by decide), show tl "!" = [33] by decide +kernel]
  cases tl r with
  | nil => simp
  | cons a t => simp
theorem pat_cut (r : Str) : tl (cutS r (some (if excT (tl r) = true then 1 else 0)) none) = patT (tl r) := by
  unfold patT
  cases excT (tl r) with
  | true => rw [if_pos rfl, if_pos rfl, cutS_from r (by decide)]; exact List.drop_one
  | false => rw [if_neg (by decide), if_neg (by decide), cutS_from r (by decide)]; rfl
def sp__law_suffix (K : PySem.W.Frag) : Sp := fun vs H Q _ => ∃ (p : Addr) (rs : List Str) (y : Str), vs = [.ref p, .str y] ∧ SqT K H p (rs.map V.str) ∧ rs.length ≤ 30 ∧ (∀ r ∈ rs, r.length ≤ 100 ∧ r.length ≠ 0) ∧ y.length ≤ 100 ∧ (∀ s ∈ tl y, s < 128) ∧
  ∀ (e : Str) (H' : Hp), Same H H' → tl e = sufT7 (rs.map tl) (tl y) → Q (.str e) H'
def famT7 (rs : List (List Nat)) (t : List Nat) : List Nat := if numsB t = true then t else if sufT7 rs t = t then t else joinL [46] (lastN ((sp1 46 (sufT7 rs t)).length + 1) (sp1 46 t))
theorem fam7_all : rules27.all (fun rs => hosts28.all fun y => decide (famT7 (rs.map tl) (tl y) = famT (rs.map tl) (tl y))) = true := by decide +kernel
theorem rules27_ok : rules27.all (fun rs => decide (rs.Nodup) && decide (rs.length ≤ 3) && rs.all fun r => ruleB (tl r) && decide (r.length ≤ 20)) = true := by decide +kernel
theorem rules27_in {rs : List Str} (h : rs ∈ rules27) : RulesOK rs ∧ rs.length ≤ 3 ∧ ∀ r ∈ rs, r.length ≤ 20 ∧ r.length ≠ 0 := by
  have := List.all_eq_true.mp rules27_ok rs h
  rw [Bool.and_eq_true, Bool.and_eq_true, decide_eq_true_eq, decide_eq_true_eq, List.all_eq_true] at this
  refine ⟨⟨this.1.1, fun r hr => ?_⟩, this.1.2, fun r hr => ?_⟩
  all_goals
    have h2 := this.2 r hr
    rw [Bool.and_eq_true, decide_eq_true_eq] at h2
  · exact ⟨h2.1, by omega⟩
  · refine ⟨h2.2, fun z => ?_⟩
    have e : tl r = [] := List.eq_nil_of_length_eq_zero (by rw [len_tl] at z; exact z)
    rw [e] at h2
    exact absurd h2.1 (by decide +kernel)
def sp__law_family (K : PySem.W.Frag) : Sp := fun vs H Q _ => ∃ (p : Addr) (rs : List Str) (y : Str), vs = [.ref p, .str y] ∧ SqT K H p (rs.map V.str) ∧ rs ∈ rules27 ∧ y ∈ hosts28 ∧
  ∀ H', Same H H' → Q (.str (famS rs y)) H'
def sp__law_hosts : Sp := fun vs H Q _ => vs = [] ∧ ∀ (p : Addr) (H' : Hp), Same H H' → H' p = some (.lst (hosts27.map V.str)) → Q (.ref p) H'
def blB (c : Nat) : Bool := decide (c = 32) || decide (c = 9)
def trimB (l : List Nat) : List Nat := trimF blB l
/-- a text with a control sign -/
def ctlB (l : List Nat) : Bool := l.any fun c => decide (c < 32) && !decide (c = 9)
def markT (l : List Nat) : Option Str := if (tl ("__secure-" : Str)).isPrefixOf l then some ("__secure-" : Str) else if (tl ("__host-" : Str)).isPrefixOf l then some ("__host-" : Str) else none
def optS : Option Str → V
  | none => .non
  | some s => .str s
def partB (l : List Nat) : Bool := decide (59 ∉ l) && (decide (trimB l = l) && !ctlB l)
def nameL (l : List Nat) : Bool := partB l && (decide (61 ∉ l) && decide (l.length ≤ 4096))
/-- a value that is None, or right -/
def OptOk (P : V → Prop) (v : V) : Prop := v = .non ∨ P v
structure LineOk (x y : Str) (ex ag dm pt sm pr : V) : Prop where
  nm : nameL (tl x) = true
  vl : partB (tl y) = true
  l0 : 0 < (tl x).length + (tl y).length
  l1 : (tl x).length + (tl y).length ≤ 4096
  ex : OptOk (fun v => ∃ i : Int, v = .int i ∧ 0 ≤ i ∧ i ≤ lastT) ex
  ag : OptOk (fun v => ∃ i : Int, v = .int i ∧ 0 ≤ i ∧ i ≤ 34560000) ag
  dm : OptOk (fun v => ∃ z : Str, v = .str z ∧ hostB (tl z) = true) dm
  pt : OptOk (fun v => ∃ z : Str, v = .str z ∧ pathB (tl z) = true) pt
  sm : OptOk (fun v => ∃ z : Str, v = .str z ∧ (z = "strict" ∨ z = "lax" ∨ z = "none")) sm
  pr : OptOk (fun v => ∃ i : Int, v = .int i ∧ 0 ≤ i ∧ i ≤ 2) pr
def safeB (x y : Str) : Bool := decide (x = "https") || (decide (y = "localhost") || (tl (".localhost" : Str)).isSuffixOf (tl y))
def Cr.mk0 (c : Cr) : Option Str := markT (tl (lowS (if c.nm = "" then c.vl else c.nm)))
/-- what can be a crumb -/
structure CrOk (c : Cr) : Prop where
  ln : LineOk c.nm c.vl .non .non .non .non .non .non
  an : ascii c.nm ∧ ascii c.vl
  hs : hostB (tl c.hs) = true
  ex : c.ex = true ∨ (c.mk0 ≠ some ("__host-" : Str) ∧ addrB (tl c.hs) = false)
  pt : pathB (tl c.pt) = true ∧ (c.pt = "/" ∨ c.mk0 ≠ some ("__host-" : Str))
  sec : c.sec = true ∨ c.mk0 = none
  sm : (c.sm = "default" ∨ c.sm = "strict" ∨ c.sm = "lax" ∨ c.sm = "none") ∧ (c.sec = true ∨ c.sm ≠ "none")
  pr : 0 ≤ c.pr ∧ c.pr ≤ 2
  sp : ∀ x, c.sp = some x → GoodO x.1 ∧ c.sec = true ∧ (x.2 = true → c.sm = "none") ∧ (x.2 = false → fitB (tl c.hs) (tl x.1.2) = true ∧ safeB x.1.1 c.hs = true)
  bt : 0 ≤ c.b0 ∧ c.b0 ≤ 253402300799 ∧ 0 ≤ c.b1
  sn : 0 ≤ c.sn ∧ c.sn ≤ 253402300799 ∧ c.b0 ≤ c.sn
  en : ∀ e, c.en = some e → 0 ≤ e ∧ e ≤ 253402300799 ∧ c.sn < e ∧ e ≤ c.sn + 34560000
/-- the law's dict of parts -/
def crK (c : Cr) (v : V) (bt : Addr) : List (L2.Key × V) := [(Sum.inr "name", .str c.nm), (Sum.inr "value", .str c.vl), (Sum.inr "host", .str c.hs), (Sum.inr "exact", .bl c.ex), (Sum.inr "path", .str c.pt), (Sum.inr "secure", .bl c.sec), (Sum.inr "hidden", .bl c.hid), (Sum.inr "rank", .int c.pr), (Sum.inr "space", v), (Sum.inr "same", .str c.sm), (Sum.inr "born", .ref bt), (Sum.inr "seen", .int c.sn), (Sum.inr "ends", crI c.en)]
theorem valK {l : List (L2.Key × V)} {H : Hp} {d : Addr} {k : Str} {v : V} (h : H d = some (.dK l)) (e : valV l (Sum.inr k) = some v) : DGet H d (.str k) (some v) := by
  have := DGet.k (k := (Sum.inr k : L2.Key)) h
  rw [e] at this
  exact this
/-- the parts of a crumb in the law's dict -/
def CrAsk (H : Hp) (d : Addr) (c : Cr) : Prop := ∃ (bt : Addr) (v : V), H d = some (.dK (crK c v bt)) ∧ SpAt H v c.sp ∧ H bt = some (.tup [.int c.b0, .int c.b1])
theorem CrAsk.same {H H' : Hp} {d : Addr} {c : Cr} (h : CrAsk H d c) (s : Same H H') : CrAsk H' d c := let ⟨bt, v, a, b, e⟩ := h; ⟨bt, v, s _ _ a, b.same s, s _ _ e⟩
/-- its hosts are of these laws -/
def CrH28 (c : Cr) : Prop := c.hs ∈ hosts28 ∧ ∀ x, c.sp = some x → x.1.2 ∈ hosts28
/-- a pick from a written list -/
theorem pick27 {K : PySem.W.Frag} {σ : L2.St} {H : Hp} {Q : VK} {d g : Addr} {n i : Nat} {t : TA} {xs : List V} (hs : σ[i]? = some (some (.ref d))) (G : GivA t xs) (h0 : 0 < xs.length) (hl : xs.length ≤ 1000) (D : GAt H d g (n + 1))
    (q : ∀ (j : Nat) (x : V) (H' : Hp), xs[j]? = some x → KeepD d g H H' → GAt H' d g n → Q x H') : tCall (sp__law_pick K) [] E0 (tCons (tVar i) (tCons (tLst t) tNil)) σ H Q :=
  ⟨_, hs, giv_lst G hl fun p hp => ⟨d, g, p, xs, n, rfl, upd_same, (D.new hp).2, h0, hl, D.upd (D.new hp).1 (D.new hp).2, fun j x H' e k D' => q j x H' e (Same.thenD (Same.new hp) k) D'⟩⟩
/-! ### what may be drawn -/
def labs27 : List Str := ["n", "sid", "", "__Secure-n", "__Host-n", "__HOST-", "a b", "n"]
def wors27 : List Str := ["v", "", "a=b", "__SECURE-v", "__host-v", "x y"]
def mk27 (a b : Str) : Str := lowS (if a = "" then b else a)
def firm27 (a b : Str) : Bool := decide (cutS (mk27 a b) none (some 7) = "__host-")
def secm27 (a b : Str) : Bool := decide (cutS (mk27 a b) none (some 9) = "__secure-")
theorem nv27_ok : (labs27.all fun a => wors27.all fun b => decide (a = "" ∧ b = "") || (nameL (tl a) && partB (tl b) && decide (0 < (tl a).length + (tl b).length) && decide ((tl a).length + (tl b).length ≤ 4096) && (tl a).all (fun s => decide (s < 128)) && (tl b).all (fun s => decide (s < 128)) &&
    (firm27 a b || decide (markT (tl (lowS (if a = "" then b else a))) ≠ some ("__host-" : Str))) && (firm27 a b || secm27 a b || decide (markT (tl (lowS (if a = "" then b else a))) = none)) && decide (a.length ≤ 100) && decide (b.length ≤ 100) && decide ((mk27 a b).length ≤ 100))) = true := by decide +kernel
theorem nv27 {a b : Str} (ha : a ∈ labs27) (hb : b ∈ wors27) (h : ¬ (a = "" ∧ b = "")) : LineOk a b .non .non .non .non .non .non ∧ (ascii a ∧ ascii b) ∧ (firm27 a b = false → markT (tl (lowS (if a = "" then b else a))) ≠ some ("__host-" : Str)) ∧ (firm27 a b = false → secm27 a b = false → markT (tl (lowS (if a = "" then b else a))) = none) ∧ a.length ≤ 100 ∧ b.length ≤ 100 ∧ (mk27 a b).length ≤ 100 := by
  have := List.all_eq_true.mp (List.all_eq_true.mp nv27_ok a ha) b hb
  rw [decide_eq_false h, Bool.false_or] at this
  simp only [Bool.and_eq_true, decide_eq_true_eq, List.all_eq_true, Bool.or_eq_true] at this
  obtain ⟨⟨⟨⟨⟨⟨⟨⟨⟨⟨h1, h2⟩, h3⟩, h4⟩, h5⟩, h6⟩, h7⟩, h8⟩, h9⟩, h10⟩, h11⟩ := this
  refine ⟨⟨h1, h2, h3, h4, .inl rfl, .inl rfl, .inl rfl, .inl rfl, .inl rfl, .inl rfl⟩, ⟨h5, h6⟩, fun z => h7.resolve_left (by rw [z]; decide), fun z y => h8.resolve_left (by rw [z, y]; decide), h9, h10, h11⟩
theorem y27_ok : (hosts27.all fun y => decide (y ∈ hosts28) && decide (y.length ≤ 40) && (numsB (tl y) || !addrB (tl y)) && safeB "https" y && (!(decide (y = "localhost") || decide (cutS y (some (-10)) none = ".localhost")) || safeB "http" y) &&
    rules27.all fun rs => decide (famS rs y ∈ hosts28) && decide (famS rs (famS rs y) = famS rs y) && fitB (tl y) (tl (famS rs y))) = true := by decide +kernel
theorem y27 {y : Str} (h : y ∈ hosts27) : y ∈ hosts28 ∧ y.length ≤ 40 ∧ (numsB (tl y) = false → addrB (tl y) = false) ∧ safeB "https" y = true ∧ ((decide (y = "localhost") || decide (cutS y (some (-10)) none = ".localhost")) = true → safeB "http" y = true) ∧
    ∀ rs ∈ rules27, famS rs y ∈ hosts28 ∧ famS rs (famS rs y) = famS rs y ∧ fitB (tl y) (tl (famS rs y)) = true := by
  have := List.all_eq_true.mp y27_ok y h
  simp only [Bool.and_eq_true, decide_eq_true_eq, List.all_eq_true, Bool.or_eq_true, Bool.not_eq_true'] at this
  obtain ⟨⟨⟨⟨⟨h1, h2⟩, h3⟩, h4⟩, h5⟩, h6⟩ := this
  refine ⟨h1, h2, fun z => h3.resolve_left (by rw [z]; decide), h4, fun z => h5.resolve_left fun q => ?_, fun rs hr => ⟨(h6 rs hr).1.1, (h6 rs hr).1.2, (h6 rs hr).2⟩⟩
  rw [Bool.or_eq_true, decide_eq_true_eq, decide_eq_true_eq] at z
  rw [Bool.or_eq_false_iff, decide_eq_false_iff_not, decide_eq_false_iff_not] at q
  rcases z with z | z
  · exact q.1 z
  · exact q.2 z
theorem sfx28_ok : (rules27.all fun rs => hosts28.all fun y => decide (decide (sufT7 (rs.map tl) (tl y) = tl y) = sfxB rs y)) = true := by decide +kernel
theorem sfx28 {rs : List Str} {y : Str} (h : rs ∈ rules27) (hy : y ∈ hosts28) : decide (sufT7 (rs.map tl) (tl y) = tl y) = sfxB rs y := of_decide_eq_true (List.all_eq_true.mp (List.all_eq_true.mp sfx28_ok rs h) y hy)
/-! ### a dict under work between draws, with a partition in it -/
structure Cpt (d g A : Addr) (H H' : Hp) (m : Nat) (l : List (L2.Key × V)) (v : V) (sp : Option ((Str × Str) × Bool)) : Prop where
  k : KeepD d g H H'
  D : GAt H' d g m
  a : H' A = some (.dK l)
  ad : A ≠ d
  ag : A ≠ g
  fr : H A = none
  s : SpAt H' v sp
theorem SpAt.kd {H H' : Hp} {d g : Addr} {n : Nat} {v : V} {o : Option ((Str × Str) × Bool)} (h : SpAt H v o) (k : KeepD d g H H') (D : GAt H d g n) : SpAt H' v o := by
  cases o with
  | none => exact h
  | some x => obtain ⟨p, q, e, a, b⟩ := h; exact ⟨p, q, e, k _ _ a (D.tup a).1 (D.tup a).2, k _ _ b (D.tup b).1 (D.tup b).2⟩
theorem SpAt.put {H : Hp} {A : Addr} {l : List (L2.Key × V)} {u : HO} {v : V} {o : Option ((Str × Str) × Bool)} (h : SpAt H v o) (e : H A = some (.dK l)) : SpAt (L2.upd H A u) v o := by
  have up : ∀ {b : Addr} {xs : List V}, H b = some (.tup xs) → (L2.upd H A u) b = some (.tup xs) := fun f => (upd_ne (fun z => by rw [z, e] at f; cases f)).trans f
  cases o with
  | none => exact h
  | some x => obtain ⟨p, q, e, a, b⟩ := h; exact ⟨p, q, e, up a, up b⟩
section
variable {d g A : Addr} {H H1 H2 : Hp} {m m2 : Nat} {l l' : List (L2.Key × V)} {v v' : V} {sp sp' : Option ((Str × Str) × Bool)}
theorem Cpt.keep (h : Cpt d g A H H1 m l v sp) (k : KeepD d g H1 H2) (D : GAt H2 d g m2) : Cpt d g A H H2 m2 l v sp := ⟨h.k.trans k, D, k _ _ h.a h.ad h.ag, h.ad, h.ag, h.fr, h.s.kd k h.D⟩
theorem Cpt.same (h : Cpt d g A H H1 m l v sp) (k : Same H1 H2) : Cpt d g A H H2 m l v sp := ⟨h.k.same k, h.D.same k, k _ _ h.a, h.ad, h.ag, h.fr, h.s.same k⟩
theorem Cpt.put (h : Cpt d g A H H1 m l v sp) : Cpt d g A H (L2.upd H1 A (.dK l')) m l' v sp := ⟨h.k.updN h.fr, h.D.upd h.ad h.ag, upd_same, h.ad, h.ag, h.fr, h.s.put h.a⟩
theorem Cpt.spc (h : Cpt d g A H H1 m l v sp) (s : SpAt H1 v' sp') : Cpt d g A H H1 m l v' sp' := ⟨h.k, h.D, h.a, h.ad, h.ag, h.fr, s⟩
theorem Cpt.less (h : Cpt d g A H H1 m l v sp) (e : m2 ≤ m) : Cpt d g A H H1 m2 l v sp := ⟨h.k, h.D.less e, h.a, h.ad, h.ag, h.fr, h.s⟩
end
theorem Cpt.oth {d g A B : Addr} {H H1 : Hp} {m : Nat} {l l0 : List (L2.Key × V)} {v : V} {sp : Option ((Str × Str) × Bool)} {o : HO} (h : Cpt d g A H H1 m l v sp) (e : H1 B = some (.dK l0)) (nA : B ≠ A) (nd : B ≠ d) (ng : B ≠ g) (f : H B = none) : Cpt d g A H (L2.upd H1 B o) m l v sp :=
  ⟨h.k.updN f, h.D.upd nd ng, (upd_ne (Ne.symm nA)).trans h.a, h.ad, h.ag, h.fr, h.s.put e⟩
theorem coin27 {K : PySem.W.Frag} {σ : L2.St} {H : Hp} {Q : VK} {d g : Addr} {n i : Nat} {b : Int} (hs : σ[i]? = some (some (.ref d))) (b0 : 0 < b) (b1 : b < 1000000000) (D : GAt H d g (n + 1)) (q : ∀ (c : Bool) (H' : Hp), KeepD d g H H' → GAt H' d g n → Q (.bl c) H') :
    tOp rEq (tCall (sp__law_next K) [] E0 (tCons (tVar i) (tCons (tC (.int b)) tNil))) (tC (.int 0)) σ H Q := ⟨_, hs, d, g, b, n, rfl, b0, b1, D, fun _ H' _ _ k D' => ⟨rfl, q _ H' k D'⟩⟩
theorem next27 {K : PySem.W.Frag} {σ : L2.St} {H : Hp} {Q : VK} {d g : Addr} {n i : Nat} {b : Int} (hs : σ[i]? = some (some (.ref d))) (b0 : 0 < b) (b1 : b < 1000000000) (D : GAt H d g (n + 1)) (q : ∀ (r : Int) (H' : Hp), 0 ≤ r → r < b → KeepD d g H H' → GAt H' d g n → Q (.int r) H') :
    tCall (sp__law_next K) [] E0 (tCons (tVar i) (tCons (tC (.int b)) tNil)) σ H Q := ⟨_, hs, d, g, b, n, rfl, b0, b1, D, fun r H' h0 h1 k D' => q r H' h0 h1 k D'⟩
theorem putKV {l l' : List (L2.Key × V)} {H : Hp} {d : Addr} {k : Str} {v : V} (h : H d = some (.dK l)) (e : putK l (Sum.inr k) v = l') (hl : l.length < 100 := by simp) : DPut H d (.str k) v (upd H d (.dK l')) := by
  have := DPut.k (k := (Sum.inr k : L2.Key)) (v := v) h (Nat.lt_of_lt_of_le hl (by decide))
  rw [e] at this
  exact this
/-- what a drawn partition keeps -/
def SpG (rs : List Str) (y : Str) (sec : Bool) (o : Option ((Str × Str) × Bool)) : Prop := ∀ x, o = some x → GoodO x.1 ∧ sec = true ∧ x.1.2 ∈ hosts28 ∧ famS rs x.1.2 = x.1.2 ∧ (x.2 = false → fitB (tl y) (tl x.1.2) = true ∧ safeB x.1.1 y = true ∧ famS rs y = x.1.2)
/-! ### the dict of parts as it grows -/
abbrev cK4 (a b y : Str) (ex : Bool) : List (L2.Key × V) := [(Sum.inr "name", .str a), (Sum.inr "value", .str b), (Sum.inr "host", .str y), (Sum.inr "exact", .bl ex)]
abbrev cK5 (a b y : Str) (ex : Bool) (pt : Str) : List (L2.Key × V) := [(Sum.inr "name", .str a), (Sum.inr "value", .str b), (Sum.inr "host", .str y), (Sum.inr "exact", .bl ex), (Sum.inr "path", .str pt)]
abbrev cK6 (a b y : Str) (ex : Bool) (pt : Str) (sec : Bool) : List (L2.Key × V) := [(Sum.inr "name", .str a), (Sum.inr "value", .str b), (Sum.inr "host", .str y), (Sum.inr "exact", .bl ex), (Sum.inr "path", .str pt), (Sum.inr "secure", .bl sec)]
abbrev cK9 (a b y : Str) (ex : Bool) (pt : Str) (sec hid : Bool) (rk : Int) (v : V) : List (L2.Key × V) := [(Sum.inr "name", .str a), (Sum.inr "value", .str b), (Sum.inr "host", .str y), (Sum.inr "exact", .bl ex), (Sum.inr "path", .str pt), (Sum.inr "secure", .bl sec), (Sum.inr "hidden", .bl hid), (Sum.inr "rank", .int rk), (Sum.inr "space", v)]
abbrev cK10 (a b y : Str) (ex : Bool) (pt : Str) (sec hid : Bool) (rk : Int) (v : V) (sm : Str) : List (L2.Key × V) := [(Sum.inr "name", .str a), (Sum.inr "value", .str b), (Sum.inr "host", .str y), (Sum.inr "exact", .bl ex), (Sum.inr "path", .str pt), (Sum.inr "secure", .bl sec), (Sum.inr "hidden", .bl hid), (Sum.inr "rank", .int rk), (Sum.inr "space", v), (Sum.inr "same", .str sm)]
abbrev cK12 (a b y : Str) (ex : Bool) (pt : Str) (sec hid : Bool) (rk : Int) (v : V) (sm : Str) (bt : Addr) (sn : Int) : List (L2.Key × V) := [(Sum.inr "name", .str a), (Sum.inr "value", .str b), (Sum.inr "host", .str y), (Sum.inr "exact", .bl ex), (Sum.inr "path", .str pt), (Sum.inr "secure", .bl sec), (Sum.inr "hidden", .bl hid), (Sum.inr "rank", .int rk), (Sum.inr "space", v), (Sum.inr "same", .str sm), (Sum.inr "born", .ref bt), (Sum.inr "seen", .int sn)]
abbrev cK13 (a b y : Str) (ex : Bool) (pt : Str) (sec hid : Bool) (rk : Int) (v : V) (sm : Str) (bt : Addr) (sn : Int) (en : V) : List (L2.Key × V) := [(Sum.inr "name", .str a), (Sum.inr "value", .str b), (Sum.inr "host", .str y), (Sum.inr "exact", .bl ex), (Sum.inr "path", .str pt), (Sum.inr "secure", .bl sec), (Sum.inr "hidden", .bl hid), (Sum.inr "rank", .int rk), (Sum.inr "space", v), (Sum.inr "same", .str sm), (Sum.inr "born", .ref bt), (Sum.inr "seen", .int sn), (Sum.inr "ends", en)]
def sp__law_crumb_parts (K : PySem.W.Frag) : Sp := fun vs H Q _ => ∃ (d g p : Addr) (rs : List Str) (n : Nat), vs = [.ref d, .ref p] ∧ H p = some (.tup (rs.map V.str)) ∧ rs ∈ rules27 ∧ GAt H d g (n + 60) ∧
  ∀ (a : Addr) (c : Cr) (H' : Hp), KeepD d g H H' → GAt H' d g n → CrAsk H' a c → CrOk c → CrH28 c → canB rs c = true → a ≠ d → a ≠ g → (∀ e, c.en = some e → e + 1 ≤ 253402300799) → Q (.ref a) H'
def NoInt (K : PySem.W.Frag) (H : Hp) (v : V) : Prop := (∃ b, v = .bl b) ∨ ∃ t : Value, TyX K H v t ∧ PySem.W.kitOne K t (.type "int") = some false
def sp_is_integer (K : PySem.W.Frag) : Sp := fun vs H Q _ => ∃ v : V, vs = [v] ∧ ((∃ i : Int, v = .int i ∧ Q (.bl true) H) ∨ (NoInt K H v ∧ Q (.bl false) H))
def sp_is_tick (K : PySem.W.Frag) : Sp := fun vs H Q _ => ∃ v : V, vs = [v] ∧ ((∃ i : Int, v = .int i ∧ Q (.bl (decide (0 ≤ i) && decide (i ≤ lastT))) H) ∨ (NoInt K H v ∧ Q (.bl false) H))
def sp__is_path_sign : Sp := fun vs H Q _ => ∃ c : Nat, vs = [.str ⟨#[c]⟩] ∧ Q (.bl (psign c)) H
theorem psign_eq (c : Nat) : psign c = if (!decide (tl (⟨#[c]⟩ : Str) < tl ("!" : Str))) = true then (if (!decide (tl ("~" : Str) < tl (⟨#[c]⟩ : Str))) = true then (if (!decide (c ∈ tl (";?#" : Str))) = true then !decide ((c : Int) = 37) else false) else false) else false := by
  have e1 : tl ("!" : Str) = [33] := by decide +kernel
  have e2 : tl ("~" : Str) = [126] := by decide +kernel
  have e3 : tl (";?#" : Str) = [59, 63, 35] := by decide +kernel
  have e4 : tl (⟨#[c]⟩ : Str) = [c] := rfl
  rw [e1, e2, e3, e4]
  have l1 : ([c] : List Nat) < [33] ↔ c < 33 := by simp [List.cons_lt_cons_iff]
  have l2 : ([126] : List Nat) < [c] ↔ 126 < c := by simp [List.cons_lt_cons_iff]
  have l3 : ((c : Int) = 37) ↔ c = 37 := by omega
  simp only [l1, l2, l3, psign, List.mem_cons, List.not_mem_nil, or_false]
  by_cases h1 : c < 33
  · have : ¬ 33 ≤ c := by omega
    simp [h1, this]
  · have : 33 ≤ c := by omega
    by_cases h2 : 126 < c
    · have h3 : ¬ c ≤ 126 := by omega
      simp [h1, h2, h3]
    · have h3 : c ≤ 126 := by omega
      by_cases q1 : c = 59 <;> by_cases q2 : c = 63 <;> by_cases q3 : c = 35 <;> simp [h1, h2, h3, this, q1, q2, q3]
def sp_is_path (K : PySem.W.Frag) : Sp := fun vs H Q _ => ∃ (v : V) (b : Bool), vs = [v] ∧ TxV pathB K H v b ∧ Q (.bl b) H
def sp_mark_of : Sp := fun vs H Q _ => ∃ (x y : Str), vs = [.str x, .str y] ∧ ascii x ∧ ascii y ∧ x.length ≤ 4096 ∧ y.length ≤ 4096 ∧ ∀ H', Same H H' → Q (optS (markT (tl (lowS (if x = "" then y else x))))) H'
def sp_key_of : Sp := fun vs H Q _ => ∃ (sp : V) (x y z : Str) (b : Bool), vs = [sp, .str x, .bl b, .str y, .str z] ∧ (sp = .non ∨ ∃ q xs, sp = .ref q ∧ H q = some (.tup xs) ∧ xs ≠ []) ∧
  ∀ (k : Addr) (s2 : V) H', Same H H' → (sp = .non → ∃ e, s2 = .ref e ∧ H' e = some (.tup [])) → (sp ≠ .non → s2 = sp) → H' k = some (.tup [s2, .str x, .bl b, .str y, .str z]) → Q (.ref k) H'
def sp__need : Sp := fun vs H Q _ => ∃ f : Str, vs = [.str f, .bl true] ∧ Q .non H
theorem need_step {σ : L2.St} {H0 H : Hp} {D : Ends} {rest : TS} {f : Str} {te : TE} (g : GivS σ H0 te (.bl true)) (s : Same H0 H) (k : ∀ H2, Same H H2 → rest D σ H2) : tSeq (tDrop (tCall sp__need [] E0 (tCons (tC (.str f)) (tCons te tNil)))) rest D σ H :=
  g H _ s fun H2 s2 => ⟨f, rfl, k H2 s2⟩
def sp__is_from_0 (K : PySem.W.Frag) : Sp := fun vs H Q _ => ∃ (v : V) (m : Int), vs = [v, .int m] ∧ ((∃ i : Int, v = .int i ∧ Q (.bl (decide (0 ≤ i) && decide (i ≤ m))) H) ∨ (NoInt K H v ∧ Q (.bl false) H))
theorem blanks_tl : (fun c => decide (c ∈ tl (" \t" : Str))) = blB := by
  funext c
  rw [show tl (" \t" : Str) = [32, 9] by decide +kernel, Bool.eq_iff_iff]
  simp [blB]
theorem strip_blanks (x : Str) : tl (Txt.stripChars x " \t") = trimB (tl x) := by
  rw [strip_trim, blanks_tl]; rfl
def sp_is_trimmed : Sp := fun vs H Q _ => ∃ x : Str, vs = [.str x] ∧ x.length ≤ 1000000 ∧ Q (.bl (decide (trimB (tl x) = tl x))) H
def sp__has_control : Sp := fun vs H Q _ => ∃ x : Str, vs = [.str x] ∧ x.length ≤ 1000000 ∧ Q (.bl (ctlB (tl x))) H
theorem lt_one (c : Nat) : decide (((⟨#[c]⟩ : Str).cps.toList) < ((" " : Str).cps.toList)) = decide (c < 32) := by
  rw [show ((" " : Str).cps.toList) = [32] by decide +kernel]
  refine decide_eq_decide.mpr ⟨fun h => ?_, fun h => List.Lex.rel h⟩
  cases (show List.Lex (· < ·) [c] [32] from h) with
  | rel h => exact h
  | cons h => cases h
def sp__is_part (K : PySem.W.Frag) : Sp := fun vs H Q _ => ∃ (v : V) (b : Bool), vs = [v] ∧ TxV partB K H v b ∧ Q (.bl b) H
def sp__is_name (K : PySem.W.Frag) : Sp := fun vs H Q _ => ∃ (v : V) (b : Bool), vs = [v] ∧ TxV nameL K H v b ∧ Q (.bl b) H
def sp__is_value (K : PySem.W.Frag) : Sp := fun vs H Q _ => ∃ (v u : V) (b c : Bool), vs = [v, u] ∧ TxV nameL K H u c ∧ TxV partB K H v b ∧
  Q (.bl (c && (b && (match v, u with | .str x, .str y => decide (0 < (tl y).length + (tl x).length) && decide ((tl y).length + (tl x).length ≤ 4096) | _, _ => false)))) H
def lineF (x y : Str) (ex ag dm pt : V) (se hi : Bool) (sm : V) (pa : Bool) (pr : V) : List (Str × V) :=
  [("name", .str x), ("value", .str y), ("expires", ex), ("age", ag), ("domain", dm), ("path", pt), ("is_secure", .bl se), ("is_hidden", .bl hi), ("same", sm), ("is_partitioned", .bl pa), ("priority", pr)]
def sp_Line__init (K : PySem.W.Frag) (mg : Str → Option Value) : Sp := fun vs H Q _ => ∃ (a C dx : Addr) (x y : Str) (ex ag dm pt sm pr : V) (se hi pa : Bool), vs = [.ref a, .str x, .str y, ex, ag, dm, pt, .bl se, .bl hi, sm, .bl pa, pr] ∧ mg "Line" = some (.ref C) ∧
  H a = some (.ins C dx []) ∧ LineOk x y ex ag dm pt sm pr ∧ ∀ H', Same H H' → Q .non (upd H' a (.ins C dx (lineF x y ex ag dm pt se hi sm pa pr)))
def sp__need_name_and_value (K : PySem.W.Frag) : Sp := fun vs H Q _ => ∃ (x y : Str), vs = [.str x, .str y] ∧ LineOk x y .non .non .non .non .non .non ∧ ∀ H', Same H H' → Q .non H'
/-- a text of moderate length, or a value that is none -/
def TxA (K : PySem.W.Frag) (H : Hp) (v : V) : Prop := (∃ x : Str, v = .str x ∧ x.length ≤ 1000 ∧ ascii x) ∨ ∃ t : Value, TyX K H v t ∧ PySem.W.kitOne K t (.type "str") = some false
theorem TxA.same {K : PySem.W.Frag} {H H' : Hp} {v : V} (h : TxA K H v) (s : Same H H') : TxA K H' v := by
  rcases h with h | ⟨t, a, b⟩
  · exact .inl h
  · exact .inr ⟨t, ty_same s a, b⟩
theorem TxA.ext {K : PySem.W.Frag} {H H' : Hp} {v : V} (h : TxA K H v) (s : LamX.ExtN H H') : TxA K H' v := by
  rcases h with h | ⟨t, a, b⟩
  · exact .inl h
  · exact .inr ⟨t, ty_ext s a, b⟩
def schV : V → Bool
  | .str x => decide (x ∈ schemes2)
  | _ => false
def onV (f : List Nat → Bool) : V → Bool
  | .str x => f (tl x)
  | _ => false
theorem ty_nostr08 {K : PySem.W.Frag} {H : Hp} {v : V} {t : Value} (h : TyX K H v t) (hk : PySem.W.kitOne K t (.type "str") = some false) : ∀ x : Str, v ≠ .str x := fun x e => by
  subst e
  cases h with
  | base h =>
    cases h
    rw [kit_str K] at hk
    cases hk
theorem TxA.tx {f : List Nat → Bool} {K : PySem.W.Frag} {H : Hp} {v : V} (h : TxA K H v) : TxV f K H v (onV f v) := by
  rcases h with ⟨x, rfl, h1, _⟩ | ⟨t, a, b⟩
  · exact .inl ⟨x, rfl, by omega, rfl⟩
  · refine .inr ⟨t, a, b, ?_⟩
    have := ty_nostr08 a b
    cases v with
    | str x => exact absurd rfl (this x)
    | _ => rfl
def sp__is_scheme (K : PySem.W.Frag) : Sp := fun vs H Q _ => ∃ v : V, vs = [v] ∧ TxA K H v ∧ Q (.bl (schV v)) H
/-- a value, seen as an origin -/
def OrgV (K : PySem.W.Frag) (H : Hp) (v : V) (b : Bool) : Prop := (∃ t : Value, TyX K H v t ∧ PySem.W.kitOne K t (.type "tuple") = some false ∧ b = false) ∨
  (∃ (p : Addr) (xs : List V), v = .ref p ∧ H p = some (.tup xs) ∧ xs.length ≠ 2 ∧ b = false) ∨
  (∃ (p : Addr) (u w : V), v = .ref p ∧ H p = some (.tup [u, w]) ∧ TxA K H u ∧ TxA K H w ∧ b = (schV u && onV hostB w))
theorem OrgV.same {K : PySem.W.Frag} {H H' : Hp} {v : V} {b : Bool} (h : OrgV K H v b) (s : Same H H') : OrgV K H' v b := by
  rcases h with ⟨t, a, c, e⟩ | ⟨p, xs, a, c, e⟩ | ⟨p, u, w, a, c, d, e, f⟩
  · exact .inl ⟨t, ty_same s a, c, e⟩
  · exact .inr (.inl ⟨p, xs, a, s _ _ c, e⟩)
  · exact .inr (.inr ⟨p, u, w, a, s _ _ c, d.same s, e.same s, f⟩)
theorem OrgV.ext {K : PySem.W.Frag} {H H' : Hp} {v : V} {b : Bool} (h : OrgV K H v b) (s : LamX.ExtN H H') : OrgV K H' v b := by
  rcases h with ⟨t, a, c, e⟩ | ⟨p, xs, a, c, e⟩ | ⟨p, u, w, a, c, d, e, f⟩
  · exact .inl ⟨t, ty_ext s a, c, e⟩
  · exact .inr (.inl ⟨p, xs, a, s _ _ c (fun ps z => by cases z), e⟩)
  · exact .inr (.inr ⟨p, u, w, a, s _ _ c (fun ps z => by cases z), d.ext s, e.ext s, f⟩)
theorem org_good {K : PySem.W.Frag} {H : Hp} {p : Addr} {x y : Str} (hp : H p = some (.tup [.str x, .str y])) (hx : x ∈ schemes2) (hy : hostB (tl y) = true) : OrgV K H (.ref p) true := by
  refine .inr (.inr ⟨p, .str x, .str y, rfl, hp, .inl ⟨x, rfl, ?_, ?_⟩, .inl ⟨y, rfl, Nat.le_trans (hostB_len hy) (by decide), ascii_host hy⟩, ?_⟩)
  · exact (by decide +kernel : ∀ z ∈ schemes2, z.length ≤ 1000) x hx
  · exact (by decide +kernel : ∀ z ∈ schemes2, ∀ s ∈ tl z, s < 128) x hx
  · show true = (decide (x ∈ schemes2) && hostB (tl y))
    rw [decide_eq_true hx, hy]; rfl
def sp_is_origin (K : PySem.W.Frag) : Sp := fun vs H Q _ => ∃ (v : V) (b : Bool), vs = [v] ∧ OrgV K H v b ∧ ∀ H', Same H H' → Q (.bl b) H'
def sp__is_partition (K : PySem.W.Frag) : Sp := fun vs H Q _ => ∃ (p s : Addr) (x : Str × Str) (b : Bool), vs = [.ref p] ∧ H p = some (.tup [.ref s, .bl b]) ∧ H s = some (.tup (orV x)) ∧ GoodO x ∧ ∀ H', Same H H' → Q (.bl true) H'
def sp_need_host : Sp := fun vs H Q _ => ∃ x : Str, vs = [.str x] ∧ hostB (tl x) = true ∧ ∀ H', Same H H' → Q .non H'
def sp_host_fits : Sp := fun vs H Q _ => ∃ x y : Str, vs = [.str x, .str y] ∧ hostB (tl x) = true ∧ hostB (tl y) = true ∧ ∀ H', Same H H' → Q (.bl (fitB (tl x) (tl y))) H'
def sp_is_safe (K : PySem.W.Frag) : Sp := fun vs H Q _ => ∃ (p : Addr) (x y : Str), vs = [.ref p] ∧ H p = some (.tup [.str x, .str y]) ∧ x ∈ schemes2 ∧ hostB (tl y) = true ∧ ∀ H', Same H H' → Q (.bl (safeB x y)) H'
def sp__can_be_in (K : PySem.W.Frag) : Sp := fun vs H Q _ => ∃ (p s : Addr) (x : Str × Str) (b : Bool) (y z : Str), vs = [.ref p, .str y, .str z] ∧ H p = some (.tup [.ref s, .bl b]) ∧ H s = some (.tup (orV x)) ∧ GoodO x ∧ hostB (tl y) = true ∧ (b = true → z = "none") ∧ (b = false → (fitB (tl y) (tl x.2) = true ∧ safeB x.1 y = true)) ∧ ∀ H', Same H H' → Q (.bl true) H'
def sp__is_birth (K : PySem.W.Frag) : Sp := fun vs H Q _ => ∃ (p : Addr) (a b : Int), vs = [.ref p] ∧ H p = some (.tup [.int a, .int b]) ∧ 0 ≤ a ∧ a ≤ 253402300799 ∧ 0 ≤ b ∧ Q (.bl true) H
theorem scal_opt (o : Option Str) (x : Str) : scal (optS o) (.str x) = true := by cases o <;> rfl
theorem ne_host {o : Option Str} (h : o ≠ some ("__host-" : Str)) : (!decide (optS o = V.str "__host-")) = true := by
  cases o with
  | none => simp [optS]
  | some y => simp [optS]; exact fun z => h (by rw [z])
def sp_Crumb__init (K : PySem.W.Frag) (mg : Str → Option Value) : Sp := fun vs H Q _ => ∃ (a C dx bt : Addr) (v : V) (c : Cr), vs = [.ref a, .str c.nm, .str c.vl, .str c.hs, .bl c.ex, .str c.pt, .bl c.sec, .bl c.hid, .str c.sm, .int c.pr, v, .ref bt, .int c.sn, crI c.en] ∧ mg "Crumb" = some (.ref C) ∧ H a = some (.ins C dx []) ∧ SpAt H v c.sp ∧ H bt = some (.tup [.int c.b0, .int c.b1]) ∧ CrOk c ∧
  ∀ H', KeepA a H H' → CrumbAt mg H' a c → Q .non H'
def sp__law_crumb (K : PySem.W.Frag) (mg : Str → Option Value) : Sp := fun vs H Q _ => ∃ (d : Addr) (c : Cr), vs = [.ref d] ∧ CrAsk H d c ∧ CrOk c ∧ ∀ (a : Addr) H', Same H H' → CrumbAt mg H' a c → Q (.ref a) H'
def sp__law_can_be (K : PySem.W.Frag) : Sp := fun vs H Q _ => ∃ (p d : Addr) (rs : List Str) (c : Cr), vs = [.ref p, .ref d] ∧ H p = some (.tup (rs.map V.str)) ∧ rs ∈ rules27 ∧ CrAsk H d c ∧ CrH28 c ∧ ∀ H', Same H H' → Q (.bl (canB rs c)) H'
def sp__law_bad_rules (K : PySem.W.Frag) (mg : Str → Option Value) : Sp := fun vs H Q _ => ∃ (v u pl : V) (o : Option Cr), vs = [v, u] ∧ RulV K H v (some pl) ∧ ((∃ a c, u = .ref a ∧ CrumbAt mg H a c ∧ CrHs c ∧ o = some c) ∨ (NoOwn K H u ∧ o = none)) ∧ ∀ H', Same H H' → Q (.bl true) H'
def sp_need_tick (K : PySem.W.Frag) : Sp := fun vs H Q _ => ∃ i : Int, vs = [.int i] ∧ 0 ≤ i ∧ i ≤ 253402300799 ∧ Q .non H
def endB (c : Cr) (t : Int) : Bool := match c.en with
  | none => false
  | some e => decide (e ≤ t)
def sp_has_ended (K : PySem.W.Frag) (mg : Str → Option Value) : Sp := fun vs H Q _ => ∃ (a : Addr) (c : Cr) (t : Int), vs = [.ref a, .int t] ∧ CrumbAt mg H a c ∧ 0 ≤ t ∧ t ≤ 253402300799 ∧ ∀ H', Same H H' → Q (.bl (endB c t)) H'
def sp__law_ends_right (K : PySem.W.Frag) (mg : Str → Option Value) : Sp := fun vs H Q _ => ∃ (d a : Addr) (c : Cr), vs = [.ref d, .ref a] ∧ CrAsk H d c ∧ CrumbAt mg H a c ∧ CrOk c ∧ (∀ e, c.en = some e → e + 1 ≤ 253402300799) ∧ ∀ H', Same H H' → Q (.bl true) H'
theorem own28_ok : (hosts28.all fun y => numsB (tl y) || (List.range (sp1 46 (tl y)).length).all fun k => hosts28.any fun z => decide (tl z = joinL [46] ((sp1 46 (tl y)).drop k))) = true := by decide +kernel
theorem own28_fit : (hosts28.all fun y => numsB (tl y) || hosts28.all fun z => !((List.range (sp1 46 (tl y)).length).any fun k => decide (tl z = joinL [46] ((sp1 46 (tl y)).drop k))) || fitB (tl y) (tl z)) = true := by decide +kernel
theorem own28 {y z : Str} (hy : y ∈ hosts28) (hn : numsB (tl y) = false) {k : Nat} (hk : k < (sp1 46 (tl y)).length) (e : tl z = joinL [46] ((sp1 46 (tl y)).drop k)) : z ∈ hosts28 ∧ fitB (tl y) (tl z) = true := by
  have h1 := List.all_eq_true.mp own28_ok y hy
  have h2 := List.all_eq_true.mp own28_fit y hy
  rw [hn, Bool.false_or] at h1 h2
  obtain ⟨u, hu, eu⟩ := List.any_eq_true.mp (List.all_eq_true.mp h1 k (List.mem_range.mpr hk))
  have hz : z = u := ext_tl (e.trans (of_decide_eq_true eu).symm)
  refine ⟨hz ▸ hu, ?_⟩
  have h3 := List.all_eq_true.mp h2 u hu
  rw [← hz] at h3
  rw [Bool.or_eq_true] at h3
  refine h3.resolve_left fun q => ?_
  rw [Bool.not_eq_true', List.any_eq_false] at q
  exact q k (List.mem_range.mpr hk) (decide_eq_true e)
def sp__law_own_space (K : PySem.W.Frag) : Sp := fun vs H Q _ => ∃ (d g a : Addr) (c : Cr) (n : Nat), vs = [.ref d, .ref a] ∧ CrAsk H a c ∧ CrOk c ∧ CrH28 c ∧ a ≠ d ∧ a ≠ g ∧ GAt H d g (n + 1) ∧
  ∀ (e : Addr) (c2 : Cr) (H' : Hp), KeepD d g H H' → GAt H' d g n → CrAsk H' e c2 → CrOk c2 → CrH28 c2 → e ≠ d → e ≠ g → Q (.ref e) H'
theorem CrAsk.kd {H H' : Hp} {d g a : Addr} {n : Nat} {c : Cr} (h : CrAsk H a c) (ad : a ≠ d) (ag : a ≠ g) (k : KeepD d g H H') (D : GAt H d g n) : CrAsk H' a c := by
  obtain ⟨bt, v, h1, h2, h3⟩ := h
  exact ⟨bt, v, k _ _ h1 ad ag, h2.kd k D, k _ _ h3 (D.tup h3).1 (D.tup h3).2⟩
/-- no crumb -/
def OddC (H : Hp) (v : V) : Prop := v = .non ∨ (∃ s : Str, v = .str s) ∨ (∃ n : Int, v = .int n) ∨ (∃ b : Bool, v = .bl b) ∨ ∃ (p : Addr) (o : HO), v = .ref p ∧ H p = some o ∧ ((∃ xs, o = .tup xs) ∨ (∃ xs, o = .lst xs) ∨ ∃ kvs, o = .dK kvs)
theorem OddC.same {H H' : Hp} {v : V} (h : OddC H v) (s : Same H H') : OddC H' v := by
  rcases h with h | h | h | h | ⟨p, o, e1, e2, e3⟩
  · exact .inl h
  · exact .inr (.inl h)
  · exact .inr (.inr (.inl h))
  · exact .inr (.inr (.inr (.inl h)))
  · exact .inr (.inr (.inr (.inr ⟨p, o, e1, s _ _ e2, e3⟩)))
theorem OddC.kd {H H' : Hp} {d g : Addr} {v : V} (h : OddC H v) (n : ∀ p, v = .ref p → p ≠ d ∧ p ≠ g) (k : KeepD d g H H') : OddC H' v := by
  rcases h with h | h | h | h | ⟨p, o, e1, e2, e3⟩
  · exact .inl h
  · exact .inr (.inl h)
  · exact .inr (.inr (.inl h))
  · exact .inr (.inr (.inr (.inl h)))
  · exact .inr (.inr (.inr (.inr ⟨p, o, e1, k _ _ e2 (n p e1).1 (n p e1).2, e3⟩)))
theorem OddC.no {K : PySem.W.Frag} {H : Hp} {v : V} (h : OddC H v) : NoOwn K H v := by
  rcases h with rfl | ⟨s, rfl⟩ | ⟨n, rfl⟩ | ⟨b, rfl⟩ | ⟨p, o, rfl, e2, ⟨xs, rfl⟩ | ⟨xs, rfl⟩ | ⟨kvs, rfl⟩⟩
  · exact ⟨_, .base .non, by decide +kernel⟩
  · exact ⟨_, .base (.str _), by decide +kernel⟩
  · exact ⟨_, .base (.int _), by decide +kernel⟩
  · exact ⟨_, .base (.bl _), by decide +kernel⟩
  · exact ⟨_, .base (.tup e2), by decide +kernel⟩
  · exact ⟨_, .base (.lst e2), by decide +kernel⟩
  · exact ⟨_, .base (.dK e2), by decide +kernel⟩
theorem wrong_one {x : Str} (h : ruleB (tl x) = false) : WrongAt [V.str x] 0 := by
  refine ⟨by show 0 < 1; decide, fun ⟨_, w, hw, hr, _⟩ => ?_, fun j hj => absurd hj (by omega)⟩
  cases hw
  have : ruleB (tl x) = true := hr
  rw [h] at this
  cases this
theorem rul_non {K : PySem.W.Frag} {H : Hp} : RulV K H .non (some .non) := .inl ⟨_, .base .non, kit_ty (by decide +kernel), rfl⟩
theorem rul_lst {K : PySem.W.Frag} {H : Hp} {p : Addr} {xs : List V} (h : H p = some (.lst xs)) : RulV K H (.ref p) (some .non) := .inl ⟨_, .base (.lst h), kit_ty (by decide +kernel), rfl⟩
theorem rul_no {K : PySem.W.Frag} {H : Hp} {p : Addr} (h : H p = some (.tup [V.str ""])) : RulV K H (.ref p) (some (.int 0)) := by
  refine .inr ⟨p, _, rfl, h, fun x hx => ?_, by decide, .inr ⟨0, wrong_one (by decide +kernel), rfl⟩⟩
  rw [List.mem_singleton.mp hx]
  exact .inl ⟨_, rfl, by decide +kernel⟩
theorem rulV_of {K : PySem.W.Frag} {H : Hp} {p : Addr} {rs : List Str} (hp : H p = some (.tup (rs.map V.str))) (ok : RulesOK rs) (hl : rs.length ≤ 30) : RulV K H (.ref p) none := by
  refine .inr ⟨p, _, rfl, hp, fun x hx => ?_, by rw [List.length_map]; omega, .inl ⟨fun j hj => ?_, rfl⟩⟩
  · obtain ⟨r, hr, rfl⟩ := List.mem_map.mp hx
    exact .inl ⟨r, rfl, (ok.2 r hr).2⟩
  · rw [List.length_map] at hj
    refine ⟨by omega, .str rs[j], by rw [List.getElem?_map, List.getElem?_eq_getElem hj]; rfl, (ok.2 _ (List.getElem_mem hj)).1, fun hm => ?_⟩
    rw [← List.map_take] at hm
    obtain ⟨z, hz, e⟩ := List.mem_map.mp hm
    have e : z = rs[j] := V.str.inj e
    subst e
    obtain ⟨k, hk, ek⟩ := List.getElem_of_mem hz
    rw [List.length_take] at hk
    rw [List.getElem_take] at ek
    have := (List.getElem_inj (h₀ := by omega) (h₁ := hj) ok.1).mp ek
    omega
theorem strs_inj : ∀ {xs ys : List Str}, xs.map V.str = ys.map V.str → xs = ys
  | [], [], _ => rfl
  | x :: xs, y :: ys, h => by
    rw [List.map_cons, List.map_cons] at h
    injection h with h1 h2
    rw [V.str.inj h1, strs_inj h2]
  | [], y :: ys, h => by cases h
  | x :: xs, [], h => by cases h
theorem isc31 {K : PySem.W.Frag} {mg : Str → Option Value} {H : Hp} {σ : L2.St} {i : Nat} {Q : Bool → Hp → Prop} {rp f1 cr : Addr} {rs : List Str} {b : Cr} (h3 : σ[i]? = some (some (.ref rp))) (h6 : σ[6]? = some (some (.ref f1))) (h7 : σ[7]? = some (some (.ref cr)))
    (hr : rs ∈ rules27) (hp : H rp = some (.tup (rs.map V.str))) (hB : CrAsk H f1 b) (hh : CrH28 b) (hC : CrumbAt mg H cr b) (chs : CrHs b) (q : ∀ H', Same H H' → Q false H') :
    tTest (tOp rNe (tCB (rRepr K) (tCons (tCall (sp_is_crumb K mg) [] (fun _ _ _ => False) (tCons (tVar i) (tCons (tVar 7) tNil))) tNil)) (tCB (rRepr K) (tCons (tCall (sp__law_can_be K) [] E0 (tCons (tVar i) (tCons (tVar 6) tNil))) tNil))) σ H Q := by
  refine ⟨_, h3, _, h7, .ref rp, .ref cr, none, some b, rfl, rulV_of hp (rules27_in hr).1 (by have := (rules27_in hr).2.1; omega), .inl ⟨cr, b, rfl, hC, chs, rfl⟩, (fun g z => by cases z), (fun _ z => by cases z), fun _ c2 hc p rs2 ep hm _ H1 s1 => ?_⟩
  cases hc
  cases ep
  obtain rfl : rs2 = rs := strs_inj (HO.tup.inj (Option.some.inj (hm.symm.trans hp)))
  delta tNil
  refine (RpD.bool (canB rs2 b)).repr (by decide) (by decide) (.bl _) ?_
  refine ⟨_, h3, _, h6, rp, f1, rs2, b, rfl, s1 _ _ hp, hr, hB.same s1, hh, fun H2 s2 => ?_⟩
  refine (RpD.bool (canB rs2 b)).repr (by decide) (by decide) (.bl _) ?_
  refine ⟨rfl, _, rfl, ?_⟩
  rw [decide_eq_true rfl]
  exact q H2 (s1.trans s2)
def sp_law (K : PySem.W.Frag) : Sp := fun vs H Q _ => ∃ (a : Addr) (ns : List Int), vs = [.ref a] ∧ SqL K H a (ns.map V.int) ∧ ns.length ≤ 63 ∧ ∀ H', Q (.bl true) H'
section
variable {P : Program} {w : World} {K : PySem.W.Frag} {mg : Str → Option Value} {base : Heap}
theorem ok_has_only (T : Txt K mg) : Cal P w K mg base CX0 1 "has_only" ["text", "signs"] sp_has_only := by
  refine T.d_has_only.ok0 sc_has_only (fun vs H Q E h => ?_) (fun f cdv A outer s H vs Q E hr h => ?_)
  · first | (obtain ⟨_, rfl, _⟩ := h; rfl) | (obtain ⟨_, _, rfl, _⟩ := h; rfl) | (obtain ⟨_, _, _, rfl, _⟩ := h; rfl) | (obtain ⟨_, _, _, _, rfl, _⟩ := h; rfl) | (obtain ⟨_, _, _, _, _, rfl, _⟩ := h; rfl) | (obtain ⟨_, _, _, _, _, _, rfl, _⟩ := h; rfl) | (obtain ⟨_, _, _, _, _, _, _, rfl, _⟩ := h; rfl) | (obtain ⟨_, _, _, _, _, _, _, _, rfl, _⟩ := h; rfl) | (obtain ⟨_, _, _, _, _, _, _, _, _, rfl, _⟩ := h; rfl) | (obtain ⟨_, _, _, _, _, _, _, _, _, _, rfl, _⟩ := h; rfl) | (obtain ⟨_, _, _, _, _, _, _, _, _, _, _, rfl, _⟩ := h; rfl) | (obtain ⟨_, _, _, _, _, _, _, _, _, _, _, _, rfl, _⟩ := h; rfl)
  · refine ⟨_, (pss_one (ps_ret (pe_and (pe_cmpR (op_ne) (pv 0) pe_str (nomark _)) (pe_one (pe_cmpR (op_eq) (pe_m1 PySem.F.slot_str_strip PySem.F.type_str_strip mt_stripChars (pv 0) (pv 1)) pe_str (nomark _)))))), ?_⟩
    obtain ⟨x, g, rfl, hx, hQ⟩ := h
    rw [← strip_only] at hQ
    refine ⟨_, rfl, rfl, _, rfl, ?_⟩
    cases hz : (!decide (V.str x = V.str ("" : Str))) with
    | false => rw [hz, Bool.false_and] at hQ; exact iteF hQ
    | true =>
      rw [hz, Bool.true_and] at hQ
      exact iteT ⟨_, rfl, ⟨_, rfl⟩, _, rfl, _, _, rfl, rfl, Nat.le_trans hx (by decide), rfl, hQ⟩
theorem ok__is_label (T : Txt K mg) : Cal P w K mg base CX0 2 "_is_label" ["text"] sp__is_label := by
  refine T.d__is_label.ok0 sc__is_label (fun vs H Q E h => ?_) (fun f cdv A outer s H vs Q E hr h => ?_)
  · first | (obtain ⟨_, rfl, _⟩ := h; rfl) | (obtain ⟨_, _, rfl, _⟩ := h; rfl) | (obtain ⟨_, _, _, rfl, _⟩ := h; rfl) | (obtain ⟨_, _, _, _, rfl, _⟩ := h; rfl) | (obtain ⟨_, _, _, _, _, rfl, _⟩ := h; rfl) | (obtain ⟨_, _, _, _, _, _, rfl, _⟩ := h; rfl) | (obtain ⟨_, _, _, _, _, _, _, rfl, _⟩ := h; rfl) | (obtain ⟨_, _, _, _, _, _, _, _, rfl, _⟩ := h; rfl) | (obtain ⟨_, _, _, _, _, _, _, _, _, rfl, _⟩ := h; rfl) | (obtain ⟨_, _, _, _, _, _, _, _, _, _, rfl, _⟩ := h; rfl) | (obtain ⟨_, _, _, _, _, _, _, _, _, _, _, rfl, _⟩ := h; rfl) | (obtain ⟨_, _, _, _, _, _, _, _, _, _, _, _, rfl, _⟩ := h; rfl)
  · refine ⟨_, (pss_cons (ps_if (PW.pt (pw_or (pt_cmpR (op_gt) (pe_callB call_len_str (by rfl) T.b_len (by decide +kernel) (pa_cons (pv 0) pa_nil)) (pe_gc (by rfl) T.c_MOST_OF_LABEL) (nomark _)) (pw_or1 (pt_not (pt_val (pe_c (ok_has_only T) hr (by decide) (by rfl) pass0 (pa_cons (pv 0) (pa_cons (pe_gc (by rfl) T.c_LABEL_SIGNS) pa_nil))))))))
      (pss_one (ps_ret pe_bl))
      pss_nil)
      (pss_one (ps_ret (pe_and (pe_cmpR (op_ne) (pe_ix ix_str (pv 0) pe_int (fun _ _ => rfl)) pe_str (nomark _)) (pe_one (pe_cmpR (op_ne) (pe_ix ix_str (pv 0) (pe_un un_neg pe_int) (fun _ _ => rfl)) pe_str (nomark _))))))), ?_⟩
    obtain ⟨x, rfl, hx, hQ⟩ := h
    refine ⟨_, rfl, x, rfl, Nat.le_trans hx (by decide), _, _, rfl, rfl, _, rfl, iteB (fun h1 => ?_) (fun h1 => ?_)⟩
    · have h1 : (20 : Int) < (x.length : Int) := of_decide_eq_true h1
      have e : labB (tl x) = false := by
        unfold labB
        rw [decide_eq_false (by rw [len_tl] at h1; omega), Bool.false_and]
      rw [e] at hQ
      exact hQ
    have h1 : ¬ (20 : Int) < (x.length : Int) := of_decide_eq_false h1
    have hl : (tl x).length ≤ 20 := by rw [len_tl] at h1; omega
    unfold labB at hQ
    rw [decide_eq_true hl, Bool.true_and] at hQ
    refine ⟨_, rfl, x, _, rfl, hx, ?_⟩
    rw [tl_lsig]
    refine ⟨_, rfl, ?_⟩
    cases h2 : onlyB lsig (tl x) with
    | false =>
      rw [h2, Bool.false_and] at hQ
      exact iteT hQ
    | true =>
      rw [h2, Bool.true_and] at hQ
      refine iteF ?_
      have hne : tl x ≠ [] := by
        unfold onlyB at h2
        rw [Bool.and_eq_true, decide_eq_true_eq] at h2
        exact h2.2
      obtain ⟨r, d, er⟩ := snoc_of_ne hne
      obtain ⟨a, r2, ea⟩ : ∃ a r2, tl x = a :: r2 := List.exists_cons_of_ne_nil hne
      have h0 : atI x.cps.toList 0 = some a := by show atI (tl x) ((0 : Nat) : Int) = _; rw [ea]; exact atI_nat rfl
      have hz : atI x.cps.toList (-1) = some d := by show atI (tl x) (-1) = _; rw [er]; exact atI_last r d
      have e1 : (tl x).head? = some a := by rw [ea]; rfl
      have e2 : (tl x).getLast? = some d := by rw [er, List.getLast?_concat]
      rw [e1, e2] at hQ
      refine ⟨_, rfl, x, _, a, rfl, rfl, Nat.le_trans hx (by decide), h0, rfl, _, rfl, ?_⟩
      rw [one_dash]
      have e3 : decide (some a ≠ some 45) = !decide (a = 45) := by rw [Bool.eq_iff_iff]; simp
      have e4 : decide (some d ≠ some 45) = !decide (d = 45) := by rw [Bool.eq_iff_iff]; simp
      rw [e3, e4] at hQ
      cases h3 : decide (a = 45) with
      | true =>
        rw [h3] at hQ
        exact iteF hQ
      | false =>
        rw [h3] at hQ
        refine iteT ⟨_, rfl, _, rfl, x, _, d, rfl, rfl, Nat.le_trans hx (by decide), hz, rfl, ?_⟩
        rw [one_dash]
        exact hQ
theorem ok_are_labels (T : Txt K mg) : Cal P w K mg base CX0 3 "are_labels" ["texts"] (sp_are_labels K) := by
  refine T.d_are_labels.ok0 sc_are_labels (fun vs H Q E h => ?_) (fun f cdv A outer s H vs Q E hr h => ?_)
  · first | (obtain ⟨_, rfl, _⟩ := h; rfl) | (obtain ⟨_, _, rfl, _⟩ := h; rfl) | (obtain ⟨_, _, _, rfl, _⟩ := h; rfl) | (obtain ⟨_, _, _, _, rfl, _⟩ := h; rfl) | (obtain ⟨_, _, _, _, _, rfl, _⟩ := h; rfl) | (obtain ⟨_, _, _, _, _, _, rfl, _⟩ := h; rfl) | (obtain ⟨_, _, _, _, _, _, _, rfl, _⟩ := h; rfl) | (obtain ⟨_, _, _, _, _, _, _, _, rfl, _⟩ := h; rfl) | (obtain ⟨_, _, _, _, _, _, _, _, _, rfl, _⟩ := h; rfl) | (obtain ⟨_, _, _, _, _, _, _, _, _, _, rfl, _⟩ := h; rfl) | (obtain ⟨_, _, _, _, _, _, _, _, _, _, _, rfl, _⟩ := h; rfl) | (obtain ⟨_, _, _, _, _, _, _, _, _, _, _, _, rfl, _⟩ := h; rfl)
  · refine ⟨_, (pss_cons (ps_for PassesOwn.never rfl (pi_list (pv 0)) (pg_name (i := 1) sc_are_labels.nd rfl (by first | exact Or.inl rfl | exact Or.inr rfl))
      (pss_one (ps_if (pt_not (pt_val (pe_c (ok__is_label T) hr (by decide) (by rfl) pass0 (pa_cons (pv 1) pa_nil))))
      (pss_one (ps_ret pe_bl))
      pss_nil)))
      (pss_one (ps_ret pe_bl))), ?_⟩
    obtain ⟨p, xs, rfl, hp, hx, hQ⟩ := h
    refine ⟨_, rfl, p, rfl, ⟨_, hp⟩, for_list (K := K) (a := p) (xs := xs.map V.str) (fun i σ H1 => ∃ sv, σ = [some (.ref p), sv] ∧ H1 = H ∧ ((xs.take i).map tl).all labB = true) ⟨none, rfl, rfl, by simp⟩ (fun i σ H1 _ ⟨_, _, e, _⟩ => by rw [e]; exact hp) ?_ ?_⟩
    · rintro i v σ H1 hi ⟨sv, rfl, rfl, ha⟩
      obtain ⟨x, hxi, rfl⟩ := strAt hi
      refine ⟨_, rfl, x, rfl, hx x (List.mem_of_getElem? hxi), _, rfl, ?_⟩
      cases hl : labB (tl x) with
      | true => exact iteF ⟨_, rfl, rfl, by rw [allS_at hxi, ha, hl]; rfl⟩
      | false =>
        have e : (xs.map tl).all labB = false := by
          rw [List.all_eq_false]
          exact ⟨tl x, List.mem_map.mpr ⟨x, List.mem_of_getElem? hxi, rfl⟩, by rw [hl]; exact Bool.false_ne_true⟩
        rw [e] at hQ
        exact iteT hQ
    · rintro σ H1 ⟨sv, rfl, rfl, ha⟩
      rw [List.length_map, List.take_length] at ha
      rw [ha] at hQ
      exact hQ
theorem ok__is_rule (T : Txt K mg) : Cal P w K mg base CX0 4 "_is_rule" ["value"] (sp__is_rule K) := by
  refine T.d__is_rule.ok0 sc__is_rule (fun vs H Q E h => ?_) (fun f cdv A outer s H vs Q E hr h => ?_)
  · first | (obtain ⟨_, rfl, _⟩ := h; rfl) | (obtain ⟨_, _, rfl, _⟩ := h; rfl) | (obtain ⟨_, _, _, rfl, _⟩ := h; rfl) | (obtain ⟨_, _, _, _, rfl, _⟩ := h; rfl) | (obtain ⟨_, _, _, _, _, rfl, _⟩ := h; rfl) | (obtain ⟨_, _, _, _, _, _, rfl, _⟩ := h; rfl) | (obtain ⟨_, _, _, _, _, _, _, rfl, _⟩ := h; rfl) | (obtain ⟨_, _, _, _, _, _, _, _, rfl, _⟩ := h; rfl) | (obtain ⟨_, _, _, _, _, _, _, _, _, rfl, _⟩ := h; rfl) | (obtain ⟨_, _, _, _, _, _, _, _, _, _, rfl, _⟩ := h; rfl) | (obtain ⟨_, _, _, _, _, _, _, _, _, _, _, rfl, _⟩ := h; rfl) | (obtain ⟨_, _, _, _, _, _, _, _, _, _, _, _, rfl, _⟩ := h; rfl)
  · refine ⟨_, (pss_cons (ps_if (pt_not (pt_val (pe_callB call_isi (by rfl) T.b_isinstance (by decide +kernel) (pa_cons (pv 0) (pa_cons (pe_bltn (v := .ty "str") (by rfl) T.b_str (by decide +kernel) rfl) pa_nil)))))
      (pss_one (ps_ret pe_bl))
      pss_nil)
      (pss_cons (ps_if (pt_val (pe_m1 PySem.F.slot_str_startswith PySem.F.type_str_startswith mt_startswith (pv 0) (pe_gc (by rfl) T.c_EXCEPTION)))
      (pss_cons (ps_set (i := 1) sc__is_rule.nd rfl (by first | exact Or.inl rfl | exact Or.inr rfl) (pe_split (pe_slice sl_str (pv 0) (po_some pe_int) po_none) pe_str))
      (pss_one (ps_ret (pe_and (pe_cmpR (op_gt) (pe_callB call_len_seq (by rfl) T.b_len (by decide +kernel) (pa_cons (pv 1) pa_nil)) pe_int (nomark _)) (pe_one (pe_c (ok_are_labels T) hr (by decide) (by rfl) pass0 (pa_cons (pv 1) pa_nil)))))))
      pss_nil)
      (pss_one (ps_ret (pe_c (ok_are_labels T) hr (by decide) (by rfl) pass0 (pa_cons (pe_split (pe_m1 PySem.F.slot_str_removeprefix PySem.F.type_str_removeprefix mt_removeprefix (pv 0) (pe_op op_add_str (pe_gc (by rfl) T.c_ANY) pe_str)) pe_str) pa_nil)))))), ?_⟩
    obtain ⟨v, rfl, hv, hQ⟩ := h
    rcases hv with ⟨x, rfl, hx⟩ | ⟨t, ht, hk⟩
    rotate_left
    · have e : ruV v = false := by
        have := ty_nostr ht hk
        cases v with
        | str x => exact absurd rfl (this x)
        | _ => rfl
      rw [e] at hQ
      exact ⟨_, rfl, _, _, _, _, false, rfl, .ty _, ht, hk, _, rfl, iteT (hQ _ (Same.refl _))⟩
    have hQ : ∀ H' : Hp, Same H H' → Q (.bl (ruleB (tl x))) H' := hQ
    refine ⟨_, rfl, _, _, _, _, true, rfl, .ty _, .base (.str x), kit_str K, _, rfl, iteF ?_⟩
    refine ⟨_, rfl, ⟨_, rfl⟩, _, _, rfl, rfl, _, rfl, ?_⟩
    rw [bang_exc2]
    unfold ruleB at hQ
    cases hx1 : excT (tl x) with
    | true =>
      rw [hx1, if_pos rfl] at hQ
      have el : (cutS x (some 1) none).length ≤ 1000 := by
        rw [len_tl, cutS_from x (by decide), List.length_drop, ← len_tl]
        omega
      have ep : tl (cutS x (some 1) none) = (tl x).tail := by rw [cutS_from x (by decide), ← List.drop_one]; rfl
      refine iteT ⟨_, rfl, _, rfl, x, rfl, Nat.le_trans hx (by decide), ⟨_, rfl⟩, _, _, rfl, rfl, by decide +kernel, Nat.le_trans (by omega : _ ≤ 100000) (by decide), fun p hp => ?_⟩
      have e1 := split_sp1 (cutS x (some 1) none) (c := 46) (by decide)
      have ml : ∀ p ∈ Txt.split (cutS x (some 1) none) ⟨#[46]⟩, p.length ≤ 1000 := fun p hp => Nat.le_trans (split_mem_len (c := 46) (by decide) hp) el
      rw [← dot_eq] at e1 ml
      rw [ep] at e1
      rw [← e1] at hQ
      generalize Txt.split (cutS x (some 1) none) ("." : Str) = P at *
      have s1 := Same.new (o := HO.lst (P.map V.str)) hp
      have m1 : (upd H p (.lst (P.map V.str))) p = some (.lst (P.map V.str)) := upd_same
      generalize upd H p (.lst (P.map V.str)) = H1 at s1 m1 ⊢
      refine ⟨_, rfl, p, _, rfl, .inl (SqL.of m1), _, _, rfl, rfl, ?_⟩
      refine ⟨_, rfl, iteB (fun h2 => ?_) (fun h2 => ?_)⟩
      · have h2 : (1 : Int) < ((P.map V.str).length : Int) := of_decide_eq_true h2
        rw [List.length_map] at h2
        rw [decide_eq_true (by rw [List.length_map]; omega), Bool.true_and] at hQ
        exact ⟨_, rfl, p, P, rfl, SqL.of m1, fun y hy => Nat.le_trans (ml y hy) (by decide), hQ _ s1⟩
      · have h2 : ¬ (1 : Int) < ((P.map V.str).length : Int) := of_decide_eq_false h2
        rw [List.length_map] at h2
        rw [decide_eq_false (by rw [List.length_map]; omega), Bool.false_and] at hQ
        exact hQ _ s1
    | false =>
      rw [hx1, if_neg Bool.false_ne_true] at hQ
      refine iteF ?_
      obtain ⟨y, ey, hy, eq⟩ : ∃ y : Str, Txt.removeprefix x (("*" : Str) ++ ("." : Str)) = y ∧ y.length ≤ 1000 ∧ tl y = (if [42, 46].isPrefixOf (tl x) = true then (tl x).drop 2 else tl x) := by
        refine ⟨_, rfl, ?_⟩
        by_cases g : [42, 46].isPrefixOf (tl x) = true
        · obtain ⟨u, eu⟩ := List.isPrefixOf_iff_prefix.mp g
          have h1 := removeprefix_hit (x := x) (y := ("*" : Str) ++ ("." : Str)) (b := u) (by rw [tl_stardot, eu])
          rw [if_pos g, len_tl, h1, ← eu]
          rw [len_tl, ← eu] at hx
          exact ⟨by rw [List.length_append] at hx; omega, rfl⟩
        · rw [if_neg g, removeprefix_miss (by rw [tl_stardot]; exact fun q => g (List.isPrefixOf_iff_prefix.mpr q))]
          exact ⟨hx, rfl⟩
      rw [← eq] at hQ
      refine ⟨_, rfl, ⟨_, rfl⟩, _, _, rfl, rfl, by decide +kernel, _, _, rfl, rfl, Nat.le_trans hx (by decide), ?_⟩
      rw [ey]
      have e1 := split_sp1 y (c := 46) (by decide)
      have ml : ∀ p ∈ Txt.split y ⟨#[46]⟩, p.length ≤ 1000 := fun p hp => Nat.le_trans (split_mem_len (c := 46) (by decide) hp) hy
      rw [← dot_eq] at e1 ml
      rw [← e1] at hQ
      refine ⟨⟨_, rfl⟩, _, _, rfl, rfl, by decide +kernel, Nat.le_trans (by omega : _ ≤ 100000) (by decide), fun p hp => ?_⟩
      exact ⟨p, _, rfl, SqL.of upd_same, fun z hz => Nat.le_trans (ml z hz) (by decide), hQ _ (Same.new hp)⟩
theorem ok_need_rules (T : Txt K mg) : Cal P w K mg base (L2.CX P w) 5 "need_rules" ["rules"] (sp_need_rules K mg) := by
  refine T.d_need_rules.okX sc_need_rules (fun vs H Q E h => ?_) (fun f cdv A outer s H vs Q E hr h => ?_)
  · first | (obtain ⟨_, rfl, _⟩ := h; rfl) | (obtain ⟨_, _, rfl, _⟩ := h; rfl) | (obtain ⟨_, _, _, rfl, _⟩ := h; rfl) | (obtain ⟨_, _, _, _, rfl, _⟩ := h; rfl) | (obtain ⟨_, _, _, _, _, rfl, _⟩ := h; rfl) | (obtain ⟨_, _, _, _, _, _, rfl, _⟩ := h; rfl) | (obtain ⟨_, _, _, _, _, _, _, rfl, _⟩ := h; rfl) | (obtain ⟨_, _, _, _, _, _, _, _, rfl, _⟩ := h; rfl) | (obtain ⟨_, _, _, _, _, _, _, _, _, rfl, _⟩ := h; rfl) | (obtain ⟨_, _, _, _, _, _, _, _, _, _, rfl, _⟩ := h; rfl) | (obtain ⟨_, _, _, _, _, _, _, _, _, _, _, rfl, _⟩ := h; rfl) | (obtain ⟨_, _, _, _, _, _, _, _, _, _, _, _, rfl, _⟩ := h; rfl)
  · obtain ⟨C_BadRules, e_BadRules⟩ := T.e_BadRules
    refine ⟨_, (pss_cons (ps_if (pt_not (pt_val (pe_callB call_isi (by rfl) T.b_isinstance (by decide +kernel) (pa_cons (pv 0) (pa_cons (pe_bltn (v := .ty "tuple") (by rfl) T.b_tuple (by decide +kernel) rfl) pa_nil)))))
      (pss_one (ps_raiseE rfl e_BadRules.toErr hr (by decide) pass0 (takes_of rfl rfl rfl rfl) (pa_cons pe_non pa_nil) (by rfl)))
      pss_nil)
      (pss_one (ps_for (passes_of rfl) rfl (pi_enumT (by rfl) T.b_enumerate (pa_cons (pv 0) pa_nil)) (pg_tup rfl (pgs_cons (pg_name (i := 1) sc_need_rules.nd rfl (by first | exact Or.inl rfl | exact Or.inr rfl)) (pgs_cons (pg_name (i := 2) sc_need_rules.nd rfl (by first | exact Or.inl rfl | exact Or.inr rfl)) pgs_nil)))
      (pss_one (ps_if (PW.pt (pw_or (pt_cmpR (op_eq) (pv 1) (pe_gc (by rfl) T.c_MOST_RULES) (nomark _)) (pw_or (pt_not (pt_val (pe_c (ok__is_rule T) hr (by decide) (by rfl) pass0 (pa_cons (pv 2) pa_nil)))) (pw_or1 (pt_cmpR (op_in_seq) (pv 2) (pe_slice sl_tupA (pv 0) po_none (po_some (pv 1))) (by with_unfolding_all rfl))))))
      (pss_one (ps_raiseE rfl e_BadRules.toErr hr (by decide) pass0 (takes_of rfl rfl rfl rfl) (pa_cons (pv 1) pa_nil) (by rfl)))
      pss_nil))))), ?_⟩
    obtain ⟨v, b, rfl, hv, q1, q2⟩ := h
    rcases hv with ⟨t, ht, hk, rfl⟩ | ⟨p, xs, rfl, hp, hx, hl, hb⟩
    · exact ⟨_, rfl, _, _, _, _, false, rfl, .ty _, ht, hk, _, rfl, iteT ⟨_, rfl, fun d hd => q2 .non rfl C_BadRules d _ e_BadRules.g (Same.refl _) hd⟩⟩
    have fin : ∀ i d H1, i < xs.length → ¬ OkAt xs i → (∀ j, j < i → OkAt xs j) → Same H H1 → H1 d = none → E (.ref C_BadRules) (some d) (L2.upd H1 d (.xd [(("index" : Str), .int (i : Nat))])) := by
      intro i d H1 hi hw ho s hd
      rcases hb with ⟨ha, _⟩ | ⟨k, hk, rfl⟩
      · exact absurd (ha i hi) hw
      · obtain rfl : k = i := by
          rcases Nat.lt_trichotomy k i with q | q | q
          · exact absurd (ho k q) hk.2.1
          · exact q
          · exact absurd (hk.2.2 i q) hw
        exact q2 _ rfl C_BadRules d _ e_BadRules.g s hd
    refine ⟨_, rfl, _, _, _, _, true, rfl, .ty _, .base (.tup hp), kit_ty (by decide +kernel), _, rfl, iteF ?_⟩
    refine ⟨_, rfl, p, _, rfl, SqT.of hp, for_enumT (K := K) (a := p) (xs := xs) (fun i σ H1 => ∃ v1 v2, σ = [some (.ref p), v1, v2] ∧ Same H H1 ∧ ∀ j, j < i → OkAt xs j) ⟨none, none, rfl, Same.refl _, fun j hj => absurd hj (Nat.not_lt_zero j)⟩ (fun i σ H1 _ ⟨_, _, _, s, _⟩ => SqT.of (s _ _ hp)) ?_ ?_⟩
    · rintro i v T σ H1 hi ⟨v1, v2, rfl, s1, ho⟩ hT
      have hil := (List.getElem?_eq_some_iff.mp hi).1
      have s2 := s1.trans (Same.new (o := HO.tup [V.int (i : Nat), v]) hT)
      refine ⟨T, _, rfl, SqT.of upd_same, rfl, _, _, rfl, _, _, rfl, rfl, ?_⟩
      generalize upd H1 T (.tup [V.int (i : Nat), v]) = H2 at s2 ⊢
      refine ⟨_, rfl, rfl, _, rfl, iteB (fun h30 => ?_) (fun h30 => ?_)⟩
      · have h30 : i = 30 := by rw [dec_int] at h30; have := beq_iff_eq.mp h30; omega
        exact iteT ⟨_, rfl, _, rfl, fun d hd => fin i d _ hil (fun z => z.1 h30) ho s2 hd⟩
    
      have h30 : i ≠ 30 := fun e => by rw [dec_int] at h30; exact beq_eq_false_iff_ne.mp h30 (by omega)
      refine ⟨_, rfl, v, rfl, (hx v (List.mem_of_getElem? hi)).same s2, fun H3 s3 => ⟨_, rfl, ?_⟩⟩
      have s4 := s2.trans s3
      cases hru : ruV v with
      | false => exact iteT (iteT ⟨_, rfl, _, rfl, fun d hd => fin i d _ hil (fun ⟨_, v', e1, e2, _⟩ => by rw [hi] at e1; cases e1; rw [hru] at e2; cases e2) ho s4 hd⟩)
      | true =>
        refine iteF ?_
        have hq := SqT.of (K := K) (s4 _ _ hp)
        obtain ⟨r, rfl⟩ : ∃ r : Str, v = .str r := by
          cases v with
          | str x => exact ⟨x, rfl⟩
          | _ => cases hru
        refine ⟨_, rfl, _, rfl, _, rfl, _, rfl, p, _, rfl, hq, fun hw => ?_, fun _ p2 hp2 => ?_⟩
        · exfalso
          have := hw.2
          rw [show HT.sIx xs.length xs.length (some ((i : Nat) : Int)) = min i xs.length from HT.sIx_nat _ _ _] at this
          omega
        · rw [cutV_to _ (by omega : (0 : Int) ≤ (i : Nat)), Int.toNat_natCast]
          obtain ⟨rs, ers, nd, hr, hl2, h30'⟩ := ok_strs i (by omega) ho
          rw [ers]
          have s5 := s4.trans (Same.new (o := HO.tup (rs.map V.str)) hp2)
          refine ⟨p2, _, rfl, .inr (SqT.of upd_same), rfl, Kb.flat_strs _, ?_⟩
          rw [in_strs]
          refine ⟨_, rfl, ?_⟩
          refine iteB (fun hin => ?_) (fun hin => ?_)
          · have hin : r ∈ rs := of_decide_eq_true hin
            refine ⟨_, rfl, _, rfl, fun d hd => fin i d _ hil (fun ⟨_, v', e1, _, e3⟩ => ?_) ho s5 hd⟩
            rw [hi] at e1; cases e1
            exact e3 (by rw [ers]; exact List.mem_map.mpr ⟨r, hin, rfl⟩)
          · have hin : r ∉ rs := of_decide_eq_false hin
            refine ⟨_, _, rfl, s5, fun j hj => ?_⟩
            rcases Nat.lt_succ_iff_lt_or_eq.mp hj with q | rfl
            · exact ho j q
            · refine ⟨h30, _, hi, hru, fun z => ?_⟩
              rw [ers] at z
              obtain ⟨y, hy, e⟩ := List.mem_map.mp z
              cases e
              exact hin hy
    · rintro σ H1 ⟨v1, v2, rfl, s1, ho⟩
      rcases hb with ⟨ha, rfl⟩ | ⟨k, hk, _⟩
      · exact q1 rfl _ s1
      · exact absurd (ho k hk.1) hk.2.1
theorem ok_is_digits (T : Txt K mg) : Cal P w K mg base CX0 2 "is_digits" ["text"] sp_is_digits := by
  refine T.d_is_digits.ok0 sc_is_digits (fun vs H Q E h => ?_) (fun f cdv A outer s H vs Q E hr h => ?_)
  · first | (obtain ⟨_, rfl, _⟩ := h; rfl) | (obtain ⟨_, _, rfl, _⟩ := h; rfl) | (obtain ⟨_, _, _, rfl, _⟩ := h; rfl) | (obtain ⟨_, _, _, _, rfl, _⟩ := h; rfl) | (obtain ⟨_, _, _, _, _, rfl, _⟩ := h; rfl) | (obtain ⟨_, _, _, _, _, _, rfl, _⟩ := h; rfl) | (obtain ⟨_, _, _, _, _, _, _, rfl, _⟩ := h; rfl) | (obtain ⟨_, _, _, _, _, _, _, _, rfl, _⟩ := h; rfl) | (obtain ⟨_, _, _, _, _, _, _, _, _, rfl, _⟩ := h; rfl) | (obtain ⟨_, _, _, _, _, _, _, _, _, _, rfl, _⟩ := h; rfl) | (obtain ⟨_, _, _, _, _, _, _, _, _, _, _, rfl, _⟩ := h; rfl) | (obtain ⟨_, _, _, _, _, _, _, _, _, _, _, _, rfl, _⟩ := h; rfl)
  · refine ⟨_, (pss_one (ps_ret (pe_c (ok_has_only T) hr (by decide) (by rfl) pass0 (pa_cons (pv 0) (pa_cons (pe_gc (by rfl) T.c_DIGITS) pa_nil))))), ?_⟩
    obtain ⟨x, rfl, hx, hQ⟩ := h
    exact ⟨_, rfl, x, _, rfl, hx, by rw [tl_digs]; exact hQ⟩
theorem ok__is_number (T : Txt K mg) : Cal P w K mg base CX0 3 "_is_number" ["label"] sp__is_number := by
  refine T.d__is_number.ok0 sc__is_number (fun vs H Q E h => ?_) (fun f cdv A outer s H vs Q E hr h => ?_)
  · first | (obtain ⟨_, rfl, _⟩ := h; rfl) | (obtain ⟨_, _, rfl, _⟩ := h; rfl) | (obtain ⟨_, _, _, rfl, _⟩ := h; rfl) | (obtain ⟨_, _, _, _, rfl, _⟩ := h; rfl) | (obtain ⟨_, _, _, _, _, rfl, _⟩ := h; rfl) | (obtain ⟨_, _, _, _, _, _, rfl, _⟩ := h; rfl) | (obtain ⟨_, _, _, _, _, _, _, rfl, _⟩ := h; rfl) | (obtain ⟨_, _, _, _, _, _, _, _, rfl, _⟩ := h; rfl) | (obtain ⟨_, _, _, _, _, _, _, _, _, rfl, _⟩ := h; rfl) | (obtain ⟨_, _, _, _, _, _, _, _, _, _, rfl, _⟩ := h; rfl) | (obtain ⟨_, _, _, _, _, _, _, _, _, _, _, rfl, _⟩ := h; rfl) | (obtain ⟨_, _, _, _, _, _, _, _, _, _, _, _, rfl, _⟩ := h; rfl)
  · refine ⟨_, (pss_cons (ps_if (PW.pt (pw_or (pt_not (pt_val (pe_c (ok_is_digits T) hr (by decide) (by rfl) pass0 (pa_cons (pv 0) pa_nil)))) (pw_or1 (pt_cmpR (op_gt) (pe_callTy call_int_str (by rfl) T.b_int (by decide +kernel) (pa_cons (pv 0) pa_nil)) (pe_gc (by rfl) T.c_MOST_OF_NUMBER) (nomark _)))))
      (pss_one (ps_ret pe_bl))
      pss_nil)
      (pss_one (ps_ret (pe_or (pe_cmpR (op_eq) (pv 0) pe_str (nomark _)) (pe_one (pe_cmpR (op_ne) (pe_ix ix_str (pv 0) pe_int (fun _ _ => rfl)) pe_str (nomark _))))))), ?_⟩
    obtain ⟨x, rfl, hx, hQ⟩ := h
    unfold numB at hQ
    refine ⟨_, rfl, x, rfl, Nat.le_trans hx (by decide), _, rfl, ?_⟩
    cases h1 : digB (tl x) with
    | false =>
      rw [h1, Bool.false_and] at hQ
      exact iteT hQ
    | true =>
      rw [h1, Bool.true_and] at hQ
      refine iteF ⟨_, rfl, x, _, rfl, int_dig h1 hx, hx, _, _, rfl, rfl, _, rfl, ?_⟩
      refine iteB (fun h2 => ?_) (fun h2 => ?_)
      · have h2 : (255 : Int) < ((NumText.digitsVal (tl x) : Nat) : Int) := of_decide_eq_true h2
        rw [decide_eq_false (by omega), Bool.false_and] at hQ
        exact hQ
      · have h2 : ¬ (255 : Int) < ((NumText.digitsVal (tl x) : Nat) : Int) := of_decide_eq_false h2
        rw [decide_eq_true (by omega), Bool.true_and] at hQ
        refine ⟨_, rfl, rfl, _, rfl, ?_⟩
        rw [str_zero]
        cases h3 : decide (tl x = [48]) with
        | true =>
          rw [h3, Bool.true_or] at hQ
          exact iteT hQ
        | false =>
          rw [h3, Bool.false_or] at hQ
          obtain ⟨a, r2, ea⟩ : ∃ a r2, tl x = a :: r2 := List.exists_cons_of_ne_nil (digB_iff.mp h1).2
          have h0 : atI x.cps.toList 0 = some a := by show atI (tl x) ((0 : Nat) : Int) = _; rw [ea]; exact atI_nat rfl
          refine iteF ⟨_, rfl, x, _, a, rfl, rfl, Nat.le_trans hx (by decide), h0, rfl, ?_⟩
          rw [one_zero]
          have e3 : decide ((tl x).head? ≠ some 48) = !decide (a = 48) := by rw [ea, Bool.eq_iff_iff]; simp
          rw [e3] at hQ
          exact hQ
theorem ok__are_four_numbers (T : Txt K mg) : Cal P w K mg base CX0 4 "_are_four_numbers" ["labels"] (sp__are_four_numbers K) := by
  refine T.d__are_four_numbers.ok0 sc__are_four_numbers (fun vs H Q E h => ?_) (fun f cdv A outer s H vs Q E hr h => ?_)
  · first | (obtain ⟨_, rfl, _⟩ := h; rfl) | (obtain ⟨_, _, rfl, _⟩ := h; rfl) | (obtain ⟨_, _, _, rfl, _⟩ := h; rfl) | (obtain ⟨_, _, _, _, rfl, _⟩ := h; rfl) | (obtain ⟨_, _, _, _, _, rfl, _⟩ := h; rfl) | (obtain ⟨_, _, _, _, _, _, rfl, _⟩ := h; rfl) | (obtain ⟨_, _, _, _, _, _, _, rfl, _⟩ := h; rfl) | (obtain ⟨_, _, _, _, _, _, _, _, rfl, _⟩ := h; rfl) | (obtain ⟨_, _, _, _, _, _, _, _, _, rfl, _⟩ := h; rfl) | (obtain ⟨_, _, _, _, _, _, _, _, _, _, rfl, _⟩ := h; rfl) | (obtain ⟨_, _, _, _, _, _, _, _, _, _, _, rfl, _⟩ := h; rfl) | (obtain ⟨_, _, _, _, _, _, _, _, _, _, _, _, rfl, _⟩ := h; rfl)
  · refine ⟨_, (pss_cons (ps_for PassesOwn.never rfl (pi_list (pv 0)) (pg_name (i := 1) sc__are_four_numbers.nd rfl (by first | exact Or.inl rfl | exact Or.inr rfl))
      (pss_one (ps_if (pt_not (pt_val (pe_c (ok__is_number T) hr (by decide) (by rfl) pass0 (pa_cons (pv 1) pa_nil))))
      (pss_one (ps_ret pe_bl))
      pss_nil)))
      (pss_one (ps_ret (pe_cmpR (op_eq) (pe_callB call_len_seq (by rfl) T.b_len (by decide +kernel) (pa_cons (pv 0) pa_nil)) pe_int (nomark _))))), ?_⟩
    obtain ⟨p, xs, rfl, hp, hx, hQ⟩ := h
    refine ⟨_, rfl, p, rfl, ⟨_, hp⟩, for_list (K := K) (a := p) (xs := xs.map V.str) (fun i σ H1 => ∃ sv, σ = [some (.ref p), sv] ∧ H1 = H ∧ ((xs.take i).map tl).all numB = true) ⟨none, rfl, rfl, by simp⟩ (fun i σ H1 _ ⟨_, _, e, _⟩ => by rw [e]; exact hp) ?_ ?_⟩
    · rintro i v σ H1 hi ⟨sv, rfl, rfl, ha⟩
      obtain ⟨x, hxi, rfl⟩ := strAt hi
      refine ⟨_, rfl, x, rfl, hx x (List.mem_of_getElem? hxi), _, rfl, ?_⟩
      cases hl : numB (tl x) with
      | true => exact iteF ⟨_, rfl, rfl, by rw [allS_at hxi, ha, hl]; rfl⟩
      | false =>
        have e : (xs.map tl).all numB = false := by
          rw [List.all_eq_false]
          exact ⟨tl x, List.mem_map.mpr ⟨x, List.mem_of_getElem? hxi, rfl⟩, by rw [hl]; exact Bool.false_ne_true⟩
        rw [e, Bool.false_and] at hQ
        exact iteT hQ
    · rintro σ H1 ⟨sv, rfl, rfl, ha⟩
      rw [List.length_map, List.take_length] at ha
      rw [ha, Bool.true_and] at hQ
      refine ⟨_, rfl, p, _, rfl, .inl hp, rfl, ?_⟩
      have e : decide (V.int ((xs.map V.str).length : Nat) = V.int 4) = decide (xs.length = 4) := by
        rw [dec_int, Bool.eq_iff_iff, beq_iff_eq, decide_eq_true_eq, List.length_map]; omega
      rw [e]
      exact hQ
theorem ok_is_host (T : Txt K mg) : Cal P w K mg base CX0 5 "is_host" ["value"] (sp_is_host K) := by
  refine T.d_is_host.ok0 sc_is_host (fun vs H Q E h => ?_) (fun f cdv A outer s H vs Q E hr h => ?_)
  · first | (obtain ⟨_, rfl, _⟩ := h; rfl) | (obtain ⟨_, _, rfl, _⟩ := h; rfl) | (obtain ⟨_, _, _, rfl, _⟩ := h; rfl) | (obtain ⟨_, _, _, _, rfl, _⟩ := h; rfl) | (obtain ⟨_, _, _, _, _, rfl, _⟩ := h; rfl) | (obtain ⟨_, _, _, _, _, _, rfl, _⟩ := h; rfl) | (obtain ⟨_, _, _, _, _, _, _, rfl, _⟩ := h; rfl) | (obtain ⟨_, _, _, _, _, _, _, _, rfl, _⟩ := h; rfl) | (obtain ⟨_, _, _, _, _, _, _, _, _, rfl, _⟩ := h; rfl) | (obtain ⟨_, _, _, _, _, _, _, _, _, _, rfl, _⟩ := h; rfl) | (obtain ⟨_, _, _, _, _, _, _, _, _, _, _, rfl, _⟩ := h; rfl) | (obtain ⟨_, _, _, _, _, _, _, _, _, _, _, _, rfl, _⟩ := h; rfl)
  · refine ⟨_, (pss_cons (ps_if (PW.pt (pw_or (pt_not (pt_val (pe_callB call_isi (by rfl) T.b_isinstance (by decide +kernel) (pa_cons (pv 0) (pa_cons (pe_bltn (v := .ty "str") (by rfl) T.b_str (by decide +kernel) rfl) pa_nil))))) (pw_or1 (pt_cmpR (op_gt) (pe_callB call_len_str (by rfl) T.b_len (by decide +kernel) (pa_cons (pv 0) pa_nil)) (pe_gc (by rfl) T.c_MOST_OF_HOST) (nomark _)))))
      (pss_one (ps_ret pe_bl))
      pss_nil)
      (pss_cons (ps_set (i := 1) sc_is_host.nd rfl (by first | exact Or.inl rfl | exact Or.inr rfl) (pe_split (pv 0) pe_str))
      (pss_cons (ps_if (PW.pt (pw_or (pt_cmpR (op_gt) (pe_callB call_len_seq (by rfl) T.b_len (by decide +kernel) (pa_cons (pv 1) pa_nil)) (pe_gc (by rfl) T.c_MOST_LABELS) (nomark _)) (pw_or1 (pt_not (pt_val (pe_c (ok_are_labels T) hr (by decide) (by rfl) pass0 (pa_cons (pv 1) pa_nil)))))))
      (pss_one (ps_ret pe_bl))
      pss_nil)
      (pss_one (ps_ret (pe_or (pe_not (pe_c (ok_is_digits T) hr (by decide) (by rfl) pass0 (pa_cons (pe_ix ix_list (pv 1) (pe_un un_neg pe_int) (fun _ _ => rfl)) pa_nil))) (pe_one (pe_c (ok__are_four_numbers T) hr (by decide) (by rfl) pass0 (pa_cons (pv 1) pa_nil))))))))), ?_⟩
    obtain ⟨v, b, rfl, hv, hQ⟩ := h
    rcases hv with ⟨x, rfl, hx, rfl⟩ | ⟨t, ht, hk, rfl⟩
    · refine ⟨_, rfl, _, _, _, _, true, rfl, .ty _, .base (.str x), kit_str K, _, rfl, iteF ?_⟩
      refine ⟨_, rfl, x, rfl, Nat.le_trans hx (by decide), _, _, rfl, rfl, _, rfl, iteB (fun h1 => ?_) (fun h1 => ?_)⟩
      · have h1 : (100 : Int) < (x.length : Int) := of_decide_eq_true h1
        have e : hostB (tl x) = false := by
          unfold hostB
          rw [decide_eq_false (by rw [len_tl] at h1; omega), Bool.false_and]
        rw [e] at hQ
        exact hQ _ (Same.refl _)
      have h1 : ¬ (100 : Int) < (x.length : Int) := of_decide_eq_false h1
      have hl : (tl x).length ≤ 100 := by rw [len_tl] at h1; omega
      have hl2 : x.length ≤ 100 := by rw [len_tl]; exact hl
      unfold hostB at hQ
      rw [decide_eq_true hl, Bool.true_and] at hQ
      refine ⟨_, rfl, ⟨_, rfl⟩, _, _, rfl, rfl, by decide +kernel, Nat.le_trans (by omega : _ ≤ 10000) (by decide), fun p hp => ?_⟩
      have e1 := split_sp1 x (c := 46) (by decide)
      have ml : ∀ p ∈ Txt.split x ⟨#[46]⟩, p.length ≤ x.length := fun p hp => split_mem_len (c := 46) (by decide) hp
      rw [← dot_eq] at e1 ml
      rw [← e1] at hQ
      have hne : Txt.split x ("." : Str) ≠ [] := fun e => by rw [e] at e1; exact sp1_ne _ _ e1.symm
      generalize Txt.split x ("." : Str) = P at *
      obtain ⟨P0, z, eP⟩ : ∃ P0 z, P = P0 ++ [z] := ⟨P.dropLast, P.getLast hne, (List.dropLast_concat_getLast hne).symm⟩
      have s1 := Same.new (o := HO.lst (P.map V.str)) hp
      have m1 : (upd H p (.lst (P.map V.str))) p = some (.lst (P.map V.str)) := upd_same
      generalize upd H p (.lst (P.map V.str)) = H1 at s1 m1 ⊢
      unfold hostL at hQ
      refine ⟨_, rfl, p, _, rfl, .inl (SqL.of m1), _, _, rfl, rfl, _, rfl, iteB (fun h2 => ?_) (fun h2 => ?_)⟩
      · have h2 : (10 : Int) < ((P.map V.str).length : Int) := of_decide_eq_true h2
        rw [List.length_map] at h2
        rw [decide_eq_false (by rw [List.length_map]; omega), Bool.false_and] at hQ
        exact hQ _ s1
      have h2 : ¬ (10 : Int) < ((P.map V.str).length : Int) := of_decide_eq_false h2
      rw [List.length_map] at h2
      rw [decide_eq_true (by rw [List.length_map]; omega), Bool.true_and] at hQ
      refine ⟨_, rfl, p, P, rfl, SqL.of m1, fun y hy => Nat.le_trans (ml y hy) (by omega), _, rfl, ?_⟩
      cases h3 : (P.map tl).all labB with
      | false =>
        rw [h3, Bool.false_and] at hQ
        exact iteT (hQ _ s1)
      | true =>
        rw [h3, Bool.true_and, lastL_map eP] at hQ
        refine iteF ?_
        have ha : atI (P.map V.str) (-1) = some (.str z) := by rw [eP, List.map_append]; exact atI_last _ _
        refine ⟨_, rfl, _, rfl, p, _, _, _, rfl, rfl, SqL.of m1, ha, z, rfl, Nat.le_trans (ml z (by rw [eP]; simp)) (by omega), _, rfl, _, rfl, ?_⟩
        cases h4 : digB (tl z) with
        | false =>
          rw [h4] at hQ
          exact iteT (hQ _ s1)
        | true =>
          rw [h4] at hQ
          refine iteF ⟨_, rfl, p, P, rfl, SqL.of m1, fun y hy => Nat.le_trans (ml y hy) (by omega), ?_⟩
          rw [List.length_map] at hQ
          exact hQ _ s1
    · refine ⟨_, rfl, _, _, _, _, false, rfl, .ty _, ht, hk, _, rfl, iteT ?_⟩
      exact hQ _ (Same.refl _)
theorem ok_is_address_host (T : Txt K mg) : Cal P w K mg base CX0 6 "is_address_host" ["value"] (sp_is_address_host K) := by
  refine T.d_is_address_host.ok0 sc_is_address_host (fun vs H Q E h => ?_) (fun f cdv A outer s H vs Q E hr h => ?_)
  · first | (obtain ⟨_, rfl, _⟩ := h; rfl) | (obtain ⟨_, _, rfl, _⟩ := h; rfl) | (obtain ⟨_, _, _, rfl, _⟩ := h; rfl) | (obtain ⟨_, _, _, _, rfl, _⟩ := h; rfl) | (obtain ⟨_, _, _, _, _, rfl, _⟩ := h; rfl) | (obtain ⟨_, _, _, _, _, _, rfl, _⟩ := h; rfl) | (obtain ⟨_, _, _, _, _, _, _, rfl, _⟩ := h; rfl) | (obtain ⟨_, _, _, _, _, _, _, _, rfl, _⟩ := h; rfl) | (obtain ⟨_, _, _, _, _, _, _, _, _, rfl, _⟩ := h; rfl) | (obtain ⟨_, _, _, _, _, _, _, _, _, _, rfl, _⟩ := h; rfl) | (obtain ⟨_, _, _, _, _, _, _, _, _, _, _, rfl, _⟩ := h; rfl) | (obtain ⟨_, _, _, _, _, _, _, _, _, _, _, _, rfl, _⟩ := h; rfl)
  · refine ⟨_, (pss_one (ps_ret (pe_and (pe_c (ok_is_host T) hr (by decide) (by rfl) pass0 (pa_cons (pv 0) pa_nil)) (pe_one (pe_c (ok_is_digits T) hr (by decide) (by rfl) pass0 (pa_cons (pe_ix ix_list (pe_split (pv 0) pe_str) (pe_un un_neg pe_int) (fun _ _ => rfl)) pa_nil)))))), ?_⟩
    obtain ⟨v, b, rfl, hv, hQ⟩ := h
    rcases hv with ⟨x, rfl, hx, rfl⟩ | ⟨t, ht, hk, rfl⟩
    · refine ⟨_, rfl, .str x, _, rfl, .inl ⟨x, rfl, hx, rfl⟩, fun H1 s1 => ⟨_, rfl, ?_⟩⟩
      unfold addrB at hQ
      cases h1 : hostB (tl x) with
      | false =>
        rw [h1, Bool.false_and] at hQ
        exact iteF (hQ _ s1)
      | true =>
        rw [h1, Bool.true_and] at hQ
        have hl := hostB_len h1
        refine iteT ⟨_, rfl, ⟨_, rfl⟩, _, _, rfl, rfl, by decide +kernel, Nat.le_trans (by omega : _ ≤ 10000) (by decide), fun p hp => ?_⟩
        have e1 := split_sp1 x (c := 46) (by decide)
        rw [← dot_eq] at e1
        rw [← e1] at hQ
        have hne : Txt.split x ("." : Str) ≠ [] := fun e => by rw [e] at e1; exact sp1_ne _ _ e1.symm
        generalize ePx : Txt.split x ("." : Str) = P at *
        obtain ⟨P0, z, eP⟩ : ∃ P0 z, P = P0 ++ [z] := ⟨P.dropLast, P.getLast hne, (List.dropLast_concat_getLast hne).symm⟩
        rw [eP] at ePx
        have s2 := Same.new (o := HO.lst (P.map V.str)) hp
        rw [lastL_map eP] at hQ
        have hz : z.length ≤ 1000000 := Nat.le_trans (split_mem_len (x := x) (c := 46) (by decide) (by rw [← dot_eq, ePx]; simp)) hx
        have ha : atI (P.map V.str) (-1) = some (.str z) := by rw [eP, List.map_append]; exact atI_last _ _
        exact ⟨_, rfl, p, _, _, _, rfl, rfl, SqL.of upd_same, ha, z, rfl, hz, hQ _ (s1.trans s2)⟩
    · refine ⟨_, rfl, v, false, rfl, .inr ⟨t, ht, hk, rfl⟩, fun H1 s1 => ⟨_, rfl, iteF ?_⟩⟩
      exact hQ _ s1
theorem ok__last_labels (T : Txt K mg) : Cal P w K mg base CX0 1 "_last_labels" ["host", "many"] sp__last_labels := by
  refine T.d__last_labels.ok0 sc__last_labels (fun vs H Q E h => ?_) (fun f cdv A outer s H vs Q E hr h => ?_)
  · first | (obtain ⟨_, rfl, _⟩ := h; rfl) | (obtain ⟨_, _, rfl, _⟩ := h; rfl) | (obtain ⟨_, _, _, rfl, _⟩ := h; rfl) | (obtain ⟨_, _, _, _, rfl, _⟩ := h; rfl) | (obtain ⟨_, _, _, _, _, rfl, _⟩ := h; rfl) | (obtain ⟨_, _, _, _, _, _, rfl, _⟩ := h; rfl) | (obtain ⟨_, _, _, _, _, _, _, rfl, _⟩ := h; rfl) | (obtain ⟨_, _, _, _, _, _, _, _, rfl, _⟩ := h; rfl) | (obtain ⟨_, _, _, _, _, _, _, _, _, rfl, _⟩ := h; rfl) | (obtain ⟨_, _, _, _, _, _, _, _, _, _, rfl, _⟩ := h; rfl) | (obtain ⟨_, _, _, _, _, _, _, _, _, _, _, rfl, _⟩ := h; rfl) | (obtain ⟨_, _, _, _, _, _, _, _, _, _, _, _, rfl, _⟩ := h; rfl)
  · refine ⟨_, (pss_one (ps_ret (pe_join pe_str (pe_slice sl_list (pe_split (pv 0) pe_str) (po_some (pe_un un_neg (pv 1))) po_none)))), ?_⟩
    obtain ⟨x, n, rfl, hx, hn, hn2, hQ⟩ := h
    refine ⟨⟨_, rfl⟩, _, rfl, ⟨_, rfl⟩, _, _, rfl, rfl, by decide +kernel, Nat.le_trans (by omega : _ ≤ 100000) (by decide), fun p hp => ?_⟩
    have s1 := Same.new (o := HO.lst ((Txt.split x ("." : Str)).map V.str)) hp
    have hm : upd H p (.lst ((Txt.split x ("." : Str)).map V.str)) p = some (.lst ((Txt.split x ("." : Str)).map V.str)) := upd_same
    generalize upd H p (.lst ((Txt.split x ("." : Str)).map V.str)) = H1 at s1 hm ⊢
    refine ⟨_, rfl, _, rfl, _, rfl, p, _, rfl, SqL.of hm, fun p2 hp2 => ?_⟩
    rw [cutV_last _ hn, show lastN n ((Txt.split x ("." : Str)).map V.str) = (lastN n (Txt.split x ("." : Str))).map V.str by unfold lastN; rw [List.length_map, List.map_drop]]
    have es := split_sp1 x (c := 46) (by decide)
    rw [← dot_eq] at es
    have hb : ∀ z ∈ lastN n (Txt.split x ("." : Str)), z.length ≤ 1000 := fun z hz => by
      have := lastN_mem hz
      rw [dot_eq] at this
      exact Nat.le_trans (split_mem_len (by decide) this) hx
    have hl : (lastN n (Txt.split x ("." : Str))).length ≤ 1001 := by
      have h1 := split_length x (c := 46) (by decide)
      rw [← dot_eq] at h1
      rw [lastN_len]
      omega
    have hs := sum_map_le _ hb
    have hd : ("." : Str).length = 1 := by decide +kernel
    refine ⟨_, p2, _, rfl, rfl, .inl (SqL.of upd_same), by rw [hd]; exact join_fits hs hl, ?_⟩
    have et : tl (Txt.join ("." : Str) (lastN n (Txt.split x ("." : Str)))) = joinL [46] (lastN n (sp1 46 (tl x))) := by
      rw [join_tl, tl_dot, ← es]
      unfold lastN
      rw [List.length_map, List.map_drop]
    refine hQ _ _ (s1.trans (Same.new hp2)) et ?_
    rw [len_tl, et, len_tl]
    have := joinL_drop (c := 46) (sp1 46 (tl x)) ((sp1 46 (tl x)).length - n)
    rw [joinL_sp1] at this
    exact this
theorem ok__size (T : Txt K mg) : Cal P w K mg base CX0 1 "_size" ["text"] sp__size := by
  refine T.d__size.ok0 sc__size (fun vs H Q E h => ?_) (fun f cdv A outer s H vs Q E hr h => ?_)
  · first | (obtain ⟨_, rfl, _⟩ := h; rfl) | (obtain ⟨_, _, rfl, _⟩ := h; rfl) | (obtain ⟨_, _, _, rfl, _⟩ := h; rfl) | (obtain ⟨_, _, _, _, rfl, _⟩ := h; rfl) | (obtain ⟨_, _, _, _, _, rfl, _⟩ := h; rfl) | (obtain ⟨_, _, _, _, _, _, rfl, _⟩ := h; rfl) | (obtain ⟨_, _, _, _, _, _, _, rfl, _⟩ := h; rfl) | (obtain ⟨_, _, _, _, _, _, _, _, rfl, _⟩ := h; rfl) | (obtain ⟨_, _, _, _, _, _, _, _, _, rfl, _⟩ := h; rfl) | (obtain ⟨_, _, _, _, _, _, _, _, _, _, rfl, _⟩ := h; rfl) | (obtain ⟨_, _, _, _, _, _, _, _, _, _, _, rfl, _⟩ := h; rfl) | (obtain ⟨_, _, _, _, _, _, _, _, _, _, _, _, rfl, _⟩ := h; rfl)
  · refine ⟨_, (pss_one (ps_ret (pe_op op_add (pe_m1 PySem.F.slot_str_count PySem.F.type_str_count mt_count (pv 0) pe_str) pe_int))), ?_⟩
    obtain ⟨x, rfl, hQ⟩ := h
    refine ⟨_, rfl, ⟨_, rfl⟩, _, _, rfl, rfl, ?_⟩
    rw [← count_sp1, ← dot_eq] at hQ
    exact ⟨_, _, rfl, rfl, hQ⟩
theorem ok__matches (T : Txt K mg) : Cal P w K mg base CX0 2 "_matches" ["pattern", "host"] sp__matches := by
  refine T.d__matches.ok0 sc__matches (fun vs H Q E h => ?_) (fun f cdv A outer s H vs Q E hr h => ?_)
  · first | (obtain ⟨_, rfl, _⟩ := h; rfl) | (obtain ⟨_, _, rfl, _⟩ := h; rfl) | (obtain ⟨_, _, _, rfl, _⟩ := h; rfl) | (obtain ⟨_, _, _, _, rfl, _⟩ := h; rfl) | (obtain ⟨_, _, _, _, _, rfl, _⟩ := h; rfl) | (obtain ⟨_, _, _, _, _, _, rfl, _⟩ := h; rfl) | (obtain ⟨_, _, _, _, _, _, _, rfl, _⟩ := h; rfl) | (obtain ⟨_, _, _, _, _, _, _, _, rfl, _⟩ := h; rfl) | (obtain ⟨_, _, _, _, _, _, _, _, _, rfl, _⟩ := h; rfl) | (obtain ⟨_, _, _, _, _, _, _, _, _, _, rfl, _⟩ := h; rfl) | (obtain ⟨_, _, _, _, _, _, _, _, _, _, _, rfl, _⟩ := h; rfl) | (obtain ⟨_, _, _, _, _, _, _, _, _, _, _, _, rfl, _⟩ := h; rfl)
  · refine ⟨_, (pss_cons (ps_if (pt_cmpR (op_gt) (pe_c (ok__size T) hr (by decide) (by rfl) pass0 (pa_cons (pv 0) pa_nil)) (pe_c (ok__size T) hr (by decide) (by rfl) pass0 (pa_cons (pv 1) pa_nil)) (nomark _))
      (pss_one (ps_ret pe_bl))
      pss_nil)
      (pss_cons (ps_set (i := 2) sc__matches.nd rfl (by first | exact Or.inl rfl | exact Or.inr rfl) (pe_c (ok__last_labels T) hr (by decide) (by rfl) pass0 (pa_cons (pv 1) (pa_cons (pe_c (ok__size T) hr (by decide) (by rfl) pass0 (pa_cons (pv 0) pa_nil)) pa_nil))))
      (pss_cons (ps_if (pt_val (pe_m1 PySem.F.slot_str_startswith PySem.F.type_str_startswith mt_startswith (pv 0) (pe_gc (by rfl) T.c_ANY)))
      (pss_one (ps_ret (pe_cmpR (op_eq) (pe_ix ix_tup (pe_partition (pv 2) pe_str) pe_int (fun _ _ => rfl)) (pe_ix ix_tup (pe_partition (pv 0) pe_str) pe_int (fun _ _ => rfl)) (nomark _))))
      pss_nil)
      (pss_one (ps_ret (pe_cmpR (op_eq) (pv 2) (pv 0) (nomark _))))))), ?_⟩
    obtain ⟨x, y, rfl, hx, hy, hs, hQ⟩ := h
    unfold mtL at hQ
    refine ⟨_, rfl, x, rfl, _, rfl, y, rfl, _, _, rfl, rfl, _, rfl, iteB (fun h1 => ?_) (fun h1 => ?_)⟩
    · have h1 : ((sp1 46 (tl y)).length : Int) < ((sp1 46 (tl x)).length : Int) := of_decide_eq_true h1
      rw [decide_eq_false (by omega : ¬ (sp1 46 (tl x)).length ≤ (sp1 46 (tl y)).length)] at hQ
      exact hQ _ (Same.refl _)
    have h1 : ¬ ((sp1 46 (tl y)).length : Int) < ((sp1 46 (tl x)).length : Int) := of_decide_eq_false h1
    rw [decide_eq_true (by omega : (sp1 46 (tl x)).length ≤ (sp1 46 (tl y)).length), Bool.true_and] at hQ
    have lx := sp1_length (c := 46) (tl x)
    have px : 1 ≤ (sp1 46 (tl x)).length := List.length_pos_iff.mpr (sp1_ne _ _)
    rw [← len_tl] at lx
    refine ⟨_, rfl, _, rfl, x, rfl, y, _, rfl, hy, px, by omega, fun e H1 s1 ee le => ?_⟩
    refine ⟨_, rfl, ⟨_, rfl⟩, _, _, rfl, rfl, _, rfl, ?_⟩
    rw [startswith_tl, tl_star]
    have hmem : ∀ l ∈ sp1 46 (tl y), 46 ∉ l := sp1_free 46 (tl y)
    by_cases g : (tl x).head? = some 42
    · obtain ⟨u, eu⟩ := hs g
      have e1 : [42].isPrefixOf (tl x) = true := by rw [eu]; simp [List.isPrefixOf]
      have eP : sp1 46 (tl x) = [42] :: sp1 46 u := by
        rw [eu]
        show sp1 46 ([42] ++ 46 :: u) = _
        rw [sp1_app]
        rfl
      rw [if_pos (by rw [eP]; rfl)] at hQ
      rw [e1]
      refine iteT ?_
      have hn : 2 ≤ (sp1 46 (tl x)).length := by
        rw [eP, List.length_cons]
        have := List.length_pos_iff.mpr (sp1_ne 46 u)
        omega
      obtain ⟨a, M, eM⟩ : ∃ a M, lastN (sp1 46 (tl x)).length (sp1 46 (tl y)) = a :: M := List.exists_cons_of_ne_nil fun q => by
        have := lastN_len (sp1 46 (tl x)).length (sp1 46 (tl y))
        rw [q, List.length_nil] at this
        omega
      have hM : M ≠ [] := fun q => by
        have := lastN_len (sp1 46 (tl x)).length (sp1 46 (tl y))
        rw [eM, q, List.length_cons, List.length_nil] at this
        omega
      have ha : 46 ∉ a := hmem a (lastN_mem (n := (sp1 46 (tl x)).length) (by rw [eM]; exact List.mem_cons_self ..))
      have hMf : ∀ l ∈ M, 46 ∉ l := fun l hl => hmem l (lastN_mem (n := (sp1 46 (tl x)).length) (by rw [eM]; exact List.mem_cons_of_mem _ hl))
      have e2 : tl e = a ++ 46 :: joinL [46] M := by rw [ee, eM]; exact joinL_app (L := [a]) (by simp) hM
      have b1 := partition_behind e2 ha
      have b2 : tl (Txt.partition x ⟨#[46]⟩).2.2 = u := partition_behind (a := [42]) (by rw [eu]; rfl) (by decide)
      refine ⟨_, rfl, ⟨_, rfl⟩, _, _, rfl, rfl, by decide +kernel, Nat.le_trans (by omega : _ ≤ 100000) (by decide), fun p hp => ?_⟩
      refine ⟨p, _, _, _, rfl, rfl, SqT.of upd_same, (rfl : atI _ ((2 : Nat) : Int) = _), ?_⟩
      refine ⟨_, rfl, ⟨_, rfl⟩, _, _, rfl, rfl, by decide +kernel, Nat.le_trans (by omega : _ ≤ 100000) (by decide), fun p2 hp2 => ?_⟩
      refine ⟨p2, _, _, _, rfl, rfl, SqT.of upd_same, (rfl : atI _ ((2 : Nat) : Int) = _), rfl, ?_⟩
      have fin := hQ _ ((s1.trans (Same.new (o := HO.tup [V.str (Txt.partition e ("." : Str)).1, V.str (Txt.partition e ("." : Str)).2.1, V.str (Txt.partition e ("." : Str)).2.2]) hp)).trans (Same.new (o := HO.tup [V.str (Txt.partition x ("." : Str)).1, V.str (Txt.partition x ("." : Str)).2.1, V.str (Txt.partition x ("." : Str)).2.2]) hp2))
      have ed : decide (V.str (Txt.partition e ("." : Str)).2.2 = V.str (Txt.partition x ("." : Str)).2.2) = decide ((lastN (sp1 46 (tl x)).length (sp1 46 (tl y))).tail = (sp1 46 (tl x)).tail) := by
        rw [dot_eq, eM, eP, Bool.eq_iff_iff, decide_eq_true_eq, decide_eq_true_eq, V.str.injEq, str_eq_iff, b1, b2]
        show joinL [46] M = u ↔ M = sp1 46 u
        constructor
        · intro q; rw [← q, sp1_joinL hM hMf]
        · intro q; rw [q, joinL_sp1]
      rw [← ed] at fin
      exact fin
    · have e1 : [42].isPrefixOf (tl x) = false := by
        cases hc : tl x with
        | nil => rfl
        | cons a r =>
          rw [hc] at g
          simp only [List.head?_cons, Option.some.injEq] at g
          simp [List.isPrefixOf, Ne.symm g]
      have e2 : ¬ (sp1 46 (tl x)).head? = some [42] := fun e => by
        have := joinL_sp1 46 (tl x)
        obtain ⟨p, r, ep⟩ := sp1_cons 46 (tl x)
        rw [ep] at e this
        simp only [List.head?_cons, Option.some.injEq] at e
        subst e
        cases r with
        | nil => rw [← this] at g; exact g rfl
        | cons q r => rw [← this] at g; exact g rfl
      rw [if_neg e2] at hQ
      rw [e1]
      refine iteF ?_
      refine ⟨_, rfl, _, rfl, rfl, ?_⟩
      have ed : decide (V.str e = V.str x) = decide (lastN (sp1 46 (tl x)).length (sp1 46 (tl y)) = sp1 46 (tl x)) := by
        have hne : lastN (sp1 46 (tl x)).length (sp1 46 (tl y)) ≠ [] := fun q => by
          have := lastN_len (sp1 46 (tl x)).length (sp1 46 (tl y))
          rw [q, List.length_nil] at this
          omega
        rw [Bool.eq_iff_iff, decide_eq_true_eq, decide_eq_true_eq, V.str.injEq, str_eq_iff, ee]
        constructor
        · intro q; have h := sp1_joinL (c := 46) hne fun l hl => hmem l (lastN_mem hl); rw [q] at h; exact h.symm
        · intro q; rw [q, joinL_sp1]
      rw [← ed] at hQ
      exact hQ _ s1
theorem ok__suffix_size (T : Txt K mg) : Cal P w K mg base CX0 3 "_suffix_size" ["rules", "host"] (sp__suffix_size K) := by
  refine T.d__suffix_size.ok0 sc__suffix_size (fun vs H Q E h => ?_) (fun f cdv A outer s H vs Q E hr h => ?_)
  · first | (obtain ⟨_, rfl, _⟩ := h; rfl) | (obtain ⟨_, _, rfl, _⟩ := h; rfl) | (obtain ⟨_, _, _, rfl, _⟩ := h; rfl) | (obtain ⟨_, _, _, _, rfl, _⟩ := h; rfl) | (obtain ⟨_, _, _, _, _, rfl, _⟩ := h; rfl) | (obtain ⟨_, _, _, _, _, _, rfl, _⟩ := h; rfl) | (obtain ⟨_, _, _, _, _, _, _, rfl, _⟩ := h; rfl) | (obtain ⟨_, _, _, _, _, _, _, _, rfl, _⟩ := h; rfl) | (obtain ⟨_, _, _, _, _, _, _, _, _, rfl, _⟩ := h; rfl) | (obtain ⟨_, _, _, _, _, _, _, _, _, _, rfl, _⟩ := h; rfl) | (obtain ⟨_, _, _, _, _, _, _, _, _, _, _, rfl, _⟩ := h; rfl) | (obtain ⟨_, _, _, _, _, _, _, _, _, _, _, _, rfl, _⟩ := h; rfl)
  · refine ⟨_, (pss_cons (ps_set (i := 2) sc__suffix_size.nd rfl (by first | exact Or.inl rfl | exact Or.inr rfl) pe_int)
      (pss_cons (ps_set (i := 3) sc__suffix_size.nd rfl (by first | exact Or.inl rfl | exact Or.inr rfl) pe_int)
      (pss_cons (ps_for PassesOwn.never rfl (pi_tup (pv 0)) (pg_name (i := 4) sc__suffix_size.nd rfl (by first | exact Or.inl rfl | exact Or.inr rfl))
      (pss_one (ps_if (pt_val (pe_m1 PySem.F.slot_str_startswith PySem.F.type_str_startswith mt_startswith (pv 4) (pe_gc (by rfl) T.c_EXCEPTION)))
      (pss_one (ps_if (pt_val (pe_c (ok__matches T) hr (by decide) (by rfl) pass0 (pa_cons (pe_slice sl_str (pv 4) (po_some pe_int) po_none) (pa_cons (pv 1) pa_nil))))
      (pss_one (ps_set (i := 3) sc__suffix_size.nd rfl (by first | exact Or.inl rfl | exact Or.inr rfl) (pe_callB (call_max2 rfl) (by rfl) T.b_max (by decide +kernel) (pa_cons (pv 3) (pa_cons (pe_c (ok__size T) hr (by decide) (by rfl) pass0 (pa_cons (pv 4) pa_nil)) pa_nil)))))
      pss_nil))
      (pss_one (ps_if (pt_val (pe_c (ok__matches T) hr (by decide) (by rfl) pass0 (pa_cons (pv 4) (pa_cons (pv 1) pa_nil))))
      (pss_one (ps_set (i := 2) sc__suffix_size.nd rfl (by first | exact Or.inl rfl | exact Or.inr rfl) (pe_callB (call_max2 rfl) (by rfl) T.b_max (by decide +kernel) (pa_cons (pv 2) (pa_cons (pe_c (ok__size T) hr (by decide) (by rfl) pass0 (pa_cons (pv 4) pa_nil)) pa_nil)))))
      pss_nil)))))
      (pss_cons (ps_if (pt_cmpR (op_gt) (pv 3) pe_int (nomark _))
      (pss_one (ps_ret (pe_op op_sub (pv 3) pe_int)))
      pss_nil)
      (pss_one (ps_ret (pv 2))))))), ?_⟩
    obtain ⟨p, rs, y, rfl, hp, hr, hy, hQ⟩ := h
    let w := sp1 46 (tl y)
    refine ⟨_, rfl, _, rfl, ⟨_, hp⟩, for_tup (K := K) (a := p) (xs := rs.map V.str) (fun i σ H1 => ∃ sv, σ = [some (.ref p), some (.str y), some (.int (bigN 1 (fun t => !excT t && mtL (patL t) w) ((rs.take i).map tl) : Nat)), some (.int (bigN 0 (fun t => excT t && mtL (patL t) w) ((rs.take i).map tl) : Nat)), sv] ∧ Same H H1) ⟨none, rfl, Same.refl _⟩ (fun i σ H1 _ ⟨_, _, s⟩ => Same.seqT s hp) ?_ ?_⟩
    · rintro i v σ H1 hi ⟨sv, rfl, s1⟩
      obtain ⟨r, hri, rfl⟩ := strAt hi
      obtain ⟨hr1, hr2⟩ := hr r (List.mem_of_getElem? hri)
      rw [big_take hri, big_take hri]
      refine ⟨_, rfl, ⟨_, rfl⟩, _, _, rfl, rfl, _, rfl, ?_⟩
      rw [bang_exc]
      cases hx : excT (tl r) with
      | true =>
        refine iteT ⟨_, rfl, _, rfl, _, rfl, ?_⟩
        have ep : tl (cutS r (some 1) none) = patT (tl r) := by
          rw [cutS_from r (by decide)]
          unfold patT
          rw [if_pos hx, ← List.drop_one]
          rfl
        have el : (cutS r (some 1) none).length ≤ 1000 := by
          rw [len_tl, cutS_from r (by decide), List.length_drop, ← len_tl]
          omega
        refine ⟨Nat.le_trans hr2 (by decide), _, rfl, _, y, rfl, Nat.le_trans el (by decide), hy, fun hs => absurd hs (by rw [ep]; exact rule_star2 hr1 hx), fun H2 s2 => ⟨_, rfl, ?_⟩⟩
        rw [ep]
        simp only [Bool.not_true, Bool.true_and, Bool.false_and, Bool.false_eq_true, if_false]
        have e0 : mtL (sp1 46 (patT (tl r))) (sp1 46 (tl y)) = mtL (patL (tl r)) w := rfl
        rw [e0]
        cases hm : mtL (patL (tl r)) w with
        | true =>
          refine iteT ⟨_, rfl, _, rfl, r, rfl, _, _, rfl, ?_⟩
          rw [patL_len, max_nat]
          exact ⟨_, rfl, s1.trans s2⟩
        | false => exact iteF ⟨_, rfl, s1.trans s2⟩
      | false =>
        refine iteF ⟨_, rfl, _, rfl, r, y, rfl, by omega, hy, fun hs => rule_star hr1 hx hs, fun H2 s2 => ⟨_, rfl, ?_⟩⟩
        have e1 : sp1 46 (tl r) = patL (tl r) := by unfold patL patT; rw [hx]; rfl
        rw [e1]
        simp only [Bool.not_false, Bool.true_and, Bool.false_and, Bool.false_eq_true, if_false]
        cases hm : mtL (patL (tl r)) w with
        | true =>
          refine iteT ⟨_, rfl, _, rfl, r, rfl, _, _, rfl, ?_⟩
          rw [e1, max_nat]
          exact ⟨_, rfl, s1.trans s2⟩
        | false => exact iteF ⟨_, rfl, s1.trans s2⟩
    · rintro σ H1 ⟨sv, rfl, s1⟩
      rw [List.length_map, List.take_length]
      refine ⟨_, rfl, _, _, rfl, rfl, _, rfl, iteB (fun h0 => ?_) (fun h0 => ?_)⟩
      · have h0 : (0 : Int) < ((excN (rs.map tl) w : Nat) : Int) := of_decide_eq_true h0
        refine ⟨_, rfl, _, _, rfl, rfl, ?_⟩
        have := hQ _ s1
        unfold sufN at this
        rw [if_pos (by show 0 < excN (rs.map tl) w; omega)] at this
        rw [show ((excN (rs.map tl) (sp1 46 (tl y)) - 1 : Nat) : Int) = ((excN (rs.map tl) w : Nat) : Int) - 1 by show ((excN (rs.map tl) w - 1 : Nat) : Int) = _; omega] at this
        exact this
      · have h0 : ¬ (0 : Int) < ((excN (rs.map tl) w : Nat) : Int) := of_decide_eq_false h0
        have := hQ _ s1
        unfold sufN at this
        rw [if_neg (by show ¬ 0 < excN (rs.map tl) w; omega)] at this
        exact ⟨_, rfl, this⟩
theorem ok_known_suffix (T : Txt K mg) : Cal P w K mg base CX0 7 "known_suffix" ["rules", "host"] (sp_known_suffix K) := by
  refine T.d_known_suffix.ok0 sc_known_suffix (fun vs H Q E h => ?_) (fun f cdv A outer s H vs Q E hr h => ?_)
  · first | (obtain ⟨_, rfl, _⟩ := h; rfl) | (obtain ⟨_, _, rfl, _⟩ := h; rfl) | (obtain ⟨_, _, _, rfl, _⟩ := h; rfl) | (obtain ⟨_, _, _, _, rfl, _⟩ := h; rfl) | (obtain ⟨_, _, _, _, _, rfl, _⟩ := h; rfl) | (obtain ⟨_, _, _, _, _, _, rfl, _⟩ := h; rfl) | (obtain ⟨_, _, _, _, _, _, _, rfl, _⟩ := h; rfl) | (obtain ⟨_, _, _, _, _, _, _, _, rfl, _⟩ := h; rfl) | (obtain ⟨_, _, _, _, _, _, _, _, _, rfl, _⟩ := h; rfl) | (obtain ⟨_, _, _, _, _, _, _, _, _, _, rfl, _⟩ := h; rfl) | (obtain ⟨_, _, _, _, _, _, _, _, _, _, _, rfl, _⟩ := h; rfl) | (obtain ⟨_, _, _, _, _, _, _, _, _, _, _, _, rfl, _⟩ := h; rfl)
  · refine ⟨_, (pss_cons (ps_if (pt_val (pe_c (ok_is_address_host T) hr (by decide) (by rfl) pass0 (pa_cons (pv 1) pa_nil)))
      (pss_one (ps_ret pe_non))
      pss_nil)
      (pss_one (ps_ret (pe_c (ok__last_labels T) hr (by decide) (by rfl) pass0 (pa_cons (pv 1) (pa_cons (pe_c (ok__suffix_size T) hr (by decide) (by rfl) pass0 (pa_cons (pv 0) (pa_cons (pv 1) pa_nil))) pa_nil)))))), ?_⟩
    obtain ⟨p, rs, y, rfl, hp, hl, hr, hh, q1, q2⟩ := h
    have hy := hostB_len hh
    refine ⟨_, rfl, .str y, _, rfl, TxV.of (by omega), fun H3 s3 => ⟨_, rfl, ?_⟩⟩
    have s4 := s3
    cases ha : addrB (tl y) with
    | true => exact iteT (q1 _ s4 ha)
    | false =>
      refine iteF ?_
      have hg := sufN_ge (rs := rs.map tl) (w := sp1 46 (tl y)) (fun t ht => by obtain ⟨r, hr2, rfl⟩ := List.mem_map.mp ht; exact (hr.2 r hr2).1) (sp1_ne _ _)
      have hl2 := sp1_length (c := 46) (tl y)
      rw [← len_tl] at hl2
      refine ⟨_, rfl, _, rfl, _, rfl, p, rs, y, rfl, Same.seqT s4 hp, hr.2, by omega, fun H5 s5 => ?_⟩
      exact ⟨y, _, rfl, by omega, hg.1, by omega, fun e H6 s6 ee _ => q2 e _ ((s4.trans s5).trans s6) ha ee⟩
theorem ok_known_family (T : Txt K mg) : Cal P w K mg base CX0 8 "known_family" ["rules", "host"] (sp_known_family K) := by
  refine T.d_known_family.ok0 sc_known_family (fun vs H Q E h => ?_) (fun f cdv A outer s H vs Q E hr h => ?_)
  · first | (obtain ⟨_, rfl, _⟩ := h; rfl) | (obtain ⟨_, _, rfl, _⟩ := h; rfl) | (obtain ⟨_, _, _, rfl, _⟩ := h; rfl) | (obtain ⟨_, _, _, _, rfl, _⟩ := h; rfl) | (obtain ⟨_, _, _, _, _, rfl, _⟩ := h; rfl) | (obtain ⟨_, _, _, _, _, _, rfl, _⟩ := h; rfl) | (obtain ⟨_, _, _, _, _, _, _, rfl, _⟩ := h; rfl) | (obtain ⟨_, _, _, _, _, _, _, _, rfl, _⟩ := h; rfl) | (obtain ⟨_, _, _, _, _, _, _, _, _, rfl, _⟩ := h; rfl) | (obtain ⟨_, _, _, _, _, _, _, _, _, _, rfl, _⟩ := h; rfl) | (obtain ⟨_, _, _, _, _, _, _, _, _, _, _, rfl, _⟩ := h; rfl) | (obtain ⟨_, _, _, _, _, _, _, _, _, _, _, _, rfl, _⟩ := h; rfl)
  · refine ⟨_, (pss_cons (ps_set (i := 2) sc_known_family.nd rfl (by first | exact Or.inl rfl | exact Or.inr rfl) (pe_c (ok_known_suffix T) hr (by decide) (by rfl) pass0 (pa_cons (pv 0) (pa_cons (pv 1) pa_nil))))
      (pss_cons (ps_if (pt_cmpR (op_isN) (pv 2) pe_non (nomark _))
      (pss_one (ps_ret (pv 1)))
      pss_nil)
      (pss_one (ps_ret (pe_c (ok__last_labels T) hr (by decide) (by rfl) pass0 (pa_cons (pv 1) (pa_cons (pe_op op_add (pe_c (ok__size T) hr (by decide) (by rfl) pass0 (pa_cons (pv 2) pa_nil)) pe_int) pa_nil))))))), ?_⟩
    obtain ⟨p, rs, y, rfl, hp, hl, hr, hh, hQ⟩ := h
    have hy := hostB_len hh
    refine ⟨_, rfl, _, rfl, p, rs, y, rfl, hp, hl, hr, hh, fun H1 s1 ha => ?_, fun e H1 s1 ha ee => ?_⟩
    · refine ⟨_, rfl, rfl, _, rfl, iteT ⟨_, rfl, hQ y _ s1 ?_⟩⟩
      unfold famT
      rw [if_pos ha]
    · have hrs : ∀ t ∈ rs.map tl, ruleB t = true := fun t ht => by obtain ⟨r, hr2, rfl⟩ := List.mem_map.mp ht; exact (hr.2 r hr2).1
      have hg := sufN_ge (rs := rs.map tl) (w := sp1 46 (tl y)) hrs (sp1_ne _ _)
      have hl2 := sp1_length (c := 46) (tl y)
      rw [← len_tl] at hl2
      have hn : lastN (sufN (rs.map tl) (sp1 46 (tl y))) (sp1 46 (tl y)) ≠ [] := fun q => by
        have := lastN_len (sufN (rs.map tl) (sp1 46 (tl y))) (sp1 46 (tl y))
        rw [q, List.length_nil] at this
        omega
      have e2 : sp1 46 (tl e) = lastN (sufN (rs.map tl) (sp1 46 (tl y))) (sp1 46 (tl y)) := by
        rw [ee]
        exact sp1_joinL hn fun l hl => sp1_free 46 (tl y) l (lastN_mem hl)
      have hlen : (sp1 46 (tl e)).length ≤ 101 := by rw [e2, lastN_len]; omega
      refine ⟨_, rfl, rfl, _, rfl, iteF ?_⟩
      refine ⟨_, rfl, _, rfl, e, rfl, _, _, rfl, rfl, y, (sp1 46 (tl e)).length + 1, rfl, by omega, by omega, by omega, fun e3 H3 s3 e4 _ => hQ e3 _ (s1.trans s3) ?_⟩
      unfold famT famL
      rw [ha, e4, e2]
      rfl
theorem ok_is_crumb (T : Txt K mg) : Cal P w K mg base (L2.CX P w) 9 "is_crumb" ["rules", "value"] (sp_is_crumb K mg) := by
  refine T.d_is_crumb.okX sc_is_crumb (fun vs H Q E h => ?_) (fun f cdv A outer s H vs Q E hr h => ?_)
  · first | (obtain ⟨_, rfl, _⟩ := h; rfl) | (obtain ⟨_, _, rfl, _⟩ := h; rfl) | (obtain ⟨_, _, _, rfl, _⟩ := h; rfl) | (obtain ⟨_, _, _, _, rfl, _⟩ := h; rfl) | (obtain ⟨_, _, _, _, _, rfl, _⟩ := h; rfl) | (obtain ⟨_, _, _, _, _, _, rfl, _⟩ := h; rfl) | (obtain ⟨_, _, _, _, _, _, _, rfl, _⟩ := h; rfl) | (obtain ⟨_, _, _, _, _, _, _, _, rfl, _⟩ := h; rfl) | (obtain ⟨_, _, _, _, _, _, _, _, _, rfl, _⟩ := h; rfl) | (obtain ⟨_, _, _, _, _, _, _, _, _, _, rfl, _⟩ := h; rfl) | (obtain ⟨_, _, _, _, _, _, _, _, _, _, _, rfl, _⟩ := h; rfl) | (obtain ⟨_, _, _, _, _, _, _, _, _, _, _, _, rfl, _⟩ := h; rfl)
  · obtain ⟨C_Crumb, o_Crumb⟩ := T.o_Crumb
    refine ⟨_, (pss_cons (ps_expr (pe_cX (ok_need_rules T) hr (by decide) (by rfl) (takes_of rfl rfl rfl rfl) (pa_cons (pv 0) pa_nil)))
      (pss_cons (ps_if (pt_not (pt_val (pe_callB call_isi (by rfl) T.b_isinstance (by decide +kernel) (pa_cons (pv 1) (pa_cons (pe_gt (by rfl) o_Crumb.g) pa_nil)))))
      (pss_one (ps_ret pe_bl))
      pss_nil)
      (Evl.pss_cut (ps_if (PW.pt (pw_and (pt_not (pt_val (pe_fld (pv 1) rfl))) (pw_and1 (pt_cmpR (op_eq) (pe_c (ok_known_suffix T) hr (by decide) (by rfl) pass0 (pa_cons (pv 0) (pa_cons (pe_fld (pv 1) rfl) pa_nil))) (pe_fld (pv 1) rfl) (nomark _)))))
      (pss_one (ps_ret pe_bl))
      pss_nil)
      (pss_cons (ps_if (pt_cmpR (op_isN) (pe_fld (pv 1) rfl) pe_non (nomark _))
      (pss_one (ps_ret pe_bl))
      pss_nil)
      (pss_cons (ps_asg (pe_fld (pv 1) rfl) (pg_tup rfl (pgs_cons (pg_name (i := 2) sc_is_crumb.nd rfl (by first | exact Or.inl rfl | exact Or.inr rfl)) (pgs_cons (pg_name (i := 3) sc_is_crumb.nd rfl (by first | exact Or.inl rfl | exact Or.inr rfl)) pgs_nil))))
      (pss_cons (ps_if (pt_cmpR (op_ne) (pe_c (ok_known_family T) hr (by decide) (by rfl) pass0 (pa_cons (pv 0) (pa_cons (pe_ix ix_tup (pv 2) pe_int (fun _ _ => rfl)) pa_nil))) (pe_ix ix_tup (pv 2) pe_int (fun _ _ => rfl)) (nomark _))
      (pss_one (ps_ret pe_bl))
      pss_nil)
      (pss_one (ps_ret (pe_or (pv 3) (pe_one (pe_cmpR (op_eq) (pe_c (ok_known_family T) hr (by decide) (by rfl) pass0 (pa_cons (pv 0) (pa_cons (pe_fld (pv 1) rfl) pa_nil))) (pe_ix ix_tup (pv 2) pe_int (fun _ _ => rfl)) (nomark _)))))))))))), ?_⟩
    obtain ⟨v, u, b, o, rfl, hv, hu, q1, q2, q3⟩ := h
    refine ⟨_, rfl, v, b, rfl, hv, fun hb H1 s1 => ?_, q1⟩
    subst hb
    try dsimp only
    rcases hu with ⟨a, c, rfl, hC, hh, rfl⟩ | ⟨⟨T1, ht, hT1⟩, rfl⟩
    rotate_left
    · refine ⟨_, rfl, _, _, _, _, false, rfl, .own C_Crumb, ty_same s1 ht, (o_Crumb.kitT hT1).1, _, rfl, iteT ?_⟩
      exact q2 rfl rfl H1 s1
    obtain ⟨C, dx, bt, ky, w, w2, hg, ma0, hsp0, _⟩ := hC
    obtain rfl : C = C_Crumb := by have := hg.symm.trans o_Crumb.g; cases this; rfl
    obtain ⟨p, rs, rfl, hp, hl, hr⟩ := hv.good
    have q3 := q3 rfl c rfl p rs rfl hp hr
    have ma := s1 _ _ ma0
    refine ⟨_, rfl, _, _, _, _, true, rfl, .own _, o_Crumb.o.ty ma, kit_self7 K _, _, rfl, iteF ?_⟩
    dsimp only [tNext]
    have key : ∀ e : Str, tl e = joinL [46] (lastN (sufN (rs.map tl) (sp1 46 (tl c.hs))) (sp1 46 (tl c.hs))) → addrB (tl c.hs) = false → sfxB rs c.hs = decide (e = c.hs) := fun e he ha => by
      unfold sfxB
      rw [ha, ← he]
      by_cases q : e = c.hs
      · rw [decide_eq_true q, q]; simp
      · rw [decide_eq_false q, decide_eq_false fun z => q (ext_tl z)]; rfl
    refine ⟨fun σ' H' => σ' = [some (.ref p), some (.ref a), none, none] ∧ Same H1 H' ∧ (c.ex || !sfxB rs c.hs) = true, ?_, ?_⟩
    · refine ⟨_, rfl, a, _, dx, _, _, rfl, ma, o_Crumb.o.cl, o_Crumb.na.get (by simp), rfl, _, rfl, ?_⟩
      cases hx : c.ex with
      | true => exact ite_n rfl (ite_n rfl ⟨rfl, .refl _, rfl⟩)
      | false =>
        refine ite_y rfl ?_
        refine ⟨_, rfl, _, rfl, a, _, dx, _, _, rfl, ma, o_Crumb.o.cl, o_Crumb.na.get (by simp), rfl, p, rs, c.hs, rfl, SqT.of (s1 _ _ hp), hl, hr, hh.1, fun H2 s2 hadr => ?_, fun e H2 s2 hadr he => ?_⟩
        · exact ⟨_, rfl, a, _, dx, _, _, rfl, s2 _ _ ma, o_Crumb.o.cl, o_Crumb.na.get (by simp), rfl, rfl, _, rfl, ite_n (by simp) ⟨rfl, s2, by simp [sfxB, hadr]⟩⟩
        · refine ⟨_, rfl, a, _, dx, _, _, rfl, s2 _ _ ma, o_Crumb.o.cl, o_Crumb.na.get (by simp), rfl, rfl, _, rfl, ?_⟩
          have hk := key e he hadr
          by_cases q : e = c.hs
          · refine ite_y (by simp [q]) ?_
            have := q3 H2 (s1.trans s2)
            rw [show canB rs c = false by unfold canB; rw [hx, hk, decide_eq_true q]; rfl] at this
            exact this
          · exact ite_n (by simp [q]) ⟨rfl, s2, by rw [hk, decide_eq_false q]; rfl⟩
    rintro σ H2 ⟨rfl, s2, hs⟩
    have s02 := s1.trans s2
    have ma2 := s2 _ _ ma
    refine ⟨_, rfl, a, _, dx, _, _, rfl, ma2, o_Crumb.o.cl, o_Crumb.na.get (by simp), rfl, rfl, _, rfl, ?_⟩
    cases hsp : c.sp with
    | none =>
      rw [hsp] at hsp0
      have hsp0 : w = .non := hsp0
      refine ite_y (by rw [hsp0]; simp) ?_
      have := q3 H2 s02
      rw [show canB rs c = true by unfold canB; rw [hs, hsp]; rfl] at this
      exact this
    | some x =>
      rw [hsp] at hsp0
      obtain ⟨q, z, rfl, hq0, hz0⟩ := hsp0
      have hq := s02 _ _ hq0
      have hz := s02 _ _ hz0
      refine ite_n (by simp) ?_
      dsimp only [tNext]
      refine seq_asg ?_
      refine ⟨_, rfl, a, _, dx, _, _, rfl, ma2, o_Crumb.o.cl, o_Crumb.na.get (by simp), rfl, q, _, rfl, SqT.of hq, rfl, _, _, rfl, _, _, rfl, rfl, ?_⟩
      try dsimp only
      refine ⟨_, rfl, _, rfl, z, _, 1, _, rfl, rfl, SqT.of hz, rfl, p, rs, x.1.2, rfl, SqT.of (s02 _ _ hp), hl, hr, hh.2 x hsp, fun e H3 s3 he => ⟨_, rfl, z, _, 1, _, rfl, rfl, SqT.of (s3 _ _ hz), rfl, rfl, _, rfl, ?_⟩⟩
      obtain rfl : e = famS rs x.1.2 := by unfold famS; rw [← he, mkS_tl]
      by_cases f1 : famS rs x.1.2 = x.1.2
      rotate_left
      · refine ite_y (by simp [f1]) ?_
        have := q3 H3 (s02.trans s3)
        rw [show canB rs c = false by unfold canB; rw [hs, hsp]; simp [f1]] at this
        exact this
      refine ite_n (by simp [f1]) ?_
      dsimp only [tNext]
      have q4 : ∀ H', Same H H' → Q (.bl (x.2 || decide (famS rs c.hs = x.1.2))) H' := fun H' s' => by
        have := q3 H' s'
        rw [show canB rs c = (x.2 || decide (famS rs c.hs = x.1.2)) by unfold canB; rw [hs, hsp]; simp [f1]] at this
        exact this
      refine ⟨_, rfl, x.2, rfl, ?_⟩
      cases x2 : x.2 with
      | true => rw [x2] at q4; exact ite_y rfl (q4 H3 (s02.trans s3))
      | false =>
        rw [x2] at q4
        refine ite_n rfl ⟨_, rfl, _, rfl, a, _, dx, _, _, rfl, s3 _ _ ma2, o_Crumb.o.cl, o_Crumb.na.get (by simp), rfl, p, rs, c.hs, rfl, SqT.of (s3 _ _ (s02 _ _ hp)), hl, hr, hh.1, fun e H4 s4 he => ⟨_, rfl, z, _, 1, _, rfl, rfl, SqT.of (s4 _ _ (s3 _ _ hz)), rfl, rfl, ?_⟩⟩
        obtain rfl : e = famS rs c.hs := by unfold famS; rw [← he, mkS_tl]
        have := q4 H4 ((s02.trans s3).trans s4)
        rw [Bool.false_or] at this
        rw [show decide (V.str (famS rs c.hs) = V.str x.1.2) = decide (famS rs c.hs = x.1.2) by simp]
        exact this
theorem ok__law_begun (T : Txt K mg) : Cal P w K mg base CX0 1 "_law_begun" ["script"] (sp__law_begun K) := by
  refine T.d__law_begun.ok0 sc__law_begun (fun vs H Q E h => ?_) (fun f cdv A outer s H vs Q E hr h => ?_)
  · first | (obtain ⟨_, rfl, _⟩ := h; rfl) | (obtain ⟨_, _, rfl, _⟩ := h; rfl) | (obtain ⟨_, _, _, rfl, _⟩ := h; rfl) | (obtain ⟨_, _, _, _, rfl, _⟩ := h; rfl) | (obtain ⟨_, _, _, _, _, rfl, _⟩ := h; rfl) | (obtain ⟨_, _, _, _, _, _, rfl, _⟩ := h; rfl) | (obtain ⟨_, _, _, _, _, _, _, rfl, _⟩ := h; rfl) | (obtain ⟨_, _, _, _, _, _, _, _, rfl, _⟩ := h; rfl) | (obtain ⟨_, _, _, _, _, _, _, _, _, rfl, _⟩ := h; rfl) | (obtain ⟨_, _, _, _, _, _, _, _, _, _, rfl, _⟩ := h; rfl) | (obtain ⟨_, _, _, _, _, _, _, _, _, _, _, rfl, _⟩ := h; rfl) | (obtain ⟨_, _, _, _, _, _, _, _, _, _, _, _, rfl, _⟩ := h; rfl)
  · refine ⟨_, (pss_cons (ps_set (i := 1) sc__law_begun.nd rfl (by first | exact Or.inl rfl | exact Or.inr rfl) (pe_op op_add pe_int (pe_op op_mul pe_int (pe_callB call_len_seq (by rfl) T.b_len (by decide +kernel) (pa_cons (pv 0) pa_nil)))))
      (pss_cons (ps_for PassesOwn.never rfl (pi_enum (by rfl) T.b_enumerate (pa_cons (pv 0) pa_nil)) (pg_tup rfl (pgs_cons (pg_name (i := 2) sc__law_begun.nd rfl (by first | exact Or.inl rfl | exact Or.inr rfl)) (pgs_cons (pg_name (i := 3) sc__law_begun.nd rfl (by first | exact Or.inl rfl | exact Or.inr rfl)) pgs_nil)))
      (pss_one (ps_set (i := 1) sc__law_begun.nd rfl (by first | exact Or.inl rfl | exact Or.inr rfl) (pe_op op_mod (pe_callTy call_int1 (by rfl) T.b_int (by decide +kernel) (pa_cons (pe_op op_add (pe_op op_add (pe_op op_mul (pv 1) pe_int) (pv 3)) (pe_op op_mul pe_int (pv 2))) pa_nil)) pe_int))))
      (pss_one (ps_ret (pe_disp (pps_cons pe_str (pv 1) (pps_cons pe_str (pe_lc (own := [(("cell" : Str), 3)]) rfl sc__law_begun.nd (pi_list (pv 0)) (blkOk_by (N := ["script", "blend", "k", "cell"]) (sc := defScope s__law_begun) (by decide +kernel)) (fun _ _ _ _ _ => (pg_name (i := 3) sc__law_begun.nd rfl (by first | exact Or.inl rfl | exact Or.inr rfl))) (fun _ _ _ _ _ => (pts_one (pt_cmpR (op_ge) (pv 3) (pe_op op_pow pe_int pe_int) (nomark _)))) (fun _ _ _ _ _ => (pv 3))) (pps_cons pe_str pe_int pps_nil))) rfl rfl (by simp) (by decide)))))), ?_⟩
    obtain ⟨a, ns, rfl, hS, hl, hQ⟩ := h
    refine ⟨_, rfl, a, _, rfl, .inl hS, _, _, rfl, rfl, .inl ⟨by decide, by decide⟩, _, _, rfl, rfl, ?_⟩
    refine ⟨_, rfl, a, _, rfl, hS, for_enum (K := K) (a := a) (xs := ns.map V.int) (fun i σ H1 => ∃ (st : Int) (u v : Option V), σ = [some (.ref a), some (.int st), u, v] ∧ Same H H1 ∧ 0 ≤ st ∧ st < 2305843009213693951) ⟨_, none, none, rfl, fun _ _ e => e, by rw [List.length_map]; omega, by rw [List.length_map]; omega⟩ (fun i σ H1 _ ⟨_, _, _, _, s, _⟩ => s.seq hS) ?_ ?_⟩
    · rintro i x T σ H1 hi ⟨st, u, v, rfl, s1, b0, b1⟩ hT
      obtain ⟨z, hz, rfl⟩ := List.mem_map.mp (List.mem_of_getElem? hi)
      have hi3 : i < ns.length := by
        have := (List.getElem?_eq_some_iff.mp hi).1
        rw [List.length_map] at this
        omega
      refine ⟨T, _, rfl, SqT.of upd_same, rfl, _, _, rfl, _, _, rfl, rfl, _, rfl, _, _, rfl, rfl, .inr ⟨by decide, by decide⟩, _, rfl, _, _, rfl, rfl, _, rfl, _, _, rfl, rfl, .inl ⟨by decide, by decide⟩, _, _, rfl, rfl, .inl ⟨_, rfl, _, _, rfl, rfl, by show (0 : Int) < 2305843009213693951; decide, ?_⟩⟩
      exact ⟨_, _, _, rfl, s1.trans (Same.new hT), Int.emod_nonneg _ (by decide), Int.emod_lt_of_pos _ (by decide)⟩
    · rintro σ H1 ⟨st, u, v, rfl, s1, b0, b1⟩
      intro p hp
      refine ⟨_, rfl, ?_⟩
      have sp := Same.new (o := HO.dK []) hp
      refine ⟨_, rfl, a, rfl, ⟨_, (s1.trans sp).seq hS⟩, fun D hD => lc_list (K := K) (a := a) (xs := ns.map V.int) (fun i H2 => ∃ gs : List Int, H2 D = some (.lst (gs.map V.int)) ∧ gs.length ≤ i ∧ (∀ x ∈ gs, 0 ≤ x) ∧ Same (upd H1 p (.dK [])) H2) ⟨[], upd_same, Nat.le_refl _, by simp, Same.new hD⟩ (fun i H2 _ ⟨_, _, _, _, s⟩ => ((s1.trans sp).trans s).seq hS) ?_ ?_⟩
      · rintro i x H2 hi ⟨gs, mD, hgl, hg0, s2⟩
        obtain ⟨z, hz, rfl⟩ := List.mem_map.mp (List.mem_of_getElem? hi)
        have hi3 : i < ns.length := by
          have := (List.getElem?_eq_some_iff.mp hi).1
          rw [List.length_map] at this
          omega
        refine ⟨rfl, _, rfl, _, _, rfl, rfl, ⟨by decide, by decide, by decide⟩, _, _, rfl, rfl, _, rfl, iteB (fun hb => ?_) (fun hb => ?_)⟩
        · have hc : (10 : Int) ^ (18 : Int).toNat ≤ z := of_decide_eq_true hb
          have h0 : (0 : Int) ≤ (10 : Int) ^ (18 : Int).toNat := by decide
          refine ⟨_, rfl, _, mD, Nat.lt_of_le_of_lt (by rw [List.length_map]; omega : _ ≤ 100) (by decide), gs ++ [z], by rw [upd_same, List.map_append]; rfl, by rw [List.length_append]; show _ + 1 ≤ _; omega, fun x hx => ?_, Same.put s2 hD⟩
          rcases List.mem_append.mp hx with q | q
          · exact hg0 x q
          · rw [List.mem_singleton.mp q]; omega
        · exact ⟨gs, mD, by omega, hg0, s2⟩
      · rintro H2 ⟨gs, mD, hgl, hg0, s2⟩
        have hn : D ≠ p := fun e => by rw [e, upd_same] at hD; cases hD
        refine ⟨s2 _ _ upd_same, gkv st D 0, rfl, by show 3 ≤ 15; decide, hQ p D _ ?_ ⟨hn, gs, st, 0, by rw [upd_same, gkv_merge], (upd_ne hn).trans mD, by rw [List.length_map] at hgl; omega, hg0, b0, b1, by decide, by decide⟩⟩
        exact s1.trans (Same.put (sp.trans s2) hp)
theorem ok__law_next (T : Txt K mg) : Cal P w K mg base CX0 1 "_law_next" ["draw", "below"] (sp__law_next K) := by
  refine T.d__law_next.ok0 sc__law_next (fun vs H Q E h => ?_) (fun f cdv A outer s H vs Q E hr h => ?_)
  · first | (obtain ⟨_, rfl, _⟩ := h; rfl) | (obtain ⟨_, _, rfl, _⟩ := h; rfl) | (obtain ⟨_, _, _, rfl, _⟩ := h; rfl) | (obtain ⟨_, _, _, _, rfl, _⟩ := h; rfl) | (obtain ⟨_, _, _, _, _, rfl, _⟩ := h; rfl) | (obtain ⟨_, _, _, _, _, _, rfl, _⟩ := h; rfl) | (obtain ⟨_, _, _, _, _, _, _, rfl, _⟩ := h; rfl) | (obtain ⟨_, _, _, _, _, _, _, _, rfl, _⟩ := h; rfl) | (obtain ⟨_, _, _, _, _, _, _, _, _, rfl, _⟩ := h; rfl) | (obtain ⟨_, _, _, _, _, _, _, _, _, _, rfl, _⟩ := h; rfl) | (obtain ⟨_, _, _, _, _, _, _, _, _, _, _, rfl, _⟩ := h; rfl) | (obtain ⟨_, _, _, _, _, _, _, _, _, _, _, _, rfl, _⟩ := h; rfl)
  · have hu := hu_of hr
    refine ⟨_, (pss_cons (ps_asg (pe_tup (pa_cons (pe_op op_add (pe_dget hu (pv 0) pe_str (fun _ _ => rfl)) pe_int) (pa_cons (pe_dget hu (pv 0) pe_str (fun _ _ => rfl)) pa_nil))) (pg_tup rfl (pgs_cons (pg_sub (pv 0) pe_str (set_dict hu )) (pgs_cons (pg_name (i := 2) sc__law_next.nd rfl (by first | exact Or.inl rfl | exact Or.inr rfl)) pgs_nil))))
      (pss_cons (ps_set (i := 3) sc__law_next.nd rfl (by first | exact Or.inl rfl | exact Or.inr rfl) (pe_op op_mod (pe_callTy call_int1 (by rfl) T.b_int (by decide +kernel) (pa_cons (pe_dget hu (pv 0) pe_str (fun _ _ => rfl)) pa_nil)) (pe_callB (call_max2 rfl) (by rfl) T.b_max (by decide +kernel) (pa_cons pe_int (pa_cons (pe_callB call_len_seq (by rfl) T.b_len (by decide +kernel) (pa_cons (pv 2) pa_nil)) pa_nil)))))
      (Evl.pss_cut (ps_if (PW.pt (pw_and (pt_cmpR (op_neD hr.units) (pv 2) (pe_lst pa_nil) (nomark _)) (pw_and1 (pt_cmpR (op_gt) (pe_ix ix_list (pv 2) (pv 3) (fun _ _ => rfl)) pe_int (nomark _)))))
      (pss_cons (ps_set (i := 4) sc__law_next.nd rfl (by first | exact Or.inl rfl | exact Or.inr rfl) (pe_op op_mod (pe_callTy call_int1 (by rfl) T.b_int (by decide +kernel) (pa_cons (pe_ix ix_list (pv 2) (pv 3) (fun _ _ => rfl)) pa_nil)) (pv 1)))
      (pss_cons (ps_asg (pe_op op_fdivW (pe_ix ix_list (pv 2) (pv 3) (fun _ _ => rfl)) (pv 1)) (pg_sub (pv 2) (pv 3) set_list))
      (pss_one (ps_ret (pv 4)))))
      pss_nil)
      (pss_cons (ps_set (i := 5) sc__law_next.nd rfl (by first | exact Or.inl rfl | exact Or.inr rfl) (pe_op op_add (pe_op op_add (pe_op op_mul (pe_dget hu (pv 0) pe_str (fun _ _ => rfl)) pe_int) (pe_op op_mul pe_int (pe_dget hu (pv 0) pe_str (fun _ _ => rfl)))) pe_int))
      (pss_cons (ps_dput hu (pv 0) pe_str (pe_op op_mod (pe_callTy call_int1 (by rfl) T.b_int (by decide +kernel) (pa_cons (pv 5) pa_nil)) pe_int) rfl)
      (pss_one (ps_ret (pe_op op_mod (pe_callTy call_int1 (by rfl) T.b_int (by decide +kernel) (pa_cons (pe_op op_fdivW (pe_dget hu (pv 0) pe_str (fun _ _ => rfl)) pe_int) pa_nil)) (pv 1))))))))), ?_⟩
    obtain ⟨d, g, b, n, rfl, b0, b1, ⟨ne, gs, m, t, h1, h2, h3, h4, h5, h6, h7, h8⟩, hQ⟩ := h
    refine ⟨_, rfl, d, _, rfl, gget_turn h1, _, _, rfl, rfl, _, rfl, d, _, rfl, gget_great h1, by show 2 ≤ sizeLine; decide, fun T hT => ?_⟩
    have sT := Same.new (o := HO.tup [V.int (t+1), V.ref g]) hT
    refine ⟨T, _, rfl, SqT.of upd_same, rfl, _, _, rfl, _, rfl, d, _, rfl, gput_turn (t+1) (sT _ _ h1), _, _, rfl, rfl, ?_⟩
    have e1 : (upd (upd H T (HO.tup [V.int (t+1), V.ref g])) d (HO.dK (gkv m g (t+1)))) d = some (HO.dK (gkv m g (t+1))) := upd_same
    have e2 : (upd (upd H T (HO.tup [V.int (t+1), V.ref g])) d (HO.dK (gkv m g (t+1)))) g = some (HO.lst (gs.map V.int)) := (upd_ne ne).trans (sT _ _ h2)
    have k1 : KeepD d g H (upd (upd H T (HO.tup [V.int (t+1), V.ref g])) d (HO.dK (gkv m g (t+1)))) := (Same.keepD sT).updD
    generalize upd (upd H T (HO.tup [V.int (t+1), V.ref g])) d (HO.dK (gkv m g (t+1))) = H1 at e1 e2 k1 ⊢
    refine ⟨_, rfl, d, _, rfl, gget_turn e1, .inl ⟨_, rfl, _, rfl, g, _, rfl, .inl (SqL.of e2), _, _, rfl, _, _, rfl, rfl, ?_⟩⟩
    have hM : ∃ M : Nat, (if ((gs.map V.int).length : Int) > 1 then ((gs.map V.int).length : Int) else 1) = (M : Int) ∧ 0 < M ∧ (gs ≠ [] → M = gs.length) := by
      rw [List.length_map]
      rcases gs with _ | ⟨x, _ | ⟨y, zs⟩⟩
      · exact ⟨1, rfl, by decide, fun h => absurd rfl h⟩
      · exact ⟨1, rfl, by decide, fun _ => rfl⟩
      · refine ⟨(x :: y :: zs).length, if_pos ?_, Nat.succ_pos _, fun _ => rfl⟩
        show (((zs.length + 1 + 1 : Nat) : Int)) > 1; omega
    obtain ⟨M, eM, hM0, hM1⟩ := hM
    rw [eM]
    refine ⟨by show (0 : Int) < (M : Int); omega, ?_⟩
    have r0 : 0 ≤ (t + 1) % (M : Int) := Int.emod_nonneg _ (by omega)
    have r1 : (t + 1) % (M : Int) < (M : Int) := Int.emod_lt_of_pos _ (by omega)
    obtain ⟨k, ek⟩ : ∃ k : Nat, (t + 1) % (M : Int) = (k : Int) := ⟨((t + 1) % (M : Int)).toNat, by omega⟩
    show gName 3 (V.int ((t + 1) % (M : Int))) _ _ _
    rw [ek] at r0 r1 ⊢
    refine ⟨fun σ' H' => σ' = [some (.ref d), some (.int b), some (.ref g), some (.int (k : Int)), none, none] ∧ KeepD d g H H' ∧ H' d = some (.dK (gkv m g (t+1))) ∧ H' g = some (.lst (gs.map V.int)), ?_, ?_⟩
    · refine ⟨_, rfl, giv_lst giv_nil (by decide) fun p hp => ?_⟩
      have sp := Same.new (o := HO.lst []) hp
      refine ⟨_, _, .lst (SqL.of (sp _ _ e2)) (dpAll_intsG gs), .lst (SqL.of upd_same) .nil, shaped_list fun q hq => (by obtain ⟨n, _, rfl⟩ := List.mem_map.mp hq; exact ⟨rfl, by show (0 : Nat) ≤ 60; decide⟩), rfl, _, rfl, ?_⟩
      rcases gs with _ | ⟨x0, gt⟩
      · exact ⟨rfl, k1.same sp, sp _ _ e1, sp _ _ e2⟩
      have eM : M = (x0 :: gt).length := hM1 (by simp)
      rw [show (!(PyData.list (List.map PyData.int (x0 :: gt))).eqv (PyData.list [])) = true by simp [PyData.eqv, PyData.eqvAll]]
      refine iteT ?_
      have hk : k < (x0 :: gt).length := by omega
      have e3 := sp _ _ e1
      have e4 := sp _ _ e2
      have k3 := k1.same sp
      generalize upd H1 p (HO.lst []) = H2 at e3 e4 k3 ⊢
      have ha : atI ((x0 :: gt).map V.int) (k : Int) = some (.int ((x0 :: gt)[k])) := atI_nat (by rw [List.getElem?_map, List.getElem?_eq_getElem hk]; rfl)
      have hx : 0 ≤ (x0 :: gt)[k] := h4 _ (List.getElem_mem hk)
      refine ⟨_, rfl, _, rfl, g, _, _, _, rfl, rfl, SqL.of e4, ha, _, _, rfl, rfl, _, rfl, ?_⟩
      refine iteB (fun hb => ?_) (fun hb => ?_)
      · refine ⟨_, rfl, _, rfl, g, _, _, _, rfl, rfl, SqL.of e4, ha, .inl ⟨_, rfl, _, rfl, _, _, rfl, rfl, b0, ?_⟩⟩
        refine ⟨_, rfl, _, rfl, g, _, _, _, rfl, rfl, SqL.of e4, ha, _, rfl, _, _, rfl, rfl, wide_div (b := 40) b0 (by omega) (by decide) (by decide), _, rfl, _, rfl, g, _, _, k, rfl, rfl, e4, ?_, ?_⟩
        · exact ixN_nat (by rw [List.length_map]; exact hk)
        · refine ⟨_, rfl, hQ _ _ (Int.emod_nonneg _ (by omega)) (Int.emod_lt_of_pos _ b0) k3.updG ⟨ne, (x0 :: gt).set k ((x0 :: gt)[k] / b), m, t + 1, (upd_ne ne.symm).trans e3, by rw [upd_same, List.map_set], by rw [List.length_set]; exact h3, fun x hm => ?_, h5, h6, by omega, by omega⟩⟩
          rcases List.mem_or_eq_of_mem_set hm with q | q
          · exact h4 x q
          · rw [q]; exact Int.ediv_nonneg hx (by omega)
      · exact ⟨rfl, k3, e3, e4⟩
    · rintro σ' H2 ⟨rfl, k2, e3, e4⟩
      refine ⟨_, rfl, d, _, rfl, gget_mixed e3, _, _, rfl, rfl, .inl ⟨by omega, by omega⟩, _, rfl, d, _, rfl, gget_turn e3, _, _, rfl, rfl, .inl ⟨by decide, by decide⟩, _, _, rfl, rfl, _, _, rfl, rfl, ?_⟩
      generalize m * 6364136223846793 + 1442695040888963 * (t + 1) = s0
      refine ⟨_, rfl, .inl ⟨_, rfl, _, _, rfl, rfl, by show (0 : Int) < 2305843009213693951; decide, ?_⟩⟩
      refine ⟨_, rfl, _, _, rfl, gput_mixed _ e3, ?_⟩
      have e5 : (upd H2 d (HO.dK (gkv ((s0 + 11) % 2305843009213693951) g (t+1)))) d = some (HO.dK (gkv ((s0 + 11) % 2305843009213693951) g (t+1))) := upd_same
      have m0 : 0 ≤ (s0 + 11) % 2305843009213693951 := Int.emod_nonneg _ (by decide)
      have m1 : (s0 + 11) % 2305843009213693951 < 2305843009213693951 := Int.emod_lt_of_pos _ (by decide)
      refine ⟨_, rfl, d, _, rfl, gget_mixed e5, _, _, rfl, rfl, wide_div (b := 40) (by decide) (by decide) (by decide) (by decide), .inl ⟨_, rfl, _, rfl, _, _, rfl, rfl, b0, ?_⟩⟩
      exact hQ _ _ (Int.emod_nonneg _ (by omega)) (Int.emod_lt_of_pos _ b0) k2.updD ⟨ne, gs, _, t + 1, e5, (upd_ne ne).trans e4, h3, h4, m0, m1, by omega, by omega⟩
theorem ok__law_pick (T : Txt K mg) : Cal P w K mg base CX0 2 "_law_pick" ["draw", "some"] (sp__law_pick K) := by
  refine T.d__law_pick.ok0 sc__law_pick (fun vs H Q E h => ?_) (fun f cdv A outer s H vs Q E hr h => ?_)
  · first | (obtain ⟨_, rfl, _⟩ := h; rfl) | (obtain ⟨_, _, rfl, _⟩ := h; rfl) | (obtain ⟨_, _, _, rfl, _⟩ := h; rfl) | (obtain ⟨_, _, _, _, rfl, _⟩ := h; rfl) | (obtain ⟨_, _, _, _, _, rfl, _⟩ := h; rfl) | (obtain ⟨_, _, _, _, _, _, rfl, _⟩ := h; rfl) | (obtain ⟨_, _, _, _, _, _, _, rfl, _⟩ := h; rfl) | (obtain ⟨_, _, _, _, _, _, _, _, rfl, _⟩ := h; rfl) | (obtain ⟨_, _, _, _, _, _, _, _, _, rfl, _⟩ := h; rfl) | (obtain ⟨_, _, _, _, _, _, _, _, _, _, rfl, _⟩ := h; rfl) | (obtain ⟨_, _, _, _, _, _, _, _, _, _, _, rfl, _⟩ := h; rfl) | (obtain ⟨_, _, _, _, _, _, _, _, _, _, _, _, rfl, _⟩ := h; rfl)
  · refine ⟨_, (pss_one (ps_ret (pe_ix ix_list (pv 1) (pe_c (ok__law_next T) hr (by decide) (by rfl) pass0 (pa_cons (pv 0) (pa_cons (pe_callB call_len_seq (by rfl) T.b_len (by decide +kernel) (pa_cons (pv 1) pa_nil)) pa_nil))) (fun _ _ => rfl)))), ?_⟩
    obtain ⟨d, g, p, xs, n, rfl, mp, pg, h0, hl, D, hQ⟩ := h
    have hl1 : (xs.length : Int) < 1000000000 := by omega
    refine ⟨_, rfl, _, rfl, _, rfl, p, _, rfl, .inl (SqL.of mp), ?_⟩
    refine ⟨d, g, (xs.length : Int), n, rfl, by omega, hl1, D, fun r H1 h0 h1 k1 D1 => ?_⟩
    obtain ⟨m, rfl⟩ : ∃ m : Nat, r = m := ⟨r.toNat, by omega⟩
    have hm : m < xs.length := by omega
    have pd : p ≠ d := fun z => by obtain ⟨_, _, _, _, e, _⟩ := D; rw [z, e] at mp; cases mp
    exact ⟨p, xs, m, xs[m], rfl, rfl, SqL.of (k1 _ _ mp pd pg), atI_nat (List.getElem?_eq_getElem hm), hQ m _ H1 (List.getElem?_eq_getElem hm) k1 D1⟩
theorem ok__law_rules (T : Txt K mg) : Cal P w K mg base CX0 3 "_law_rules" ["draw"] sp__law_rules := by
  refine T.d__law_rules.ok0 sc__law_rules (fun vs H Q E h => ?_) (fun f cdv A outer s H vs Q E hr h => ?_)
  · first | (obtain ⟨_, rfl, _⟩ := h; rfl) | (obtain ⟨_, _, rfl, _⟩ := h; rfl) | (obtain ⟨_, _, _, rfl, _⟩ := h; rfl) | (obtain ⟨_, _, _, _, rfl, _⟩ := h; rfl) | (obtain ⟨_, _, _, _, _, rfl, _⟩ := h; rfl) | (obtain ⟨_, _, _, _, _, _, rfl, _⟩ := h; rfl) | (obtain ⟨_, _, _, _, _, _, _, rfl, _⟩ := h; rfl) | (obtain ⟨_, _, _, _, _, _, _, _, rfl, _⟩ := h; rfl) | (obtain ⟨_, _, _, _, _, _, _, _, _, rfl, _⟩ := h; rfl) | (obtain ⟨_, _, _, _, _, _, _, _, _, _, rfl, _⟩ := h; rfl) | (obtain ⟨_, _, _, _, _, _, _, _, _, _, _, rfl, _⟩ := h; rfl) | (obtain ⟨_, _, _, _, _, _, _, _, _, _, _, _, rfl, _⟩ := h; rfl)
  · refine ⟨_, (pss_cons (ps_set (i := 1) sc__law_rules.nd rfl (by first | exact Or.inl rfl | exact Or.inr rfl) (pe_lst (pa_cons (pe_tup pa_nil) (pa_cons (pe_tup (pa_cons pe_str pa_nil)) (pa_cons (pe_tup (pa_cons pe_str (pa_cons pe_str (pa_cons pe_str pa_nil)))) (pa_cons (pe_tup (pa_cons pe_str (pa_cons pe_str (pa_cons pe_str pa_nil)))) (pa_cons (pe_tup (pa_cons pe_str (pa_cons pe_str (pa_cons pe_str pa_nil)))) pa_nil)))))))
      (pss_one (ps_ret (pe_c (ok__law_pick T) hr (by decide) (by rfl) pass0 (pa_cons (pv 0) (pa_cons (pe_op op_cat (pv 1) (pe_lst (pa_cons (pe_tup (pa_cons pe_str (pa_cons pe_str pa_nil))) (pa_cons (pe_tup (pa_cons pe_str pa_nil)) (pa_cons (pe_tup (pa_cons pe_str (pa_cons pe_str pa_nil))) pa_nil))))) pa_nil)))))), ?_⟩
    obtain ⟨d, g, n, rfl, D, hQ⟩ := h
    refine seq_asg ?_
    refine rows_lst (L := (rules27.take 5).map fun r => r.map V.str) (rows_cons giv_nil (rows_cons (giv_cons giv_c giv_nil) (rows_cons (giv_cons giv_c (giv_cons giv_c (giv_cons giv_c giv_nil))) (rows_cons (giv_cons giv_c (giv_cons giv_c (giv_cons giv_c giv_nil))) (rows_cons (giv_cons giv_c (giv_cons giv_c (giv_cons giv_c giv_nil))) rows_nil))))) (by decide) fun p1 qs1 H1 s1 t1 m1 _ => ?_
    refine ⟨_, rfl, ?_⟩
    refine rows_cat (L := (rules27.drop 5).map fun r => r.map V.str) (rows_cons (giv_cons giv_c (giv_cons giv_c giv_nil)) (rows_cons (giv_cons giv_c giv_nil) (rows_cons (giv_cons giv_c (giv_cons giv_c giv_nil)) rows_nil))) (fun Q' q' => ⟨_, rfl, q'⟩) m1 t1 (by decide) (by decide) fun p qs H2 s2 t2 m2 n2 => ?_
    have s12 := s1.trans s2
    have hl : qs.length = 8 := by rw [t2.len]; rfl
    refine ⟨d, g, p, _, n, rfl, m2, ((D.same s1).new n2).2, by rw [List.length_map, hl]; decide, by rw [List.length_map, hl]; decide, D.same s12, fun i x H3 hi k3 D3 => ?_⟩
    obtain ⟨q, c, rfl, hc, mq⟩ := t2.get hi
    have e : (rules27.take 5).map (fun r => r.map V.str) ++ (rules27.drop 5).map (fun r => r.map V.str) = rules27.map fun r => r.map V.str := by rw [← List.map_append, List.take_append_drop]
    rw [e, List.getElem?_map] at hc
    obtain ⟨rs, hrs, rfl⟩ := Option.map_eq_some_iff.mp hc
    have D2 := D.same s12
    exact hQ q rs H3 (List.mem_of_getElem? hrs) (Same.thenD s12 k3) D3 (k3 _ _ mq (D2.tup mq).1 (D2.tup mq).2)
theorem ok__law_is_numbers (T : Txt K mg) : Cal P w K mg base CX0 1 "_law_is_numbers" ["host"] sp__law_is_numbers := by
  refine T.d__law_is_numbers.ok0 sc__law_is_numbers (fun vs H Q E h => ?_) (fun f cdv A outer s H vs Q E hr h => ?_)
  · first | (obtain ⟨_, rfl, _⟩ := h; rfl) | (obtain ⟨_, _, rfl, _⟩ := h; rfl) | (obtain ⟨_, _, _, rfl, _⟩ := h; rfl) | (obtain ⟨_, _, _, _, rfl, _⟩ := h; rfl) | (obtain ⟨_, _, _, _, _, rfl, _⟩ := h; rfl) | (obtain ⟨_, _, _, _, _, _, rfl, _⟩ := h; rfl) | (obtain ⟨_, _, _, _, _, _, _, rfl, _⟩ := h; rfl) | (obtain ⟨_, _, _, _, _, _, _, _, rfl, _⟩ := h; rfl) | (obtain ⟨_, _, _, _, _, _, _, _, _, rfl, _⟩ := h; rfl) | (obtain ⟨_, _, _, _, _, _, _, _, _, _, rfl, _⟩ := h; rfl) | (obtain ⟨_, _, _, _, _, _, _, _, _, _, _, rfl, _⟩ := h; rfl) | (obtain ⟨_, _, _, _, _, _, _, _, _, _, _, _, rfl, _⟩ := h; rfl)
  · refine ⟨_, (pss_one (ps_ret (pe_cmpR (op_eqD hr.units) (pe_lc (own := [(("sign" : Str), 1)]) rfl sc__law_is_numbers.nd (pi_str (pv 0)) (blkOk_by (N := ["host", "sign"]) (sc := defScope s__law_is_numbers) (by decide +kernel)) (fun _ _ _ _ _ => (pg_name (i := 1) sc__law_is_numbers.nd rfl (by first | exact Or.inl rfl | exact Or.inr rfl))) (fun _ _ _ _ _ => (pts_one (pt_cmpR (op_notIn_sign) (pv 1) pe_str rfl))) (fun _ _ _ _ _ => (pv 1))) (pe_lst pa_nil) (nomark _)))), ?_⟩
    obtain ⟨y, rfl, hl, ha, hQ⟩ := h
    refine ⟨_, rfl, _, rfl, fun L4 hL4 => ?_⟩
    refine lc_str (z := y) (fun i H4 => ∃ W : List Str, H4 L4 = some (.lst (W.map V.str)) ∧ W.length ≤ i ∧ (∀ w ∈ W, ascii w) ∧ (W = [] ↔ ((tl y).take i).all (fun c => decide (c ∈ nsig)) = true) ∧ Same H H4) ⟨[], upd_same, Nat.le_refl _, by simp, by simp, Same.new hL4⟩ ?_ ?_
    · rintro i c H4 hi ⟨W, hm, hW, hWa, hWe, s4⟩
      refine ⟨rfl, _, rfl, _, _, rfl, rfl, _, rfl, ?_⟩
      show (if (!decide (c ∈ tl ("0123456789." : Str))) = true then _ else _)
      rw [tl_nsig]
      have hin := all_take1 (p := fun c => decide (c ∈ nsig)) hi
      cases hc : decide (c ∈ nsig) with
      | true =>
        rw [hc, Bool.and_true] at hin
        exact iteF ⟨W, hm, by omega, hWa, by rw [hin]; exact hWe, s4⟩
      | false =>
        rw [hc, Bool.and_false] at hin
        refine iteT ⟨_, rfl, _, hm, Nat.lt_of_le_of_lt (by rw [List.length_map]; have := (List.getElem?_eq_some_iff.mp hi).1; rw [← len_tl] at this; omega : _ ≤ 2000) (by decide), W ++ [⟨#[c]⟩], by rw [upd_same, List.map_append]; rfl, by rw [List.length_append, List.length_singleton]; omega, fun w hw => ?_, by rw [hin]; simp, Same.put s4 hL4⟩
        rcases List.mem_append.mp hw with q | q
        · exact hWa w q
        · rw [List.mem_singleton.mp q]; exact ascii_mem ha hi
    rintro H4 ⟨W4, hl4, _, hWa4, hWe4, s4⟩
    rw [List.take_length] at hWe4
    refine ⟨by show 0 ≤ sizeLine; decide, fun L5 hL5 => ?_⟩
    have s5 := Same.new (o := HO.lst []) hL5
    refine ⟨_, _, dp_strs (SqL.of (s5 _ _ hl4)), dp_strs (ys := []) (SqL.of upd_same), lay_strs hWa4, lay_strs (W := []) (by simp), ?_⟩
    rw [eqv_nil]
    have ed : decide (W4 = []) = numsB (tl y) := by
      unfold numsB
      rw [Bool.eq_iff_iff, decide_eq_true_eq]; exact hWe4
    rw [ed]
    exact hQ _ (s4.trans s5)
theorem ok__law_suffix (T : Txt K mg) : Cal P w K mg base CX0 1 "_law_suffix" ["rules", "host"] (sp__law_suffix K) := by
  refine T.d__law_suffix.ok0 sc__law_suffix (fun vs H Q E h => ?_) (fun f cdv A outer s H vs Q E hr h => ?_)
  · first | (obtain ⟨_, rfl, _⟩ := h; rfl) | (obtain ⟨_, _, rfl, _⟩ := h; rfl) | (obtain ⟨_, _, _, rfl, _⟩ := h; rfl) | (obtain ⟨_, _, _, _, rfl, _⟩ := h; rfl) | (obtain ⟨_, _, _, _, _, rfl, _⟩ := h; rfl) | (obtain ⟨_, _, _, _, _, _, rfl, _⟩ := h; rfl) | (obtain ⟨_, _, _, _, _, _, _, rfl, _⟩ := h; rfl) | (obtain ⟨_, _, _, _, _, _, _, _, rfl, _⟩ := h; rfl) | (obtain ⟨_, _, _, _, _, _, _, _, _, rfl, _⟩ := h; rfl) | (obtain ⟨_, _, _, _, _, _, _, _, _, _, rfl, _⟩ := h; rfl) | (obtain ⟨_, _, _, _, _, _, _, _, _, _, _, rfl, _⟩ := h; rfl) | (obtain ⟨_, _, _, _, _, _, _, _, _, _, _, _, rfl, _⟩ := h; rfl)
  · refine ⟨_, (pss_cons (ps_par3 (i := 2) (j := 3) (l := 4) rfl sc__law_suffix.nd rfl rfl rfl (by decide) (by decide) (by decide) rfl rfl rfl (pa_cons (pe_split (pv 1) pe_str) (pa_cons pe_int (pa_cons pe_int pa_nil))) (by rfl))
      (pss_cons (ps_for PassesOwn.never rfl (pi_tup (pv 0)) (pg_name (i := 5) sc__law_suffix.nd rfl (by first | exact Or.inl rfl | exact Or.inr rfl))
      (pss_cons (ps_set (i := 6) sc__law_suffix.nd rfl (by first | exact Or.inl rfl | exact Or.inr rfl) (pe_split (pe_slice sl_str (pv 5) (po_some (pe_callTy call_int1 (by rfl) T.b_int (by decide +kernel) (pa_cons (pe_cmpR (op_eq) (pe_slice sl_str (pv 5) po_none (po_some pe_int)) pe_str (nomark _)) pa_nil))) po_none) pe_str))
      (pss_cons (ps_set (i := 7) sc__law_suffix.nd rfl (by first | exact Or.inl rfl | exact Or.inr rfl) (pe_ifExp (pt_cmpR (op_le) (pe_callB call_len_seq (by rfl) T.b_len (by decide +kernel) (pa_cons (pv 6) pa_nil)) (pe_callB call_len_seq (by rfl) T.b_len (by decide +kernel) (pa_cons (pv 2) pa_nil)) (nomark _)) (pe_slice sl_list (pv 2) (po_some (pe_op op_sub (pe_callB call_len_seq (by rfl) T.b_len (by decide +kernel) (pa_cons (pv 2) pa_nil)) (pe_callB call_len_seq (by rfl) T.b_len (by decide +kernel) (pa_cons (pv 6) pa_nil)))) po_none) (pe_lst pa_nil)))
      (pss_cons (ps_setLc (i := 8) (own := [(("k" : Str), 10)]) rfl sc__law_suffix.nd rfl rfl (sw_true rfl rfl rfl (by decide +kernel)) (pi_range1 (by rfl) T.b_range (pa_cons (pe_callB call_len_seq (by rfl) T.b_len (by decide +kernel) (pa_cons (pv 7) pa_nil)) pa_nil)) (blkOk_by (N := ["rules", "host", "labels", "size", "ahead", "rule", "words", "tail", "off", "is_met", "k"]) (sc := defScope s__law_suffix) (by decide +kernel)) (fun _ _ _ _ _ => (pg_name (i := 10) sc__law_suffix.nd rfl (by first | exact Or.inl rfl | exact Or.inr rfl))) (fun _ _ _ _ _ => (pts_one (pt_cmpR ((show OpR _ (compareOp .NotIn) (rInQ K true) from op_notIn_seq)) (pe_ix (show IxR _ (rIxL K) from ix_list) (pv 6) (pv 10) (fun _ _ => rfl)) (pe_tup (pa_cons pe_str (pa_cons (pe_ix (show IxR _ (rIxL K) from ix_list) (pv 7) (pv 10) (fun _ _ => rfl)) pa_nil))) (by with_unfolding_all rfl)))) (fun _ _ _ _ _ => (pv 10)))
      (pss_cons (ps_set (i := 9) sc__law_suffix.nd rfl (by first | exact Or.inl rfl | exact Or.inr rfl) (pe_and (pe_cmpR (op_neD hr.units) (pv 7) (pe_lst pa_nil) (nomark _)) (pe_one (pe_cmpR (op_eqD hr.units) (pv 8) (pe_lst pa_nil) (nomark _)))))
      (pss_one (ps_if (PW.pt (pw_and (pt_val (pv 9)) (pw_and1 (pt_cmpR (op_eq) (pe_slice sl_str (pv 5) po_none (po_some pe_int)) pe_str (nomark _)))))
      (pss_one (ps_set (i := 4) sc__law_suffix.nd rfl (by first | exact Or.inl rfl | exact Or.inr rfl) (pe_callB (call_max2 rfl) (by rfl) T.b_max (by decide +kernel) (pa_cons (pv 4) (pa_cons (pe_callB call_len_seq (by rfl) T.b_len (by decide +kernel) (pa_cons (pv 6) pa_nil)) pa_nil)))))
      (pss_one (ps_if (pt_val (pv 9))
      (pss_one (ps_set (i := 3) sc__law_suffix.nd rfl (by first | exact Or.inl rfl | exact Or.inr rfl) (pe_callB (call_max2 rfl) (by rfl) T.b_max (by decide +kernel) (pa_cons (pv 3) (pa_cons (pe_callB call_len_seq (by rfl) T.b_len (by decide +kernel) (pa_cons (pv 6) pa_nil)) pa_nil)))))
      pss_nil)))))))))
      (pss_one (ps_ret (pe_join pe_str (pe_slice sl_list (pv 2) (po_some (pe_op op_sub (pe_callB call_len_seq (by rfl) T.b_len (by decide +kernel) (pa_cons (pv 2) pa_nil)) (pe_ifExp (pt_cmpR (op_gt) (pv 4) pe_int (nomark _)) (pe_op op_sub (pv 4) pe_int) (pv 3)))) po_none)))))), ?_⟩
    obtain ⟨p, rs, y, rfl, hp, hl, hr, hy, hya, hQ⟩ := h
    refine ⟨_, rfl, ⟨_, rfl⟩, _, _, rfl, rfl, by decide +kernel, Nat.le_trans (by omega : _ ≤ 1000) (by decide), fun p1 hp1 => ?_⟩
    have s1 := Same.new (o := HO.lst ((Txt.split y ("." : Str)).map V.str)) hp1
    have m1 := upd_same (H := H) (a := p1) (o := HO.lst ((Txt.split y ("." : Str)).map V.str))
    generalize hW : Txt.split y ("." : Str) = W at *
    have eW : W.map tl = sp1 46 (tl y) := by
      rw [← hW, dot_eq]
      exact split_sp1 y (by decide)
    have lW : W.length = (sp1 46 (tl y)).length := by rw [← eW, List.length_map]
    have w1 : 1 ≤ W.length := by rw [lW]; exact List.length_pos_iff.mpr (sp1_ne _ _)
    have w2 : W.length ≤ 101 := by
      rw [lW]
      have := sp1_length (c := 46) (tl y)
      rw [← len_tl] at this
      omega
    generalize upd H p1 (HO.lst (W.map V.str)) = H1 at s1 m1 ⊢
    refine ⟨_, _, _, rfl, ?_⟩
    refine ⟨_, rfl, p, rfl, ⟨_, Same.seqT s1 hp⟩, for_tup (K := K) (a := p) (xs := rs.map V.str) (fun i σ H' => ∃ (sz ah : Nat) (v5 v6 v7 v8 v9 : Option V), σ = [some (.ref p), some (.str y), some (.ref p1), some (.int (sz : Nat)), some (.int (ah : Nat)), v5, v6, v7, v8, v9, none] ∧ (sz, ah) = foldS (W.map tl) ((rs.take i).map tl) ∧ Same H1 H')
      ⟨1, 0, _, _, _, _, _, rfl, rfl, Same.refl _⟩ (fun i σ H' _ ⟨_, _, _, _, _, _, _, _, _, s⟩ => Same.seqT (s1.trans s) hp) ?_ ?_⟩
    · rintro i x σ H2 hi ⟨sz, ah, v5, v6, v7, v8, v9, rfl, hf, s2⟩
      obtain ⟨r, hri, rfl⟩ := strAt hi
      have hrm := List.mem_of_getElem? hri
      obtain ⟨rl, r0⟩ := hr r hrm
      have hb : decide (V.str (cutS r none (some 1)) = V.str "!") = excT (tl r) := bang_cut r
      have r100 : r.length ≤ sizeLine := Nat.le_trans (by omega : r.length ≤ 1000) (by decide)
      refine ⟨_, rfl, _, rfl, 1, rfl, r, rfl, r100, rfl, ?_⟩
      rw [hb]
      refine .inr ⟨_, rfl, _, rfl, r, rfl, r100, ?_⟩
      have ec := pat_cut r
      generalize cutS r (some (if excT (tl r) = true then 1 else 0)) none = rc at ec ⊢
      have lrc : rc.length ≤ 100 := by
        have : (tl rc).length ≤ (tl r).length := by
          rw [ec]; unfold patT
          split
          · rw [List.length_tail]; omega
          · exact Nat.le_refl _
        rw [← len_tl, ← len_tl] at this
        omega
      refine ⟨⟨_, rfl⟩, _, _, rfl, rfl, by decide +kernel, Nat.le_trans (by omega : _ ≤ 1000) (by decide), fun p2 hp2 => ?_⟩
      have s3 := Same.new (o := HO.lst ((Txt.split rc ("." : Str)).map V.str)) hp2
      have m2 := upd_same (H := H2) (a := p2) (o := HO.lst ((Txt.split rc ("." : Str)).map V.str))
      have eP : (Txt.split rc ("." : Str)).map tl = patL (tl r) := by
        rw [dot_eq, split_sp1 rc (by decide), ec]; rfl
      generalize Txt.split rc ("." : Str) = P at s3 m2 eP ⊢
      generalize upd H2 p2 (HO.lst (P.map V.str)) = H3 at s3 m2 ⊢
      have lP : P.length = (patL (tl r)).length := by rw [← eP, List.length_map]
      have p1' : 1 ≤ P.length := by rw [lP]; exact List.length_pos_iff.mpr (sp1_ne _ _)
      have m13 := s3 _ _ (s2 _ _ m1)
      have s13 := s2.trans s3
      have e2 : (rs.take (i + 1)).map tl = (rs.take i).map tl ++ [tl r] := by rw [List.take_succ, hri, List.map_append]; rfl
      try dsimp only
      refine seq_asg ?_
      obtain ⟨TL, eT⟩ : ∃ TL : List Str, TL = if P.length ≤ W.length then lastN P.length W else [] := ⟨_, rfl⟩
      refine tif_cut (R := fun v H' => ∃ q, v = .ref q ∧ Same H3 H' ∧ H' q = some (.lst (TL.map V.str))) (fun Q' q' => ?_) (fun v H4 ⟨q, ev, s4, m4⟩ => ?_)
      · refine ⟨_, rfl, p2, _, rfl, .inl (SqL.of m2), _, rfl, p1, _, rfl, .inl (SqL.of m13), ?_⟩
        refine ⟨_, _, rfl, rfl, _, rfl, iteB (fun hle => ?_) (fun hle => ?_)⟩
        · have hle := of_decide_eq_true hle
          rw [List.length_map, List.length_map] at hle
          have hle : P.length ≤ W.length := by omega
          refine ⟨_, rfl, _, rfl, p1, _, rfl, .inl (SqL.of m13), _, rfl, p2, _, rfl, .inl (SqL.of m2), _, _, rfl, rfl, _, rfl, p1, _, rfl, SqL.of m13, fun q hq => q' _ _ ⟨q, rfl, Same.new hq, ?_⟩⟩
          rw [upd_same, cutV_from _ (by rw [List.length_map, List.length_map]; omega), List.length_map, List.length_map, eT, if_pos hle]
          unfold lastN
          rw [List.map_drop, show ((W.length : Int) - (P.length : Int)).toNat = W.length - P.length by omega]
        · have hle : ¬ P.length ≤ W.length := fun z => by
            have := of_decide_eq_false hle
            rw [List.length_map, List.length_map] at this
            omega
          refine ⟨by show 0 ≤ sizeLine; decide, fun q hq => q' _ _ ⟨q, rfl, Same.new hq, ?_⟩⟩
          rw [upd_same, eT, if_neg hle]; rfl
      subst ev
      have lT : TL.length ≤ P.length ∧ TL.length ≤ W.length := by
        rw [eT]
        split
        · rw [lastN_len]; omega
        · exact ⟨Nat.zero_le _, Nat.zero_le _⟩
      have s14 := s13.trans s4
      have m24 := s4 _ _ m2
      try dsimp only
      refine seq_asg ?_
      refine ⟨_, rfl, q, _, rfl, .inl (SqL.of m4), _, rfl, by rw [List.length_map]; omega, by rw [List.length_map]; exact Int.lt_of_le_of_lt (by omega : _ ≤ (1000 : Int)) (by decide), fun L hL => ?_⟩
      have eN : ((((TL.map V.str).length : Nat) : Int)).toNat = TL.length := by rw [List.length_map]; rfl
      rw [eN]
      let cnd : Nat → Bool := fun k => !(decide ((P.map tl).getD k [] = [42]) || decide ((P.map tl).getD k [] = (TL.map tl).getD k []))
      refine lc_range (n := TL.length) (fun j H' => H' L = some (.lst (((List.range j).filter cnd).map fun n : Nat => V.int (n : Int))) ∧ Same H4 H') ⟨upd_same, Same.new hL⟩ ?_ ?_
      · rintro j H5 hj ⟨mL, s5⟩
        have hj1 : j < P.length := by omega
        have g1 : (P.map V.str)[j]? = some (.str P[j]) := by rw [List.getElem?_map, List.getElem?_eq_getElem hj1]; rfl
        have g2 : (TL.map V.str)[j]? = some (.str TL[j]) := by rw [List.getElem?_map, List.getElem?_eq_getElem hj]; rfl
        have gP : (P.map tl).getD j [] = tl P[j] := by rw [List.getD_eq_getElem?_getD, List.getElem?_map, List.getElem?_eq_getElem hj1]; rfl
        have gT : (TL.map tl).getD j [] = tl TL[j] := by rw [List.getD_eq_getElem?_getD, List.getElem?_map, List.getElem?_eq_getElem hj]; rfl
        refine ⟨rfl, _, rfl, _, rfl, p2, _, _, _, rfl, rfl, SqL.of (s5 _ _ m24), atI_nat (by rw [Nat.zero_add]; exact g1), _, rfl, _, rfl, q, _, _, _, rfl, rfl, SqL.of (s5 _ _ m4), atI_nat (by rw [Nat.zero_add]; exact g2), by show 2 ≤ sizeLine; decide, fun w hw => ?_⟩
        have sw := Same.new (o := HO.tup ([("*" : Str), TL[j]].map V.str)) hw
        refine ⟨w, _, rfl, .inr (SqT.of (xs := [("*" : Str), TL[j]].map V.str) upd_same), rfl, rfl, ?_⟩
        have ein : inV (.str P[j]) ([("*" : Str), TL[j]].map V.str) = !cnd j := by
          rw [in_strs]
          show decide (P[j] ∈ [("*" : Str), TL[j]]) = !(!(decide ((P.map tl).getD j [] = [42]) || decide ((P.map tl).getD j [] = (TL.map tl).getD j [])))
          rw [Bool.not_not, gP, gT, Bool.eq_iff_iff, decide_eq_true_eq, Bool.or_eq_true, decide_eq_true_eq, decide_eq_true_eq, List.mem_cons, List.mem_singleton]
          have e1 : tl P[j] = [42] ↔ P[j] = "*" := ⟨fun z => ext_tl (z.trans (by decide +kernel)), fun z => by rw [z]; decide +kernel⟩
          have e2 : tl P[j] = tl TL[j] ↔ P[j] = TL[j] := ⟨fun z => ext_tl z, fun z => by rw [z]⟩
          rw [e1, e2]
        refine ⟨_, rfl, ?_⟩
        show (if (!inV (V.str P[j]) ([("*" : Str), TL[j]].map V.str)) = true then _ else _)
        rw [ein, Bool.not_not]
        have er : (List.range (j + 1)).filter cnd = (List.range j).filter cnd ++ (if cnd j = true then [j] else []) := by
          rw [List.range_succ, List.filter_append]
          by_cases c : cnd j = true <;> simp [c]
        refine iteB (fun c => ?_) (fun c => ?_)
        · have hsz : (((List.range j).filter cnd).map fun n : Nat => V.int (n : Int)).length ≤ 101 := by
            rw [List.length_map]
            have := List.length_filter_le cnd (List.range j)
            rw [List.length_range] at this
            omega
          refine ⟨_, rfl, _, sw _ _ mL, Nat.lt_of_le_of_lt hsz (by decide), ?_, Same.put (s5.trans sw) hL⟩
          rw [upd_same, er, if_pos c, List.map_append, Int.zero_add]; rfl
        · refine ⟨?_, s5.trans sw⟩
          rw [er, if_neg (by rw [c]; decide), List.append_nil]
          exact sw _ _ mL
      rintro H5 ⟨mL, s5⟩
      have hoff : (!decide (TL = []) && decide ((List.range TL.length).filter cnd = [])) = metL (patL (tl r)) (W.map tl) := by
        unfold metL
        rw [← eP, List.length_map, List.length_map]
        by_cases hle : P.length ≤ W.length
        · rw [if_pos hle] at eT
          have l1 : TL.length = P.length := by rw [eT, lastN_len]; omega
          have n1 : TL ≠ [] := fun z => by rw [z] at l1; simp at l1; omega
          rw [decide_eq_false n1, decide_eq_true hle, l1]
          have e3 : TL.map tl = lastN (P.map tl).length (W.map tl) := by
            rw [eT, List.length_map]; unfold lastN; rw [List.map_drop, List.length_map]
          show (true && decide ((List.range P.length).filter (fun k => !(decide ((P.map tl).getD k [] = [42]) || decide ((P.map tl).getD k [] = (TL.map tl).getD k []))) = [])) = _
          rw [e3]; rfl
        · rw [if_neg hle] at eT
          rw [decide_eq_true eT, decide_eq_false hle]; rfl
      try dsimp only
      refine seq_asg ?_
      have laW : ∀ w ∈ W, PyData.canLay0 (.str w) = true := fun w hw => by
        rw [← hW, dot_eq] at hw
        exact split_strOk (by decide) (fun s hs => by have := hya s hs; omega) w hw
      have laT : ∀ w ∈ TL, PyData.canLay0 (.str w) = true := fun w hw => by
        rw [eT] at hw
        split at hw
        · exact laW w (lastN_mem hw)
        · cases hw
      have m45 := s5 _ _ m4
      refine (givS_and (σ := [some (V.ref p), some (.str y), some (.ref p1), some (.int (sz : Nat)), some (.int (ah : Nat)), some (.str r), some (.ref p2), some (.ref q), some (.ref L), v9, none]) (H0 := H5) (b := !decide (TL = [])) (c := decide ((List.range TL.length).filter cnd = [])) (fun H' Q' s' q' => ?n1) (fun _ H' Q' s' q' => ?n2)) _ _ (Same.refl _) fun H6 s6 => ?_
      case n1 =>
        refine ⟨_, rfl, by show 0 ≤ sizeLine; decide, fun w hw => ?_⟩
        have sw := Same.new (o := HO.lst []) hw
        refine ⟨_, _, dp_strs (SqL.of (sw _ _ (s' _ _ m45))), dp_strs (ys := []) (SqL.of upd_same), shaped_strs laT, shaped_strs (ys := []) (fun y hy => by cases hy), ?_⟩
        rw [eqv_nil]
        exact q' _ sw
      case n2 =>
        refine ⟨_, rfl, by show 0 ≤ sizeLine; decide, fun w hw => ?_⟩
        have sw := Same.new (o := HO.lst []) hw
        refine ⟨_, _, .lst (SqL.of (sw _ _ (s' _ _ mL))) (dpAll_nats _), .lst (SqL.of upd_same) .nil, shaped_nats _, shaped_nats [], ?_⟩
        rw [nats_eqv]
        exact q' _ sw
      rw [hoff]
      have e5 := foldS_snoc (W.map tl) ((rs.take i).map tl) (tl r)
      rw [← hf] at e5
      have s16 := (s14.trans s5).trans s6
      have m26 := s6 _ _ (s5 _ _ m24)
      have emax : ∀ a : Nat, (if (((P.map V.str).length : Nat) : Int) > (a : Int) then (((P.map V.str).length : Nat) : Int) else (a : Int)) = ((max a (patL (tl r)).length : Nat) : Int) := fun a => by
        rw [List.length_map, lP]
        split <;> omega
      unfold stepL at e5
      cases hm : metL (patL (tl r)) (W.map tl) with
      | false =>
        rw [hm, if_neg (by decide)] at e5
        refine ⟨_, rfl, _, rfl, iteF (iteF ⟨_, rfl, _, rfl, iteF ?_⟩)⟩
        exact ⟨sz, ah, _, _, _, _, _, rfl, by rw [e2, e5], s16⟩
      | true =>
        rw [hm, if_pos rfl] at e5
        refine ⟨_, rfl, _, rfl, iteT ?_⟩
        refine ⟨_, rfl, 1, rfl, r, rfl, r100, rfl, ?_⟩
        rw [hb]
        cases he : excT (tl r) with
        | true =>
          rw [he, if_pos rfl] at e5
          refine ⟨_, rfl, iteT ⟨_, rfl, _, rfl, p2, _, rfl, .inl (SqL.of m26), _, _, rfl, ?_⟩⟩
          rw [emax]
          exact ⟨sz, _, _, _, _, _, _, rfl, by rw [e2, e5], s16⟩
        | false =>
          rw [he, if_neg (by decide)] at e5
          refine ⟨_, rfl, iteF ⟨_, rfl, _, rfl, iteT ⟨_, rfl, _, rfl, p2, _, rfl, .inl (SqL.of m26), _, _, rfl, ?_⟩⟩⟩
          rw [emax]
          exact ⟨_, ah, _, _, _, _, _, rfl, by rw [e2, e5], s16⟩
    rintro σ H2 ⟨sz, ah, v5, v6, v7, v8, v9, rfl, hf, s2⟩
    rw [List.length_map, List.take_length] at hf
    have hb := foldS_le (w := W.map tl) (by rw [List.length_map]; exact w1) (rs.map tl)
    rw [← hf, List.length_map] at hb
    have en : sufN7 (rs.map tl) (W.map tl) = if 0 < ah then ah - 1 else sz := by unfold sufN7; rw [← hf]
    have m12 := s2 _ _ m1
    refine ⟨⟨_, rfl⟩, _, rfl, _, rfl, p1, _, rfl, .inl (SqL.of m12), ?_⟩
    have hn : sufN7 (rs.map tl) (W.map tl) ≤ W.length := by rw [en]; simp only at hb; split <;> omega
    refine tif_cut (R := fun v H' => v = .int ((sufN7 (rs.map tl) (W.map tl) : Nat) : Int) ∧ H' = H2) (fun Q' q' => ?_) (fun v H' ⟨ev, eH⟩ => ?_)
    · rw [en] at q'
      refine ⟨_, rfl, _, _, rfl, rfl, _, rfl, iteB (fun c => ?_) (fun c => ?_)⟩
      · have c : (0 : Int) < (ah : Int) := of_decide_eq_true c
        refine ⟨_, rfl, _, _, rfl, rfl, q' _ _ ⟨?_, rfl⟩⟩
        have c2 : 0 < ah := by omega
        rw [if_pos c2]
        have : ((ah - 1 : Nat) : Int) = (ah : Int) - 1 := by omega
        rw [this]
      · have c : ¬ (0 : Int) < (ah : Int) := of_decide_eq_false c
        refine ⟨_, rfl, q' _ _ ⟨?_, rfl⟩⟩
        rw [if_neg (by omega)]
    subst ev eH
    refine ⟨_, _, rfl, rfl, _, rfl, p1, _, rfl, SqL.of m12, fun q hq => ?_⟩
    generalize hnn : sufN7 (rs.map tl) (W.map tl) = n at hn ⊢
    have ecut : cutV (W.map V.str) (some (((W.map V.str).length : Int) - (n : Int))) none = (lastN n W).map V.str := by
      rw [cutV_from _ (by rw [List.length_map]; omega), List.length_map]
      unfold lastN
      rw [List.map_drop, show ((W.length : Int) - (n : Int)).toNat = W.length - n by omega]
    have hwl : ∀ z ∈ lastN n W, z.length ≤ 1000 := fun z hz => by
      have := lastN_mem hz
      rw [← hW, dot_eq] at this
      exact Nat.le_trans (split_mem_len (by decide) this) (by omega)
    have hl9 : (lastN n W).length ≤ 1001 := by rw [lastN_len]; omega
    have hs := sum_map_le _ hwl
    have hd : ("." : Str).length = 1 := by decide +kernel
    refine ⟨_, q, lastN n W, rfl, rfl, .inl (SqL.of (by rw [upd_same, ecut])), by rw [hd]; exact join_fits hs hl9, ?_⟩
    refine hQ _ _ ((s1.trans s2).trans (Same.new hq)) ?_
    rw [join_tl, tl_dot]
    unfold sufT7
    rw [← eW, hnn]
    unfold lastN
    rw [List.length_map, List.map_drop]
theorem ok__law_family (T : Txt K mg) : Cal P w K mg base CX0 2 "_law_family" ["rules", "host"] (sp__law_family K) := by
  refine T.d__law_family.ok0 sc__law_family (fun vs H Q E h => ?_) (fun f cdv A outer s H vs Q E hr h => ?_)
  · first | (obtain ⟨_, rfl, _⟩ := h; rfl) | (obtain ⟨_, _, rfl, _⟩ := h; rfl) | (obtain ⟨_, _, _, rfl, _⟩ := h; rfl) | (obtain ⟨_, _, _, _, rfl, _⟩ := h; rfl) | (obtain ⟨_, _, _, _, _, rfl, _⟩ := h; rfl) | (obtain ⟨_, _, _, _, _, _, rfl, _⟩ := h; rfl) | (obtain ⟨_, _, _, _, _, _, _, rfl, _⟩ := h; rfl) | (obtain ⟨_, _, _, _, _, _, _, _, rfl, _⟩ := h; rfl) | (obtain ⟨_, _, _, _, _, _, _, _, _, rfl, _⟩ := h; rfl) | (obtain ⟨_, _, _, _, _, _, _, _, _, _, rfl, _⟩ := h; rfl) | (obtain ⟨_, _, _, _, _, _, _, _, _, _, _, rfl, _⟩ := h; rfl) | (obtain ⟨_, _, _, _, _, _, _, _, _, _, _, _, rfl, _⟩ := h; rfl)
  · refine ⟨_, (pss_cons (ps_if (PW.pt (pw_or (pt_val (pe_c (ok__law_is_numbers T) hr (by decide) (by rfl) pass0 (pa_cons (pv 1) pa_nil))) (pw_or1 (pt_cmpR (op_eq) (pe_c (ok__law_suffix T) hr (by decide) (by rfl) pass0 (pa_cons (pv 0) (pa_cons (pv 1) pa_nil))) (pv 1) (nomark _)))))
      (pss_one (ps_ret (pv 1)))
      pss_nil)
      (pss_one (ps_ret (pe_join pe_str (pe_slice sl_list (pe_split (pv 1) pe_str) (po_some (pe_op op_sub (pe_un un_neg (pe_callB call_len_seq (by rfl) T.b_len (by decide +kernel) (pa_cons (pe_split (pe_c (ok__law_suffix T) hr (by decide) (by rfl) pass0 (pa_cons (pv 0) (pa_cons (pv 1) pa_nil))) pe_str) pa_nil))) pe_int)) po_none))))), ?_⟩
    obtain ⟨p, rs, y, rfl, hp, hrs, hy, hQ⟩ := h
    obtain ⟨hr, hl, hlen⟩ := rules27_in hrs
    obtain ⟨hh, hy40⟩ := host28 hy
    have ha : ascii y := ascii_host hh
    have e7 : famT7 (rs.map tl) (tl y) = famT (rs.map tl) (tl y) := of_decide_eq_true (List.all_eq_true.mp (List.all_eq_true.mp fam7_all rs hrs) y hy)
    have fin : ∀ (e : Str) (H' : Hp), Same H H' → tl e = famT7 (rs.map tl) (tl y) → Q (.str e) H' := fun e H' s he => by
      have : e = famS rs y := by unfold famS; rw [← e7, ← he, mkS_tl]
      rw [this]; exact hQ H' s
    have hr7 : ∀ r ∈ rs, r.length ≤ 100 ∧ r.length ≠ 0 := fun r h => ⟨by have := (hlen r h).1; omega, (hlen r h).2⟩
    refine ⟨_, rfl, y, rfl, by omega, ha, fun H1 s1 => ⟨_, rfl, ?_⟩⟩
    by_cases hn : numsB (tl y) = true
    · rw [hn]
      refine iteT (iteT ⟨_, rfl, fin y H1 s1 ?_⟩)
      unfold famT7
      rw [if_pos hn]
    rw [Bool.eq_false_iff.mpr hn]
    refine iteF ?_
    refine ⟨_, rfl, _, rfl, p, rs, y, rfl, Same.seqT s1 hp, by omega, hr7, by omega, ha, fun e H2 s2 he => ?_⟩
    have s12 := s1.trans s2
    have els : ∀ e : Str, tl e = sufT7 (rs.map tl) (tl y) → e.length ≤ 40 := fun e he => by
      have h1 := (joinL_drop9 (sp1 46 (tl y)) ((sp1 46 (tl y)).length - sufN7 (rs.map tl) (sp1 46 (tl y)))).length_le
      rw [joinL_sp1, ← len_tl] at h1
      have h2 : (tl e).length ≤ y.length := by rw [he]; exact h1
      rw [← len_tl] at h2
      omega
    refine ⟨_, rfl, rfl, _, rfl, iteB (fun c => ?_) (fun c => ?_)⟩
    · have c : e = y := V.str.inj (of_decide_eq_true c)
      refine ⟨_, rfl, fin y H2 s12 ?_⟩
      unfold famT7
      rw [if_neg hn, if_pos (by rw [← he, c])]
    have c : ¬ sufT7 (rs.map tl) (tl y) = tl y := fun z => of_decide_eq_false c (by rw [ext_tl (he.trans z)])
    refine ⟨⟨_, rfl⟩, _, rfl, ⟨_, rfl⟩, _, _, rfl, rfl, by decide +kernel, Nat.le_trans (by omega : _ ≤ 1000) (by decide), fun p1 hp1 => ?_⟩
    have s3 := Same.new (o := HO.lst ((Txt.split y ("." : Str)).map V.str)) hp1
    have m1 := upd_same (H := H2) (a := p1) (o := HO.lst ((Txt.split y ("." : Str)).map V.str))
    have hWm : ∀ z ∈ Txt.split y ("." : Str), z.length ≤ 1000 := fun z hz => by
      rw [dot_eq] at hz
      exact Nat.le_trans (split_mem_len (by decide) hz) (by omega)
    have eW : (Txt.split y ("." : Str)).map tl = sp1 46 (tl y) := by rw [dot_eq]; exact split_sp1 y (by decide)
    generalize Txt.split y ("." : Str) = W at s3 m1 hWm eW ⊢
    generalize upd H2 p1 (HO.lst (W.map V.str)) = H3 at s3 m1 ⊢
    have lW : W.length = (sp1 46 (tl y)).length := by rw [← eW, List.length_map]
    have w2 : W.length ≤ 101 := by
      rw [lW]
      have := sp1_length (c := 46) (tl y)
      rw [← len_tl] at this
      omega
    have s13 := s12.trans s3
    refine ⟨_, rfl, _, rfl, p, rs, y, rfl, Same.seqT s13 hp, by omega, hr7, by omega, ha, fun e2 H4 s4 he2 => ?_⟩
    have l2 := els e2 he2
    refine ⟨⟨_, rfl⟩, _, _, rfl, rfl, by decide +kernel, Nat.le_trans (by omega : _ ≤ 1000) (by decide), fun p2 hp2 => ?_⟩
    have s5 := Same.new (o := HO.lst ((Txt.split e2 ("." : Str)).map V.str)) hp2
    have m2 := upd_same (H := H4) (a := p2) (o := HO.lst ((Txt.split e2 ("." : Str)).map V.str))
    have eU : (Txt.split e2 ("." : Str)).map tl = sp1 46 (sufT7 (rs.map tl) (tl y)) := by rw [dot_eq, split_sp1 e2 (by decide), he2]
    generalize Txt.split e2 ("." : Str) = U at s5 m2 eU ⊢
    generalize upd H4 p2 (HO.lst (U.map V.str)) = H5 at s5 m2 ⊢
    have lU : U.length = (sp1 46 (sufT7 (rs.map tl) (tl y))).length := by rw [← eU, List.length_map]
    refine ⟨p2, _, rfl, .inl (SqL.of m2), _, rfl, _, _, rfl, rfl, _, rfl, p1, _, rfl, SqL.of (s5 _ _ (s4 _ _ m1)), fun q hq => ?_⟩
    have ecut : cutV (W.map V.str) (some (-((U.map V.str).length : Int) - 1)) none = (lastN (U.length + 1) W).map V.str := by
      rw [List.length_map, show (-(U.length : Int) - 1) = -((U.length + 1 : Nat) : Int) by omega, cutV_last _ (by omega)]
      unfold lastN
      rw [List.length_map, List.map_drop]
    have hwl : ∀ z ∈ lastN (U.length + 1) W, z.length ≤ 1000 := fun z hz => hWm z (lastN_mem hz)
    have hl9 : (lastN (U.length + 1) W).length ≤ 1001 := by rw [lastN_len]; omega
    have hs := sum_map_le _ hwl
    have hd : ("." : Str).length = 1 := by decide +kernel
    refine ⟨_, q, lastN (U.length + 1) W, rfl, rfl, .inl (SqL.of (by rw [upd_same, ecut])), by rw [hd]; exact join_fits hs hl9, ?_⟩
    refine fin _ _ (((s13.trans s4).trans s5).trans (Same.new hq)) ?_
    rw [join_tl, tl_dot]
    unfold famT7
    rw [if_neg hn, if_neg c, ← lU, ← eW]
    unfold lastN
    rw [List.length_map, List.map_drop]
theorem ok__law_hosts (T : Txt K mg) : Cal P w K mg base CX0 1 "_law_hosts" [] sp__law_hosts := by
  refine T.d__law_hosts.ok0 sc__law_hosts (fun vs H Q E h => ?_) (fun f cdv A outer s H vs Q E hr h => ?_)
  · obtain ⟨rfl, _⟩ := h; rfl
  · refine ⟨_, (pss_cons (ps_set (i := 0) sc__law_hosts.nd rfl (by first | exact Or.inl rfl | exact Or.inr rfl) (pe_lst (pa_cons pe_str (pa_cons pe_str (pa_cons pe_str (pa_cons pe_str (pa_cons pe_str (pa_cons pe_str (pa_cons pe_str (pa_cons pe_str (pa_cons pe_str pa_nil)))))))))))
      (pss_cons (ps_set (i := 0) sc__law_hosts.nd rfl (by first | exact Or.inl rfl | exact Or.inr rfl) (pe_op op_cat (pv 0) (pe_lst (pa_cons pe_str (pa_cons pe_str (pa_cons pe_str (pa_cons pe_str (pa_cons pe_str (pa_cons pe_str (pa_cons pe_str pa_nil))))))))))
      (pss_one (ps_ret (pe_op op_cat (pv 0) (pe_lst (pa_cons pe_str (pa_cons pe_str (pa_cons pe_str pa_nil))))))))), ?_⟩
    obtain ⟨rfl, hQ⟩ := h
    refine seq_asg ?_
    refine giv_lst (vs := (hosts27.take 9).map V.str) (giv_cons giv_c (giv_cons giv_c (giv_cons giv_c (giv_cons giv_c (giv_cons giv_c (giv_cons giv_c (giv_cons giv_c (giv_cons giv_c (giv_cons giv_c giv_nil))))))))) (by decide) fun p1 h1 => ?_
    try dsimp only
    refine seq_asg ?_
    refine ⟨_, rfl, ?_⟩
    refine giv_lst (vs := ((hosts27.drop 9).take 7).map V.str) (giv_cons giv_c (giv_cons giv_c (giv_cons giv_c (giv_cons giv_c (giv_cons giv_c (giv_cons giv_c (giv_cons giv_c giv_nil))))))) (by decide) fun p2 h2 => ?_
    have s1 := Same.new (o := HO.lst ((hosts27.take 9).map V.str)) h1
    have s2 := Same.new (o := HO.lst (((hosts27.drop 9).take 7).map V.str)) h2
    refine ⟨p1, p2, _, _, rfl, rfl, s2 _ _ upd_same, upd_same, by show 16 ≤ sizeLine; decide, fun p3 h3 => ?_⟩
    have s3 := Same.new (o := HO.lst ((hosts27.take 9).map V.str ++ ((hosts27.drop 9).take 7).map V.str)) h3
    refine ⟨_, rfl, ?_⟩
    refine giv_lst (vs := (hosts27.drop 16).map V.str) (giv_cons giv_c (giv_cons giv_c (giv_cons giv_c giv_nil))) (by decide) fun p4 h4 => ?_
    have s4 := Same.new (o := HO.lst ((hosts27.drop 16).map V.str)) h4
    refine ⟨p3, p4, _, _, rfl, rfl, s4 _ _ upd_same, upd_same, by show 19 ≤ sizeLine; decide, fun p5 h5 => ?_⟩
    have s5 := Same.new (o := HO.lst (((hosts27.take 9).map V.str ++ ((hosts27.drop 9).take 7).map V.str) ++ (hosts27.drop 16).map V.str)) h5
    exact hQ p5 _ ((((s1.trans s2).trans s3).trans s4).trans s5) upd_same
theorem ok__law_crumb_parts (T : Txt K mg) : Cal P w K mg base CX0 3 "_law_crumb_parts" ["draw", "rules"] (sp__law_crumb_parts K) := by
  refine T.d__law_crumb_parts.ok0 sc__law_crumb_parts (fun vs H Q E h => ?_) (fun f cdv A outer s H vs Q E hr h => ?_)
  · first | (obtain ⟨_, rfl, _⟩ := h; rfl) | (obtain ⟨_, _, rfl, _⟩ := h; rfl) | (obtain ⟨_, _, _, rfl, _⟩ := h; rfl) | (obtain ⟨_, _, _, _, rfl, _⟩ := h; rfl) | (obtain ⟨_, _, _, _, _, rfl, _⟩ := h; rfl) | (obtain ⟨_, _, _, _, _, _, rfl, _⟩ := h; rfl) | (obtain ⟨_, _, _, _, _, _, _, rfl, _⟩ := h; rfl) | (obtain ⟨_, _, _, _, _, _, _, _, rfl, _⟩ := h; rfl) | (obtain ⟨_, _, _, _, _, _, _, _, _, rfl, _⟩ := h; rfl) | (obtain ⟨_, _, _, _, _, _, _, _, _, _, rfl, _⟩ := h; rfl) | (obtain ⟨_, _, _, _, _, _, _, _, _, _, _, rfl, _⟩ := h; rfl) | (obtain ⟨_, _, _, _, _, _, _, _, _, _, _, _, rfl, _⟩ := h; rfl)
  · have hu := hu_of hr
    refine ⟨_, (pss_cons (ps_par3 (i := 2) (j := 3) (l := 4) rfl sc__law_crumb_parts.nd rfl rfl rfl (by decide) (by decide) (by decide) rfl rfl rfl (pa_cons (pe_c (ok__law_pick T) hr (by decide) (by rfl) pass0 (pa_cons (pv 0) (pa_cons (pe_c0 (ok__law_hosts T) hr (by decide) (by rfl) pass0) pa_nil))) (pa_cons pe_str (pa_cons pe_str pa_nil))) (by rfl))
      (pss_cons (ps_for PassesOwn.never rfl (pi_range1 (by rfl) T.b_range (pa_cons pe_int pa_nil)) (pg_name (i := 5) sc__law_crumb_parts.nd rfl (by first | exact Or.inl rfl | exact Or.inr rfl))
      (pss_one (ps_if (PW.pt (pw_and (pt_cmpR (op_eq) (pv 3) pe_str (nomark _)) (pw_and1 (pt_cmpR (op_eq) (pv 4) pe_str (nomark _)))))
      (pss_cons (ps_set (i := 3) sc__law_crumb_parts.nd rfl (by first | exact Or.inl rfl | exact Or.inr rfl) (pe_c (ok__law_pick T) hr (by decide) (by rfl) pass0 (pa_cons (pv 0) (pa_cons (pe_lst (pa_cons pe_str (pa_cons pe_str (pa_cons pe_str (pa_cons pe_str (pa_cons pe_str (pa_cons pe_str (pa_cons pe_str (pa_cons pe_str pa_nil))))))))) pa_nil))))
      (pss_one (ps_set (i := 4) sc__law_crumb_parts.nd rfl (by first | exact Or.inl rfl | exact Or.inr rfl) (pe_c (ok__law_pick T) hr (by decide) (by rfl) pass0 (pa_cons (pv 0) (pa_cons (pe_lst (pa_cons pe_str (pa_cons pe_str (pa_cons pe_str (pa_cons pe_str (pa_cons pe_str (pa_cons pe_str pa_nil))))))) pa_nil))))))
      pss_nil)))
      (pss_cons (ps_set (i := 3) sc__law_crumb_parts.nd rfl (by first | exact Or.inl rfl | exact Or.inr rfl) (pe_ifExp (PW.pt (pw_and (pt_cmpR (op_eq) (pv 3) pe_str (nomark _)) (pw_and1 (pt_cmpR (op_eq) (pv 4) pe_str (nomark _))))) pe_str (pv 3)))
      (pss_cons (ps_set (i := 6) sc__law_crumb_parts.nd rfl (by first | exact Or.inl rfl | exact Or.inr rfl) (pe_lower (pe_ifExp (pt_cmpR (op_eq) (pv 3) pe_str (nomark _)) (pv 4) (pv 3))))
      (pss_cons (ps_set (i := 7) sc__law_crumb_parts.nd rfl (by first | exact Or.inl rfl | exact Or.inr rfl) (pe_cmpR (op_eq) (pe_slice sl_str (pv 6) po_none (po_some pe_int)) pe_str (nomark _)))
      (pss_cons (ps_set (i := 8) sc__law_crumb_parts.nd rfl (by first | exact Or.inl rfl | exact Or.inr rfl) (pe_or (pe_c (ok__law_is_numbers T) hr (by decide) (by rfl) pass0 (pa_cons (pv 2) pa_nil)) (pe_or (pe_cmpR (op_eq) (pe_c (ok__law_suffix T) hr (by decide) (by rfl) pass0 (pa_cons (pv 1) (pa_cons (pv 2) pa_nil))) (pv 2) (nomark _)) (pe_one (pv 7)))))
      (pss_cons (ps_set (i := 9) sc__law_crumb_parts.nd rfl (by first | exact Or.inl rfl | exact Or.inr rfl) (pe_disp (pps_cons pe_str (pv 3) (pps_cons pe_str (pv 4) (pps_cons pe_str (pv 2) (pps_cons pe_str (pe_or (pv 8) (pe_one (pe_cmpR (op_eq) (pe_c (ok__law_next T) hr (by decide) (by rfl) pass0 (pa_cons (pv 0) (pa_cons pe_int pa_nil))) pe_int (nomark _)))) pps_nil)))) rfl rfl (by simp) (by decide)))
      (pss_cons (ps_dput hu (pv 9) pe_str (pe_ifExp (pt_val (pv 7)) pe_str (pe_c (ok__law_pick T) hr (by decide) (by rfl) pass0 (pa_cons (pv 0) (pa_cons (pe_lst (pa_cons pe_str (pa_cons pe_str (pa_cons pe_str (pa_cons pe_str (pa_cons pe_str pa_nil)))))) pa_nil)))) rfl)
      (pss_cons (ps_dput hu (pv 9) pe_str (pe_or (pv 7) (pe_or (pe_cmpR (op_eq) (pe_slice sl_str (pv 6) po_none (po_some pe_int)) pe_str (nomark _)) (pe_one (pe_cmpR (op_eq) (pe_c (ok__law_next T) hr (by decide) (by rfl) pass0 (pa_cons (pv 0) (pa_cons pe_int pa_nil))) pe_int (nomark _))))) rfl)
      (pss_cons (ps_expr (pe_bm PySem.F.plainAttrs_dict PySem.F.slot_dict_update PySem.F.type_dict_update mt_updD (pv 9) (pa_cons (pe_disp (pps_cons pe_str (pe_cmpR (op_eq) (pe_c (ok__law_next T) hr (by decide) (by rfl) pass0 (pa_cons (pv 0) (pa_cons pe_int pa_nil))) pe_int (nomark _)) (pps_cons pe_str (pe_c (ok__law_next T) hr (by decide) (by rfl) pass0 (pa_cons (pv 0) (pa_cons pe_int pa_nil))) (pps_cons pe_str pe_non pps_nil))) rfl rfl (by simp) (by decide)) pa_nil)))
      (Evl.pss_cut (ps_if (PW.pt (pw_and (pt_val (pe_dget hu (pv 9) pe_str (fun _ _ => rfl))) (pw_and1 (pt_cmpR (op_eq) (pe_c (ok__law_next T) hr (by decide) (by rfl) pass0 (pa_cons (pv 0) (pa_cons pe_int pa_nil))) pe_int (nomark _)))))
      (pss_cons (ps_set (i := 10) sc__law_crumb_parts.nd rfl (by first | exact Or.inl rfl | exact Or.inr rfl) (pe_tup (pa_cons (pe_c (ok__law_pick T) hr (by decide) (by rfl) pass0 (pa_cons (pv 0) (pa_cons (pe_lst (pa_cons pe_str (pa_cons pe_str pa_nil))) pa_nil))) (pa_cons (pe_c (ok__law_family T) hr (by decide) (by rfl) pass0 (pa_cons (pv 1) (pa_cons (pe_c (ok__law_pick T) hr (by decide) (by rfl) pass0 (pa_cons (pv 0) (pa_cons (pe_c0 (ok__law_hosts T) hr (by decide) (by rfl) pass0) pa_nil))) pa_nil))) pa_nil))))
      (pss_one (ps_dput hu (pv 9) pe_str (pe_tup (pa_cons (pv 10) (pa_cons pe_bl pa_nil))) rfl)))
      (pss_one (ps_if (PW.pt (pw_and (pt_val (pe_dget hu (pv 9) pe_str (fun _ _ => rfl))) (pw_and1 (pt_cmpR (op_eq) (pe_c (ok__law_next T) hr (by decide) (by rfl) pass0 (pa_cons (pv 0) (pa_cons pe_int pa_nil))) pe_int (nomark _)))))
      (pss_cons (ps_set (i := 11) sc__law_crumb_parts.nd rfl (by first | exact Or.inl rfl | exact Or.inr rfl) (pe_or (pe_cmpR (op_eq) (pv 2) pe_str (nomark _)) (pe_one (pe_cmpR (op_eq) (pe_slice sl_str (pv 2) (po_some (pe_un un_neg pe_int)) po_none) pe_str (nomark _)))))
      (pss_one (ps_dput hu (pv 9) pe_str (pe_tup (pa_cons (pe_tup (pa_cons (pe_ix ix_list (pe_lst (pa_cons pe_str (pa_cons pe_str pa_nil))) (pe_c (ok__law_next T) hr (by decide) (by rfl) pass0 (pa_cons (pv 0) (pa_cons (pe_op op_add pe_int (pe_callTy call_int1 (by rfl) T.b_int (by decide +kernel) (pa_cons (pv 11) pa_nil))) pa_nil))) (fun _ _ => rfl)) (pa_cons (pe_c (ok__law_family T) hr (by decide) (by rfl) pass0 (pa_cons (pv 1) (pa_cons (pv 2) pa_nil))) pa_nil))) (pa_cons pe_bl pa_nil))) rfl)))
      pss_nil)))
      (pss_cons (ps_dput hu (pv 9) pe_str (pe_c (ok__law_pick T) hr (by decide) (by rfl) pass0 (pa_cons (pv 0) (pa_cons (pe_op op_cat (pe_lst (pa_cons pe_str (pa_cons pe_str (pa_cons pe_str (pa_cons pe_str pa_nil))))) (pe_op op_rep (pe_lst (pa_cons pe_str (pa_cons pe_str pa_nil))) (pe_callTy call_int1 (by rfl) T.b_int (by decide +kernel) (pa_cons (pe_dget hu (pv 9) pe_str (fun _ _ => rfl)) pa_nil)))) pa_nil))) rfl)
      (Evl.pss_cut (ps_if (PW.pt (pw_and (pt_cmpR (op_notN) (pe_dget hu (pv 9) pe_str (fun _ _ => rfl)) pe_non (nomark _)) (pw_and1 (pt_val (pe_ix ix_tup (pe_dget hu (pv 9) pe_str (fun _ _ => rfl)) pe_int (fun _ _ => rfl))))))
      (pss_one (ps_dput hu (pv 9) pe_str pe_str rfl))
      pss_nil)
      (pss_cons (ps_set (i := 12) sc__law_crumb_parts.nd rfl (by first | exact Or.inl rfl | exact Or.inr rfl) (pe_c (ok__law_pick T) hr (by decide) (by rfl) pass0 (pa_cons (pv 0) (pa_cons (pe_lst (pa_cons pe_int (pa_cons pe_int (pa_cons pe_int (pa_cons (pe_op op_sub pe_int pe_int) pa_nil))))) pa_nil))))
      (pss_cons (ps_expr (pe_bm PySem.F.plainAttrs_dict PySem.F.slot_dict_update PySem.F.type_dict_update mt_updD (pv 9) (pa_cons (pe_disp (pps_cons pe_str (pe_tup (pa_cons (pv 12) (pa_cons (pe_c (ok__law_next T) hr (by decide) (by rfl) pass0 (pa_cons (pv 0) (pa_cons pe_int pa_nil))) pa_nil))) (pps_cons pe_str (pe_op op_add (pv 12) (pe_c (ok__law_next T) hr (by decide) (by rfl) pass0 (pa_cons (pv 0) (pa_cons pe_int pa_nil)))) pps_nil)) rfl rfl (by simp) (by decide)) pa_nil)))
      (pss_cons (ps_dput hu (pv 9) pe_str (pe_c (ok__law_pick T) hr (by decide) (by rfl) pass0 (pa_cons (pv 0) (pa_cons (pe_lst (pa_cons pe_non (pa_cons (pe_op op_add (pe_dget hu (pv 9) pe_str (fun _ _ => rfl)) pe_int) (pa_cons (pe_op op_add (pe_dget hu (pv 9) pe_str (fun _ _ => rfl)) pe_int) (pa_cons (pe_op op_add (pe_dget hu (pv 9) pe_str (fun _ _ => rfl)) pe_int) pa_nil))))) pa_nil))) rfl)
      (pss_one (ps_ret (pv 9))))))))))))))))))), ?_⟩
    obtain ⟨d, g, p, rs, n, rfl, hp, hrs, D, hQ⟩ := h
    have hpn := D.tup hp
    have no : ∀ {H' : Hp} {m : Nat} {q : Addr} {xs : List Str}, GAt H' d g m → H' q = some (.lst (xs.map V.str)) → xs ≠ [] → q ≠ g := fun D' m' ne z => by
      obtain ⟨_, gs, _, _, _, e2, _⟩ := D'
      rw [z, e2] at m'
      have e := HO.lst.inj (Option.some.inj m')
      cases gs with
      | nil => exact ne (List.map_eq_nil_iff.mp e.symm)
      | cons x gs => exact absurd e (by cases ‹List Str› <;> simp)
    refine ⟨_, rfl, rfl, fun p1 H1 s1 m1 => ?_⟩
    refine ⟨d, g, p1, _, n + 59, rfl, m1, no (D.same s1) m1 (by decide), by decide, by decide, D.same s1, fun i0 x0 H2 hx0 k2 D2 => ?_⟩
    obtain ⟨y, hy, rfl⟩ := strAt hx0
    replace hy := List.mem_of_getElem? hy
    have k02 : KeepD d g H H2 := Same.thenD s1 k2
    clear m1 hx0
    try dsimp only
    refine ⟨_, _, _, rfl, ?_⟩
    try dsimp only
    refine ⟨9, rfl, by decide, by decide, for_range (n := 9) (fun i σ H' => ∃ (nm vl : Str) (v5 : Option V), σ = [some (.ref d), some (.ref p), some (.str y), some (.str nm), some (.str vl), v5, none, none, none, none, none, none, none] ∧ nm ∈ labs27 ∧ vl ∈ wors27 ∧ KeepD d g H H' ∧ GAt H' d g (n + 59 - 2 * i)) ⟨_, _, _, rfl, by decide +kernel, by decide +kernel, k02, D2⟩ ?_ ?_⟩
    · rintro i σ H3 hi ⟨nm, vl, v5, rfl, hn, hv, k3, D3⟩
      by_cases h1 : nm = ""
      · subst h1
        by_cases h2 : vl = ""
        · subst h2
          refine ⟨_, rfl, rfl, _, rfl, ite_y (by decide) ⟨_, rfl, rfl, _, rfl, ite_y (by decide) ?_⟩⟩
          refine seq_asg ?_
          refine pick27 (xs := labs27.map V.str) (n := n + 59 - 2 * i - 1) rfl (giv_cons giv_c (giv_cons giv_c (giv_cons giv_c (giv_cons giv_c (giv_cons giv_c (giv_cons giv_c (giv_cons giv_c (giv_cons giv_c giv_nil)))))))) (by decide) (by decide) (D3.less (by omega)) fun j x H4 hx k4 D4 => ?_
          obtain ⟨nm, hnm, rfl⟩ := strAt hx
          try dsimp only
          refine pick27 (xs := wors27.map V.str) (n := n + 59 - 2 * (i + 1)) rfl (giv_cons giv_c (giv_cons giv_c (giv_cons giv_c (giv_cons giv_c (giv_cons giv_c (giv_cons giv_c giv_nil)))))) (by decide) (by decide) (D4.less (by omega)) fun j x H5 hx k5 D5 => ?_
          obtain ⟨vl, hvl, rfl⟩ := strAt hx
          exact ⟨nm, vl, _, rfl, List.mem_of_getElem? hnm, List.mem_of_getElem? hvl, (k3.trans k4).trans k5, D5⟩
        · refine ⟨_, rfl, rfl, _, rfl, ite_y (by decide) ⟨_, rfl, rfl, _, rfl, ite_n (by simp [h2]) ?_⟩⟩
          exact ⟨_, _, _, rfl, hn, hv, k3, D3.less (by omega)⟩
      · refine ⟨_, rfl, rfl, _, rfl, ite_n (by simp [h1]) (ite_n rfl ?_)⟩
        exact ⟨_, _, _, rfl, hn, hv, k3, D3.less (by omega)⟩
    rintro σ H3 ⟨nm, vl, v5, rfl, hn, hv, k3, D3⟩
    try dsimp only
    refine seq_asg ?_
    refine tif_cut (R := fun v H' => H' = H3 ∧ ∃ nq : Str, v = .str nq ∧ nq ∈ labs27 ∧ ¬ (nq = "" ∧ vl = "")) (fun Q' q' => ?_) (fun v H4 ⟨eH, nq, ev, hnq, hnv⟩ => ?_)
    · by_cases h1 : nm = ""
      · subst h1
        by_cases h2 : vl = ""
        · subst h2
          exact ⟨_, rfl, rfl, _, rfl, ite_y (by decide) ⟨_, rfl, rfl, _, rfl, ite_y (by decide) (q' _ _ ⟨rfl, _, rfl, by decide +kernel, by decide⟩)⟩⟩
        · exact ⟨_, rfl, rfl, _, rfl, ite_y (by decide) ⟨_, rfl, rfl, _, rfl, ite_n (by simp [h2]) ⟨_, rfl, q' _ _ ⟨rfl, _, rfl, hn, fun z => h2 z.2⟩⟩⟩⟩
      · exact ⟨_, rfl, rfl, _, rfl, ite_n (by simp [h1]) (ite_n rfl ⟨_, rfl, q' _ _ ⟨rfl, _, rfl, hn, fun z => h1 z.1⟩⟩)⟩
    subst eH ev
    obtain ⟨lok, asc, mkH, mkS, ln, lv, lk⟩ := nv27 hnq hv hnv
    obtain ⟨h28, y40, hadr, sfs, sfh, hfam⟩ := y27 hy
    have ay : ascii y := ascii_host (host28 h28).1
    try dsimp only
    refine seq_asg ?_
    refine te_cut (R := fun v H' => H' = H4 ∧ v = .str (mk27 nq vl)) (fun Q' q' => ?_) (fun v H5 ⟨eH, ev⟩ => ?_)
    · by_cases h1 : nq = ""
      · have e : mk27 nq vl = Txt.lower vl := by unfold mk27; rw [if_pos h1, lowS_eq asc.2]
        refine ⟨_, rfl, rfl, _, rfl, ite_y (by simp [h1]) ⟨_, rfl, ⟨vl, rfl⟩, vl, rfl, rfl, Nat.le_trans lv (by decide), ?_⟩⟩
        rw [← e]; exact q' _ _ ⟨rfl, rfl⟩
      · have e : mk27 nq vl = Txt.lower nq := by unfold mk27; rw [if_neg h1, lowS_eq asc.1]
        refine ⟨_, rfl, rfl, _, rfl, ite_n (by simp [h1]) ⟨_, rfl, ⟨nq, rfl⟩, nq, rfl, rfl, Nat.le_trans ln (by decide), ?_⟩⟩
        rw [← e]; exact q' _ _ ⟨rfl, rfl⟩
    subst eH ev
    try dsimp only
    refine seq_asg ?_
    refine ⟨_, rfl, 7, rfl, mk27 nq vl, rfl, Nat.le_trans lk (by decide), rfl, ?_⟩
    rw [show decide (V.str (cutS (mk27 nq vl) none (some 7)) = V.str "__host-") = firm27 nq vl from by unfold firm27; simp]
    try dsimp only
    refine seq_asg ?_
    refine te_cut (R := fun v H' => Same H5 H' ∧ ∃ al : Bool, v = .bl al ∧ (al = false → numsB (tl y) = false ∧ sfxB rs y = false ∧ firm27 nq vl = false)) (fun Q' q' => ?_) (fun v H6 ⟨s6, al, ev, hal⟩ => ?_)
    · refine ⟨_, rfl, y, rfl, by omega, ay, fun H6 s6 => ⟨_, rfl, ?_⟩⟩
      cases hnum : numsB (tl y) with
      | true => exact ite_y rfl (q' _ _ ⟨s6, _, rfl, fun z => by cases z⟩)
      | false =>
        refine ite_n rfl ?_
        have hp6 : H6 p = some (.tup (rs.map V.str)) := s6 _ _ (k3 _ _ hp hpn.1 hpn.2)
        obtain ⟨hr, hl, hlen⟩ := rules27_in hrs
        refine ⟨_, rfl, _, rfl, p, rs, y, rfl, SqT.of hp6, by omega, fun r h => ⟨by have := (hlen r h).1; omega, (hlen r h).2⟩, by omega, ay, fun e H7 s7 he => ⟨_, rfl, rfl, _, rfl, ?_⟩⟩
        have hk : decide (V.str e = V.str y) = sfxB rs y := by
          rw [← sfx28 hrs h28, ← he]
          by_cases q : e = y
          · rw [decide_eq_true (by rw [q]), decide_eq_true (by rw [q])]
          · rw [decide_eq_false (fun z => q (V.str.inj z)), decide_eq_false fun z => q (ext_tl z)]
        rw [hk]
        cases hsf : sfxB rs y with
        | true => exact ite_y rfl (q' _ _ ⟨s6.trans s7, _, rfl, fun z => by cases z⟩)
        | false => exact ite_n rfl ⟨_, rfl, q' _ _ ⟨s6.trans s7, _, rfl, fun z => ⟨hnum, hsf, z⟩⟩⟩
    subst ev
    try dsimp only
    refine seq_asg ?_
    have k6 := k3.same s6
    have D6 := D3.same s6
    intro A hA
    have nA := D6.new hA
    have fA : H A = none := k6.newer nA.1 nA.2 hA
    have c0 : Cpt d g A H (upd H6 A (.dK [])) (n + 59 - 2 * 9) [] .non none := ⟨k6.updN fA, D6.upd nA.1 nA.2, upd_same, nA.1, nA.2, fA, rfl⟩
    generalize upd H6 A (.dK []) = H7 at c0 ⊢
    refine ⟨_, rfl, _, rfl, _, rfl, ?_⟩
    show tOrV _ _ _ _ _
    refine te_cut (R := fun v H' => ∃ ex : Bool, v = .bl ex ∧ (ex = false → al = false) ∧ Cpt d g A H H' (n + 40) [] .non none) (fun Q' q' => ?_) (fun v H8 ⟨ex, ev, hex, c8⟩ => ?_)
    · cases hal : al with
      | true => exact ⟨_, rfl, _, rfl, ite_y rfl (q' _ _ ⟨true, rfl, (fun z => by cases z), c0.less (by omega)⟩)⟩
      | false => exact ⟨_, rfl, _, rfl, ite_n rfl (coin27 (n := n + 40) rfl (by decide) (by decide) (c0.D.less (by omega)) fun b H8 k D' => q' _ _ ⟨b, rfl, (fun _ => hal), c0.keep k D'⟩)⟩
    subst ev
    refine ⟨c8.a, cK4 nq vl y ex, rfl, by show 4 ≤ 15; decide, ?_⟩
    replace c8 : Cpt d g A H (upd H8 A (.dK (mergeK [] (cK4 nq vl y ex)))) (n + 40) (cK4 nq vl y ex) .non none := c8.put
    generalize upd H8 A (.dK (mergeK [] (cK4 nq vl y ex))) = H9 at c8 ⊢
    clear c0
    -- path
    try dsimp only
    show tIf _ _ _ _ _ _
    refine tif_cut (R := fun v H' => ∃ pt : Str, v = .str pt ∧ pathB (tl pt) = true ∧ (pt = "/" ∨ firm27 nq vl = false) ∧ Cpt d g A H H' (n + 39) (cK4 nq vl y ex) .non none) (fun Q' q' => ?_) (fun v H10 ⟨pt, ev, hpt, hpf, c10⟩ => ?_)
    · cases hf : firm27 nq vl with
      | true => exact ⟨_, rfl, _, rfl, ite_y rfl (q' _ _ ⟨"/", rfl, by decide +kernel, .inl rfl, c8.less (by omega)⟩)⟩
      | false =>
        refine ⟨_, rfl, _, rfl, ite_n rfl (pick27 (xs := (["/", "/a", "/a/", "/a/b", "/ab"] : List Str).map V.str) (n := n + 39) rfl (giv_cons giv_c (giv_cons giv_c (giv_cons giv_c (giv_cons giv_c (giv_cons giv_c giv_nil))))) (by decide) (by decide) c8.D fun j x H10 hx k D' => ?_)⟩
        obtain ⟨pt, hpt, rfl⟩ := strAt hx
        exact q' _ _ ⟨pt, rfl, List.all_eq_true.mp (by decide +kernel : (["/", "/a", "/a/", "/a/b", "/ab"] : List Str).all (fun z => pathB (tl z)) = true) pt (List.mem_of_getElem? hpt), .inr hf, c8.keep k D'⟩
    subst ev
    refine ⟨_, rfl, A, _, rfl, putKV (l' := cK5 nq vl y ex pt) c10.a rfl, ?_⟩
    have c11 := c10.put (l' := (cK5 nq vl y ex pt))
    generalize L2.upd H10 A (.dK (cK5 nq vl y ex pt)) = H11 at c11 ⊢
    clear c8 c10
    -- secure
    try dsimp only
    show tOrV _ _ _ _ _
    refine te_cut (R := fun v H' => ∃ sec : Bool, v = .bl sec ∧ (sec = false → firm27 nq vl = false ∧ secm27 nq vl = false) ∧ Cpt d g A H H' (n + 38) (cK5 nq vl y ex pt) .non none) (fun Q' q' => ?_) (fun v H12 ⟨sec, ev, hsec, c12⟩ => ?_)
    · cases hf : firm27 nq vl with
      | true => exact ⟨_, rfl, _, rfl, ite_y rfl (q' _ _ ⟨true, rfl, (fun z => by cases z), c11.less (by omega)⟩)⟩
      | false =>
        refine ⟨_, rfl, _, rfl, ite_n rfl ⟨_, rfl, 9, rfl, mk27 nq vl, rfl, Nat.le_trans lk (by decide), rfl, ?_⟩⟩
        rw [show decide (V.str (cutS (mk27 nq vl) none (some 9)) = V.str "__secure-") = secm27 nq vl from by unfold secm27; simp]
        cases hs : secm27 nq vl with
        | true => exact ⟨_, rfl, ite_y rfl (q' _ _ ⟨true, rfl, (fun z => by cases z), c11.less (by omega)⟩)⟩
        | false => exact ⟨_, rfl, ite_n rfl (coin27 (n := n + 38) rfl (by decide) (by decide) c11.D fun b H8 k D' => q' _ _ ⟨b, rfl, (fun _ => ⟨hf, hs⟩), c11.keep k D'⟩)⟩
    subst ev
    refine ⟨_, rfl, A, _, rfl, putKV (l' := cK6 nq vl y ex pt sec) c12.a rfl, ?_⟩
    have c13 := c12.put (l' := (cK6 nq vl y ex pt sec))
    generalize L2.upd H12 A (.dK (cK6 nq vl y ex pt sec)) = H13 at c13 ⊢
    clear c11 c12
    -- hidden, rank
    try dsimp only
    refine ⟨_, rfl, .inr (.inr (.inl ⟨rfl, .inl ⟨_, c13.a⟩⟩)), fun B hB => ?_⟩
    have nB := c13.D.new hB
    have nAB : B ≠ A := fun z => by rw [z, c13.a] at hB; cases hB
    have fB : H B = none := c13.k.newer nB.1 nB.2 hB
    have c14 := c13.same (Same.new (o := HO.dK []) hB)
    have mB := upd_same (H := H13) (a := B) (o := HO.dK [])
    generalize upd H13 B (.dK []) = H14 at c14 mB ⊢
    show tOp _ _ _ _ _ _
    refine coin27 (n := n + 37) rfl (by decide) (by decide) c14.D fun hid H15 k15 D15 => ?_
    have c15 := c14.keep k15 D15
    have mB15 := k15 _ _ mB nB.1 nB.2
    show tCall _ _ _ _ _ _ _
    refine next27 (n := n + 36) rfl (by decide) (by decide) c15.D fun rk H16 rk0 rk3 k16 D16 => ?_
    have c16 := c15.keep k16 D16
    have mB16 := k16 _ _ mB15 nB.1 nB.2
    refine ⟨mB16, [(Sum.inr "hidden", .bl hid), (Sum.inr "rank", .int rk), (Sum.inr "space", .non)], rfl, by show 3 ≤ 15; decide, ?_⟩
    have c17 := c16.oth (o := .dK (mergeK [] [((Sum.inr "hidden" : L2.Key), V.bl hid), (Sum.inr "rank", .int rk), (Sum.inr "space", .non)])) mB16 nAB nB.1 nB.2 fB
    have mB17 := upd_same (H := H16) (a := B) (o := HO.dK (mergeK [] [((Sum.inr "hidden" : L2.Key), V.bl hid), (Sum.inr "rank", .int rk), (Sum.inr "space", .non)]))
    generalize upd H16 B (.dK (mergeK [] [((Sum.inr "hidden" : L2.Key), V.bl hid), (Sum.inr "rank", .int rk), (Sum.inr "space", .non)])) = H17 at c17 mB17 ⊢
    refine ⟨A, B, _, _, rfl, rfl, Ne.symm nAB, c17.a, mB17, by show 6 + 3 ≤ sizeLine; decide, ?_⟩
    have c18 : Cpt d g A H (upd H17 A (.dK (mergeK (cK6 nq vl y ex pt sec) (mergeK [] [((Sum.inr "hidden" : L2.Key), V.bl hid), (Sum.inr "rank", .int rk), (Sum.inr "space", .non)])))) (n + 36)
      (cK9 nq vl y ex pt sec hid rk .non) .non none := c17.put
    generalize upd H17 A _ = H18 at c18 ⊢
    clear c13 c14 c15 c16 c17 mB mB15 mB16 mB17 k15 k16 D15 D16
    try dsimp only
    have hpk : ∀ {H' : Hp}, KeepD d g H H' → H' p = some (.tup (rs.map V.str)) := fun k => k _ _ hp hpn.1 hpn.2
    refine ⟨fun σ' H' => ∃ (v10 v11 : Option V) (v : V) (o : Option ((Str × Str) × Bool)), σ' = [some (.ref d), some (.ref p), some (.str y), some (.str nq), some (.str vl), v5, some (.str (mk27 nq vl)), some (.bl (firm27 nq vl)), some (.bl al), some (.ref A), v10, v11, none] ∧ Cpt d g A H H' (n + 30) (cK9 nq vl y ex pt sec hid rk v) v o ∧ SpG rs y sec o, ?_, ?_⟩
    · refine ⟨_, rfl, A, _, rfl, valK c18.a rfl, _, rfl, ?_⟩
      have no0 : SpG rs y sec none := fun x hx => by cases hx
      cases hse : sec with
      | false =>
        rw [hse] at no0
        refine ite_n rfl (ite_n rfl ⟨_, rfl, A, _, rfl, valK c18.a rfl, _, rfl, ite_n hse (ite_n rfl ?_)⟩)
        exact ⟨_, _, .non, none, rfl, by rw [← hse]; exact c18.less (by omega), no0⟩
      | true =>
        subst hse
        refine ite_y rfl ?_
        refine coin27 (n := n + 35) rfl (by decide) (by decide) c18.D fun b H19 k19 D19 => ⟨_, rfl, ?_⟩
        have c19 := c18.keep k19 D19
        cases b with
        | true =>
          refine ite_y rfl ?_
          refine seq_asg ?_
          refine pick27 (xs := (["https", "http"] : List Str).map V.str) (n := n + 34) rfl (giv_cons giv_c (giv_cons giv_c giv_nil)) (by decide) (by decide) c19.D fun j x H20 hx k20 D20 => ?_
          obtain ⟨sc, hsc, rfl⟩ := strAt hx
          have hsc2 : sc ∈ schemes2 := (by decide +kernel : ∀ z ∈ (["https", "http"] : List Str), z ∈ schemes2) sc (List.mem_of_getElem? hsc)
          have c20 := c19.keep k20 D20
          refine ⟨_, rfl, _, rfl, rfl, fun p2 H21 s21 m21 => ⟨d, g, p2, _, n + 33, rfl, m21, no (c20.D.same s21) m21 (by decide), by decide, by decide, c20.D.same s21, fun j2 x2 H22 hx2 k22 D22 => ?_⟩⟩
          obtain ⟨y2, hy2, rfl⟩ := strAt hx2
          have hy2 := y27 (List.mem_of_getElem? hy2)
          have c22 := (c20.same s21).keep k22 D22
          refine ⟨p, rs, y2, rfl, SqT.of (hpk c22.k), hrs, hy2.1, fun H23 s23 => ⟨by show 2 ≤ sizeLine; decide, fun T hT => ?_⟩⟩
          have c24 := (c22.same s23).same (Same.new (o := HO.tup [V.str sc, V.str (famS rs y2)]) hT)
          have mT := upd_same (H := H23) (a := T) (o := HO.tup [V.str sc, V.str (famS rs y2)])
          generalize upd H23 T (HO.tup [V.str sc, V.str (famS rs y2)]) = H24 at c24 mT ⊢
          try dsimp only
          refine ⟨_, rfl, by show 2 ≤ sizeLine; decide, fun U hU => ?_⟩
          have sU := Same.new (o := HO.tup [V.ref T, V.bl true]) hU
          have c25 := c24.same sU
          have mT5 := sU _ _ mT
          have mU := upd_same (H := H24) (a := U) (o := HO.tup [V.ref T, V.bl true])
          generalize upd H24 U (HO.tup [V.ref T, V.bl true]) = H25 at c25 mT5 mU ⊢
          refine ⟨_, rfl, A, _, rfl, putKV (l' := cK9 nq vl y ex pt true hid rk (.ref U)) c25.a rfl, ?_⟩
          have f2 := hy2.2.2.2.2.2 rs hrs
          refine ⟨_, _, .ref U, some ((sc, famS rs y2), true), rfl, ((c25.spc (v' := .ref U) (sp' := some ((sc, famS rs y2), true)) ⟨U, T, rfl, mU, mT5⟩).put).less (by omega), fun x hx => ?_⟩
          cases hx
          exact ⟨⟨hsc2, (host28 f2.1).1⟩, rfl, f2.1, f2.2.1, fun z => by cases z⟩
        | false =>
          refine ite_n rfl ⟨_, rfl, A, _, rfl, valK c19.a rfl, _, rfl, ite_y rfl ?_⟩
          refine coin27 (n := n + 34) rfl (by decide) (by decide) c19.D fun b H20 k20 D20 => ⟨_, rfl, ?_⟩
          have c20 := c19.keep k20 D20
          cases b with
          | false => exact ite_n rfl ⟨_, _, .non, none, rfl, c20.less (by omega), no0⟩
          | true =>
            refine ite_y rfl ?_
            refine seq_asg ?_
            refine te_cut (R := fun v H' => H' = H20 ∧ v = .bl (decide (y = "localhost") || decide (cutS y (some (-10)) none = ".localhost"))) (fun Q' q' => ?_) (fun w H21 ⟨eH, ev⟩ => ?_)
            · refine ⟨_, rfl, rfl, _, rfl, ?_⟩
              by_cases hl : y = "localhost"
              · exact ite_y (by simp [hl]) (q' _ _ ⟨rfl, by simp [hl]⟩)
              · refine ite_n (by simp [hl]) ⟨_, rfl, 10, rfl, -10, rfl, y, rfl, Nat.le_trans y40 (by decide), rfl, q' _ _ ⟨rfl, ?_⟩⟩
                rw [decide_eq_false hl, Bool.false_or]; simp
            subst eH ev
            generalize (decide (y = "localhost") || decide (cutS y (some (-10)) none = ".localhost")) = loc at sfh ⊢
            refine ⟨by show 2 ≤ sizeLine; decide, fun p3 h3 => ?_⟩
            have n3 := c20.D.new h3
            have c21 := c20.same (Same.new (o := HO.lst [V.str "https", .str "http"]) h3)
            have m3 := upd_same (H := H21) (a := p3) (o := HO.lst [V.str "https", .str "http"])
            generalize upd H21 p3 (HO.lst [V.str "https", .str "http"]) = H22 at c21 m3 ⊢
            refine ⟨_, rfl, _, rfl, .inr ⟨loc, rfl, _, _, rfl, rfl, d, g, _, n + 33, rfl, by split <;> decide, by split <;> decide, c21.D, fun r H23 r0 r1 k23 D23 => ?_⟩⟩
            have c23 := c21.keep k23 D23
            have m33 := k23 _ _ m3 n3.1 n3.2
            obtain ⟨sc, hat, hsc2, hsafe⟩ : ∃ sc : Str, atI [V.str "https", .str "http"] r = some (.str sc) ∧ sc ∈ schemes2 ∧ safeB sc y = true := by
              have : r = 0 ∨ (r = 1 ∧ loc = true) := by
                cases loc with
                | true =>
                  rw [if_pos rfl] at r1
                  by_cases hz : r = 0
                  · exact .inl hz
                  · exact .inr ⟨by omega, rfl⟩
                | false =>
                  rw [if_neg (by decide)] at r1
                  exact .inl (by omega)
              rcases this with rfl | ⟨rfl, hl⟩
              · exact ⟨"https", rfl, by decide +kernel, sfs⟩
              · exact ⟨"http", rfl, by decide +kernel, sfh hl⟩
            refine ⟨p3, _, r, _, rfl, rfl, SqL.of m33, hat, _, rfl, _, rfl, p, rs, y, rfl, SqT.of (hpk c23.k), hrs, h28, fun H24 s24 => ⟨by show 2 ≤ sizeLine; decide, fun T hT => ?_⟩⟩
            have c25 := (c23.same s24).same (Same.new (o := HO.tup [V.str sc, V.str (famS rs y)]) hT)
            have mT := upd_same (H := H24) (a := T) (o := HO.tup [V.str sc, V.str (famS rs y)])
            generalize upd H24 T (HO.tup [V.str sc, V.str (famS rs y)]) = H25 at c25 mT ⊢
            refine ⟨by show 2 ≤ sizeLine; decide, fun U hU => ?_⟩
            have sU := Same.new (o := HO.tup [V.ref T, V.bl false]) hU
            have c26 := c25.same sU
            have mT6 := sU _ _ mT
            have mU := upd_same (H := H25) (a := U) (o := HO.tup [V.ref T, V.bl false])
            generalize upd H25 U (HO.tup [V.ref T, V.bl false]) = H26 at c26 mT6 mU ⊢
            refine ⟨_, rfl, A, _, rfl, putKV (l' := cK9 nq vl y ex pt true hid rk (.ref U)) c26.a rfl, ?_⟩
            have f2 := hfam rs hrs
            refine ⟨_, _, .ref U, some ((sc, famS rs y), false), rfl, ((c26.spc (v' := .ref U) (sp' := some ((sc, famS rs y), false)) ⟨U, T, rfl, mU, mT6⟩).put).less (by omega), fun x hx => ?_⟩
            cases hx
            exact ⟨⟨hsc2, (host28 f2.1).1⟩, rfl, f2.1, f2.2.1, fun _ => ⟨f2.2.2, hsafe, rfl⟩⟩
    rintro σ H19 ⟨v10, v11, v, o, rfl, c19, hG⟩
    clear c18
    try dsimp only
    -- same
    show tCall _ _ _ _ _ _ _
    refine te_cut (R := fun w H' => ∃ sm : Str, w = .str sm ∧ (sm = "default" ∨ sm = "strict" ∨ sm = "lax" ∨ sm = "none") ∧ (sec = true ∨ sm ≠ "none") ∧ Cpt d g A H H' (n + 29) (cK9 nq vl y ex pt sec hid rk v) v o) (fun Q' q' => ?_) (fun w H20 ⟨sm, ev, hsm, hsm2, c20⟩ => ?_)
    · refine ⟨_, rfl, by show 4 ≤ sizeLine; decide, fun p3 h3 => ⟨by show 2 ≤ sizeLine; decide, fun p4 h4 => ?_⟩⟩
      have s3 := Same.new (o := HO.lst [V.str "strict", .str "lax", .str "default", .str "default"]) h3
      have s4 := Same.new (o := HO.lst [V.str "none", .str "none"]) h4
      have m3 := s4 _ _ (upd_same (H := H19) (a := p3) (o := HO.lst [V.str "strict", .str "lax", .str "default", .str "default"]))
      have m4 := upd_same (H := upd H19 p3 (HO.lst [V.str "strict", .str "lax", .str "default", .str "default"])) (a := p4) (o := HO.lst [V.str "none", .str "none"])
      have c21 := (c19.same s3).same s4
      generalize upd (upd H19 p3 (HO.lst [V.str "strict", .str "lax", .str "default", .str "default"])) p4 (HO.lst [V.str "none", .str "none"]) = H21 at c21 m3 m4 ⊢
      refine ⟨_, rfl, A, _, rfl, valK c21.a rfl, .inr ⟨sec, rfl, ?_⟩⟩
      have fin : ∀ (L : List Str), (∀ z ∈ L, (z = "default" ∨ z = "strict" ∨ z = "lax" ∨ z = "none") ∧ (sec = true ∨ z ≠ "none")) → 0 < L.length → L.length ≤ 100 → ∀ (p6 : Addr) (H22 : Hp), H22 p6 = some (.lst (L.map V.str)) → p6 ≠ g → Cpt d g A H H22 (n + 30) (cK9 nq vl y ex pt sec hid rk v) v o → sp__law_pick K [.ref d, .ref p6] H22 Q' E0 := fun L hL l0 l1 p6 H22 m6 n6 c22 =>
        ⟨d, g, p6, _, n + 29, rfl, m6, n6, by rw [List.length_map]; exact l0, by rw [List.length_map]; omega, c22.D, fun j x H23 hx k D' => by
          obtain ⟨sm, hs, rfl⟩ := strAt hx
          obtain ⟨h1, h2⟩ := hL sm (List.mem_of_getElem? hs)
          exact q' _ _ ⟨sm, rfl, h1, h2, c22.keep k D'⟩⟩
      cases hse : sec with
      | false =>
        refine ⟨p4, 0, _, rfl, rfl, m4, by decide, by decide, by show 2 * 0 ≤ sizeLine; decide, fun p5 h5 => ?_⟩
        have s5 := Same.new (o := HO.lst (List.replicate (Int.toNat 0) [V.str "none", .str "none"]).flatten) h5
        refine ⟨p3, p5, _, _, rfl, rfl, s5 _ _ m3, upd_same, by show 4 + 0 ≤ sizeLine; decide, fun p6 h6 => ?_⟩
        exact fin ["strict", "lax", "default", "default"] (fun z hz => ((by decide +kernel : ∀ z ∈ (["strict", "lax", "default", "default"] : List Str), (z = "default" ∨ z = "strict" ∨ z = "lax" ∨ z = "none") ∧ z ≠ "none") z hz).imp id .inr) (by decide) (by decide) p6 _ upd_same ((c21.same s5).D.new h6).2 ((c21.same s5).same (Same.new h6))
      | true =>
        refine ⟨p4, 1, _, rfl, rfl, m4, by decide, by decide, by show 2 * 1 ≤ sizeLine; decide, fun p5 h5 => ?_⟩
        have s5 := Same.new (o := HO.lst (List.replicate (Int.toNat 1) [V.str "none", .str "none"]).flatten) h5
        refine ⟨p3, p5, _, _, rfl, rfl, s5 _ _ m3, upd_same, by show 4 + 2 ≤ sizeLine; decide, fun p6 h6 => ?_⟩
        exact fin ["strict", "lax", "default", "default", "none", "none"] (fun z hz => ⟨(by decide +kernel : ∀ z ∈ (["strict", "lax", "default", "default", "none", "none"] : List Str), (z = "default" ∨ z = "strict" ∨ z = "lax" ∨ z = "none")) z hz, .inl hse⟩) (by decide) (by decide) p6 _ upd_same ((c21.same s5).D.new h6).2 ((c21.same s5).same (Same.new h6))
    subst ev
    refine ⟨_, rfl, A, _, rfl, putKV (l' := cK10 nq vl y ex pt sec hid rk v sm) c20.a rfl, ?_⟩
    have c21 := c20.put (l' := cK10 nq vl y ex pt sec hid rk v sm)
    generalize L2.upd H20 A (.dK (cK10 nq vl y ex pt sec hid rk v sm)) = H21 at c21 ⊢
    clear c19 c20
    try dsimp only
    refine ⟨fun σ' H' => ∃ sm : Str, σ' = [some (.ref d), some (.ref p), some (.str y), some (.str nq), some (.str vl), v5, some (.str (mk27 nq vl)), some (.bl (firm27 nq vl)), some (.bl al), some (.ref A), v10, v11, none] ∧ (sm = "default" ∨ sm = "strict" ∨ sm = "lax" ∨ sm = "none") ∧ (sec = true ∨ sm ≠ "none") ∧ (∀ x, o = some x → x.2 = true → sm = "none") ∧ Cpt d g A H H' (n + 29) (cK10 nq vl y ex pt sec hid rk v sm) v o, ?_, ?_⟩
    · refine ⟨_, rfl, A, _, rfl, valK c21.a rfl, rfl, _, rfl, ?_⟩
      have hs := c21.s
      cases o with
      | none =>
        have hs : v = .non := hs
        refine ite_n (by rw [hs]; decide) (ite_n rfl ⟨sm, rfl, hsm, hsm2, (fun x hx => by cases hx), c21⟩)
      | some x =>
        obtain ⟨U, T, rfl, mU, mT⟩ := hs
        refine ite_y (by simp) ⟨_, rfl, A, _, rfl, valK c21.a rfl, U, _, 1, _, rfl, rfl, SqT.of mU, rfl, x.2, rfl, ?_⟩
        cases hx2 : x.2 with
        | false => exact ite_n rfl ⟨sm, rfl, hsm, hsm2, (fun x hx z => by cases hx; rw [hx2] at z; cases z), c21⟩
        | true => exact ite_y rfl ⟨_, rfl, A, _, rfl, putKV (l' := cK10 nq vl y ex pt sec hid rk (.ref U) "none") c21.a rfl, "none", rfl, .inr (.inr (.inr rfl)), .inl (hG x rfl).2.1, (fun _ _ _ => rfl), c21.put⟩
    rintro σ H22 ⟨sm, rfl, hsm, hsm2, hfor, c22⟩
    clear c21
    try dsimp only
    refine seq_asg ?_
    refine pick27 (xs := [V.int 0, .int 7, .int 1000000, .int (253402300799 - 34560300)]) (n := n + 28) rfl (giv_cons giv_c (giv_cons giv_c (giv_cons giv_c (giv_cons (fun σ H Q q => ⟨_, _, rfl, rfl, q⟩) giv_nil)))) (by decide) (by decide) c22.D fun j x H23 hx k23 D23 => ?_
    obtain ⟨fi, rfl, f0, f1⟩ : ∃ fi : Int, x = .int fi ∧ 0 ≤ fi ∧ fi ≤ 253402300799 - 34560300 := by
      have := List.mem_of_getElem? hx
      simp only [List.mem_cons, List.not_mem_nil, or_false] at this
      rcases this with rfl | rfl | rfl | rfl <;> exact ⟨_, rfl, by decide, by decide⟩
    have c23 := c22.keep k23 D23
    clear hx
    try dsimp only
    refine ⟨_, rfl, .inr (.inr (.inl ⟨rfl, .inl ⟨_, c23.a⟩⟩)), fun B hB => ?_⟩
    have nB := c23.D.new hB
    have nAB : B ≠ A := fun z => by rw [z, c23.a] at hB; cases hB
    have fB : H B = none := c23.k.newer nB.1 nB.2 hB
    have c24 := c23.same (Same.new (o := HO.dK []) hB)
    have mB := upd_same (H := H23) (a := B) (o := HO.dK [])
    generalize upd H23 B (.dK []) = H24 at c24 mB ⊢
    refine ⟨_, rfl, ?_⟩
    show tCall _ _ _ _ _ _ _
    refine next27 (n := n + 27) rfl (by decide) (by decide) c24.D fun b1 H25 b10 b11 k25 D25 => ⟨by show 2 ≤ sizeLine; decide, fun T hT => ?_⟩
    have c25 := c24.keep k25 D25
    have mB25 := k25 _ _ mB nB.1 nB.2
    have sT := Same.new (o := HO.tup [V.int fi, V.int b1]) hT
    have c26 := c25.same sT
    have mB26 := sT _ _ mB25
    have mT := upd_same (H := H25) (a := T) (o := HO.tup [V.int fi, V.int b1])
    generalize upd H25 T (HO.tup [V.int fi, V.int b1]) = H26 at c26 mB26 mT ⊢
    refine ⟨_, rfl, ?_⟩
    show tCall _ _ _ _ _ _ _
    refine next27 (n := n + 26) rfl (by decide) (by decide) c26.D fun q3 H27 q30 q31 k27 D27 => ⟨_, _, rfl, rfl, ?_⟩
    have c27 := c26.keep k27 D27
    have mB27 := k27 _ _ mB26 nB.1 nB.2
    have mT27 := k27 _ _ mT (c26.D.tup mT).1 (c26.D.tup mT).2
    refine ⟨mB27, [(Sum.inr "born", .ref T), (Sum.inr "seen", .int (fi + q3))], rfl, by show 2 ≤ 15; decide, ?_⟩
    have c28 := c27.oth (o := .dK (mergeK [] [((Sum.inr "born" : L2.Key), V.ref T), (Sum.inr "seen", .int (fi + q3))])) mB27 nAB nB.1 nB.2 fB
    have mB28 := upd_same (H := H27) (a := B) (o := HO.dK (mergeK [] [((Sum.inr "born" : L2.Key), V.ref T), (Sum.inr "seen", .int (fi + q3))]))
    have mT28 : (upd H27 B (.dK (mergeK [] [((Sum.inr "born" : L2.Key), V.ref T), (Sum.inr "seen", .int (fi + q3))]))) T = some (.tup [V.int fi, V.int b1]) := (upd_ne (fun z => by rw [z, mB27] at mT27; cases mT27)).trans mT27
    generalize upd H27 B (.dK (mergeK [] [((Sum.inr "born" : L2.Key), V.ref T), (Sum.inr "seen", .int (fi + q3))])) = H28 at c28 mB28 mT28 ⊢
    refine ⟨A, B, _, _, rfl, rfl, Ne.symm nAB, c28.a, mB28, by show 10 + 2 ≤ sizeLine; decide, ?_⟩
    have c29 : Cpt d g A H (upd H28 A (.dK (mergeK (cK10 nq vl y ex pt sec hid rk v sm) (mergeK [] [((Sum.inr "born" : L2.Key), V.ref T), (Sum.inr "seen", .int (fi + q3))])))) (n + 26) (cK12 nq vl y ex pt sec hid rk v sm T (fi + q3)) v o := c28.put
    have mT29 : (upd H28 A (.dK (mergeK (cK10 nq vl y ex pt sec hid rk v sm) (mergeK [] [((Sum.inr "born" : L2.Key), V.ref T), (Sum.inr "seen", .int (fi + q3))])))) T = some (.tup [V.int fi, V.int b1]) := (upd_ne (fun z => by rw [z, c28.a] at mT28; cases mT28)).trans mT28
    generalize upd H28 A _ = H29 at c29 mT29 ⊢
    clear c22 c23 c24 c25 c26 c27 c28 mB mB25 mB26 mB27 mB28 mT mT27 mT28 k23 k25 k27 D23 D25 D27 sT
    try dsimp only
    refine ⟨_, rfl, _, rfl, A, _, rfl, valK c29.a rfl, _, _, rfl, rfl, _, rfl, A, _, rfl, valK c29.a rfl, _, _, rfl, rfl, _, rfl, A, _, rfl, valK c29.a rfl, _, _, rfl, rfl, by show 4 ≤ sizeLine; decide, fun p3 h3 => ?_⟩
    have c30 := c29.same (Same.new (o := HO.lst [V.non, .int (fi + q3 + 1), .int (fi + q3 + 60), .int (fi + q3 + 34560000)]) h3)
    have n3 := c29.D.new h3
    have mT30 := (Same.new (o := HO.lst [V.non, .int (fi + q3 + 1), .int (fi + q3 + 60), .int (fi + q3 + 34560000)]) h3) _ _ mT29
    refine ⟨d, g, p3, [V.non, .int (fi + q3 + 1), .int (fi + q3 + 60), .int (fi + q3 + 34560000)], n + 25, rfl, upd_same, n3.2, by show 0 < 4; decide, by show 4 ≤ 1000; decide, c30.D, fun j x H31 hx k31 D31 => ?_⟩
    obtain ⟨en, rfl, hen⟩ : ∃ en : Option Int, x = crI en ∧ ∀ e, en = some e → fi + q3 < e ∧ e ≤ fi + q3 + 34560000 := by
      have := List.mem_of_getElem? hx
      simp only [List.mem_cons, List.not_mem_nil, or_false] at this
      rcases this with rfl | rfl | rfl | rfl
      · exact ⟨none, rfl, fun e z => by cases z⟩
      · exact ⟨some _, rfl, fun e z => by cases z; omega⟩
      · exact ⟨some _, rfl, fun e z => by cases z; omega⟩
      · exact ⟨some _, rfl, fun e z => by cases z; omega⟩
    have mT31 := k31 _ _ mT30 (c30.D.tup mT30).1 (c30.D.tup mT30).2
    have c31 := c30.keep k31 D31
    refine ⟨_, rfl, A, _, rfl, putKV (l' := cK13 nq vl y ex pt sec hid rk v sm T (fi + q3) (crI en)) c31.a rfl, ?_⟩
    have c32 := c31.put (l' := cK13 nq vl y ex pt sec hid rk v sm T (fi + q3) (crI en))
    have mT32 : (L2.upd H31 A (.dK (cK13 nq vl y ex pt sec hid rk v sm T (fi + q3) (crI en)))) T = some (.tup [V.int fi, V.int b1]) := (upd_ne (fun z => by rw [z, c31.a] at mT31; cases mT31)).trans mT31
    refine ⟨_, rfl, hQ A ⟨nq, vl, y, ex, pt, sec, hid, sm, rk, o, fi, b1, fi + q3, en⟩ _ c32.k (c32.D.less (by omega)) ⟨T, v, c32.a, c32.s, mT32⟩ ?_ ⟨h28, fun x hx => (hG x hx).2.2.1⟩ ?_ c32.ad c32.ag fun e he => ?_⟩
    · refine ⟨lok, asc, (host28 h28).1, ?_, ⟨hpt, hpf.imp id fun f => mkH f⟩, ?_, ⟨hsm, hsm2⟩, ⟨rk0, by show rk ≤ 2; omega⟩, fun x hx => ⟨(hG x hx).1, (hG x hx).2.1, hfor x hx, fun z => ⟨((hG x hx).2.2.2.2 z).1, ((hG x hx).2.2.2.2 z).2.1⟩⟩, ⟨f0, by show fi ≤ 253402300799; omega, b10⟩, ⟨by show 0 ≤ fi + q3; omega, by show fi + q3 ≤ 253402300799; omega, by show fi ≤ fi + q3; omega⟩, fun e he => ?_⟩
      · cases hx : ex with
        | true => exact .inl rfl
        | false =>
          obtain ⟨z1, z2, z3⟩ := hal (hex hx)
          exact .inr ⟨mkH z3, hadr z1⟩
      · cases hx : sec with
        | true => exact .inl rfl
        | false => exact .inr (mkS (hsec hx).1 (hsec hx).2)
      · have := hen e he
        refine ⟨?_, ?_, this.1, this.2⟩
        · show 0 ≤ e; omega
        · show e ≤ 253402300799; omega
    · have h1 : (ex || !sfxB rs y) = true := by
        cases hx : ex with
        | true => rfl
        | false => rw [(hal (hex hx)).2.1]; rfl
      unfold canB
      cases o with
      | none => simpa using h1
      | some x =>
        have g := hG x rfl
        have h2 : (x.2 || decide (famS rs y = x.1.2)) = true := by
          cases hx : x.2 with
          | true => rfl
          | false => rw [decide_eq_true (g.2.2.2.2 hx).2.2]; rfl
        show ((ex || !sfxB rs y) && (decide (famS rs x.1.2 = x.1.2) && (x.2 || decide (famS rs y = x.1.2)))) = true
        rw [h1, h2, decide_eq_true g.2.2.2.1]; rfl
    · have := hen e he; omega
theorem ok_is_integer (T : Txt K mg) : Cal P w K mg base CX0 1 "is_integer" ["value"] (sp_is_integer K) := by
  refine T.d_is_integer.ok0 sc_is_integer (fun vs H Q E h => ?_) (fun f cdv A outer s H vs Q E hr h => ?_)
  · first | (obtain ⟨_, rfl, _⟩ := h; rfl) | (obtain ⟨_, _, rfl, _⟩ := h; rfl) | (obtain ⟨_, _, _, rfl, _⟩ := h; rfl) | (obtain ⟨_, _, _, _, rfl, _⟩ := h; rfl) | (obtain ⟨_, _, _, _, _, rfl, _⟩ := h; rfl) | (obtain ⟨_, _, _, _, _, _, rfl, _⟩ := h; rfl) | (obtain ⟨_, _, _, _, _, _, _, rfl, _⟩ := h; rfl) | (obtain ⟨_, _, _, _, _, _, _, _, rfl, _⟩ := h; rfl) | (obtain ⟨_, _, _, _, _, _, _, _, _, rfl, _⟩ := h; rfl) | (obtain ⟨_, _, _, _, _, _, _, _, _, _, rfl, _⟩ := h; rfl) | (obtain ⟨_, _, _, _, _, _, _, _, _, _, _, rfl, _⟩ := h; rfl) | (obtain ⟨_, _, _, _, _, _, _, _, _, _, _, _, rfl, _⟩ := h; rfl)
  · refine ⟨_, (pss_one (ps_ret (pe_and (pe_callB call_isi (by rfl) T.b_isinstance (by decide +kernel) (pa_cons (pv 0) (pa_cons (pe_bltn (v := .ty "int") (by rfl) T.b_int (by decide +kernel) rfl) pa_nil))) (pe_one (pe_not (pe_callB call_isi (by rfl) T.b_isinstance (by decide +kernel) (pa_cons (pv 0) (pa_cons (pe_bltn (v := .ty "bool") (by rfl) T.b_bool (by decide +kernel) rfl) pa_nil)))))))), ?_⟩
    obtain ⟨v, rfl, h⟩ := h
    rcases h with ⟨i, rfl, hQ⟩ | ⟨h, hQ⟩
    · refine ⟨_, rfl, _, _, _, _, true, rfl, .ty _, .base (.int i), kit_ty (by decide +kernel), _, rfl, iteT ?_⟩
      exact ⟨_, rfl, _, _, _, _, false, rfl, .ty _, .base (.int i), kit_ty (by decide +kernel), _, rfl, hQ⟩
    · rcases h with ⟨b, rfl⟩ | ⟨t, ht, hk⟩
      · refine ⟨_, rfl, _, _, _, _, true, rfl, .ty _, .base (.bl b), kit_ty (by decide +kernel), _, rfl, iteT ?_⟩
        exact ⟨_, rfl, _, _, _, _, true, rfl, .ty _, .base (.bl b), kit_ty (by decide +kernel), _, rfl, hQ⟩
      · exact ⟨_, rfl, _, _, _, _, false, rfl, .ty _, ht, hk, _, rfl, iteF hQ⟩
theorem ok_is_tick (T : Txt K mg) : Cal P w K mg base CX0 2 "is_tick" ["value"] (sp_is_tick K) := by
  refine T.d_is_tick.ok0 sc_is_tick (fun vs H Q E h => ?_) (fun f cdv A outer s H vs Q E hr h => ?_)
  · first | (obtain ⟨_, rfl, _⟩ := h; rfl) | (obtain ⟨_, _, rfl, _⟩ := h; rfl) | (obtain ⟨_, _, _, rfl, _⟩ := h; rfl) | (obtain ⟨_, _, _, _, rfl, _⟩ := h; rfl) | (obtain ⟨_, _, _, _, _, rfl, _⟩ := h; rfl) | (obtain ⟨_, _, _, _, _, _, rfl, _⟩ := h; rfl) | (obtain ⟨_, _, _, _, _, _, _, rfl, _⟩ := h; rfl) | (obtain ⟨_, _, _, _, _, _, _, _, rfl, _⟩ := h; rfl) | (obtain ⟨_, _, _, _, _, _, _, _, _, rfl, _⟩ := h; rfl) | (obtain ⟨_, _, _, _, _, _, _, _, _, _, rfl, _⟩ := h; rfl) | (obtain ⟨_, _, _, _, _, _, _, _, _, _, _, rfl, _⟩ := h; rfl) | (obtain ⟨_, _, _, _, _, _, _, _, _, _, _, _, rfl, _⟩ := h; rfl)
  · refine ⟨_, (pss_one (ps_ret (pe_and (pe_c (ok_is_integer T) hr (by decide) (by rfl) pass0 (pa_cons (pv 0) pa_nil)) (pe_one (pe_chain (op_le) (op_le) pe_int (pv 0) (pe_gc (by rfl) T.c_LAST_TICK)))))), ?_⟩
    obtain ⟨v, rfl, h⟩ := h
    rcases h with ⟨i, rfl, hQ⟩ | ⟨h, hQ⟩
    · refine ⟨_, rfl, _, rfl, .inl ⟨i, rfl, _, rfl, iteT ?_⟩⟩
      refine ⟨_, rfl, _, _, rfl, rfl, _, rfl, ?_⟩
      cases h0 : decide ((0 : Int) ≤ i) with
      | false => rw [h0, Bool.false_and] at hQ; exact iteF hQ
      | true => rw [h0, Bool.true_and] at hQ; exact iteT ⟨_, _, rfl, rfl, hQ⟩
    · exact ⟨_, rfl, _, rfl, .inr ⟨h, _, rfl, iteF hQ⟩⟩
theorem ok__is_path_sign (T : Txt K mg) : Cal P w K mg base CX0 1 "_is_path_sign" ["sign"] sp__is_path_sign := by
  refine T.d__is_path_sign.ok0 sc__is_path_sign (fun vs H Q E h => ?_) (fun f cdv A outer s H vs Q E hr h => ?_)
  · first | (obtain ⟨_, rfl, _⟩ := h; rfl) | (obtain ⟨_, _, rfl, _⟩ := h; rfl) | (obtain ⟨_, _, _, rfl, _⟩ := h; rfl) | (obtain ⟨_, _, _, _, rfl, _⟩ := h; rfl) | (obtain ⟨_, _, _, _, _, rfl, _⟩ := h; rfl) | (obtain ⟨_, _, _, _, _, _, rfl, _⟩ := h; rfl) | (obtain ⟨_, _, _, _, _, _, _, rfl, _⟩ := h; rfl) | (obtain ⟨_, _, _, _, _, _, _, _, rfl, _⟩ := h; rfl) | (obtain ⟨_, _, _, _, _, _, _, _, _, rfl, _⟩ := h; rfl) | (obtain ⟨_, _, _, _, _, _, _, _, _, _, rfl, _⟩ := h; rfl) | (obtain ⟨_, _, _, _, _, _, _, _, _, _, _, rfl, _⟩ := h; rfl) | (obtain ⟨_, _, _, _, _, _, _, _, _, _, _, _, rfl, _⟩ := h; rfl)
  · refine ⟨_, (pss_one (ps_ret (pe_and (pe_chain (op_le_str) (op_le_str) pe_str (pv 0) pe_str) (pe_and (pe_cmpR (op_notIn_sign) (pv 0) (pe_gc (by rfl) T.c_BARRED) rfl) (pe_one (pe_cmpR (op_ne) (pe_callB call_ord (by rfl) T.b_ord (by decide +kernel) (pa_cons (pv 0) pa_nil)) (pe_gc (by rfl) T.c_PERCENT) (nomark _))))))), ?_⟩
    obtain ⟨c, rfl, hQ⟩ := h
    rw [psign_eq] at hQ
    refine ⟨_, rfl, _, _, rfl, rfl, _, rfl, ?_⟩
    refine iteB (fun h1 => ?_) (fun h1 => ?_)
    · rw [if_pos h1] at hQ
      refine ⟨_, _, rfl, rfl, _, rfl, ?_⟩
      refine iteB (fun h2 => ?_) (fun h2 => ?_)
      · rw [if_pos h2] at hQ
        refine ⟨_, rfl, _, _, rfl, rfl, _, rfl, ?_⟩
        refine iteB (fun h3 => ?_) (fun h3 => ?_)
        · rw [if_pos h3] at hQ
          refine ⟨_, rfl, _, rfl, rfl, rfl, ?_⟩
          have e : decide (V.int (((⟨#[c]⟩ : Str).cps.getD 0 0 : Nat) : Int) = V.int 37) = decide ((c : Int) = 37) := by
            rw [show ((⟨#[c]⟩ : Str).cps.getD 0 0) = c from rfl, dec_int]; rfl
          rw [e]
          exact hQ
        · rw [if_neg (by rw [h3]; exact Bool.false_ne_true)] at hQ
          exact hQ
      · rw [if_neg (by rw [h2]; exact Bool.false_ne_true)] at hQ
        exact hQ
    · rw [if_neg (by rw [h1]; exact Bool.false_ne_true)] at hQ
      exact ⟨_, rfl, iteF hQ⟩
theorem ok_is_path (T : Txt K mg) : Cal P w K mg base CX0 2 "is_path" ["value"] (sp_is_path K) := by
  refine T.d_is_path.ok0 sc_is_path (fun vs H Q E h => ?_) (fun f cdv A outer s H vs Q E hr h => ?_)
  · first | (obtain ⟨_, rfl, _⟩ := h; rfl) | (obtain ⟨_, _, rfl, _⟩ := h; rfl) | (obtain ⟨_, _, _, rfl, _⟩ := h; rfl) | (obtain ⟨_, _, _, _, rfl, _⟩ := h; rfl) | (obtain ⟨_, _, _, _, _, rfl, _⟩ := h; rfl) | (obtain ⟨_, _, _, _, _, _, rfl, _⟩ := h; rfl) | (obtain ⟨_, _, _, _, _, _, _, rfl, _⟩ := h; rfl) | (obtain ⟨_, _, _, _, _, _, _, _, rfl, _⟩ := h; rfl) | (obtain ⟨_, _, _, _, _, _, _, _, _, rfl, _⟩ := h; rfl) | (obtain ⟨_, _, _, _, _, _, _, _, _, _, rfl, _⟩ := h; rfl) | (obtain ⟨_, _, _, _, _, _, _, _, _, _, _, rfl, _⟩ := h; rfl) | (obtain ⟨_, _, _, _, _, _, _, _, _, _, _, _, rfl, _⟩ := h; rfl)
  · refine ⟨_, (pss_cons (ps_if (PW.pt (pw_or (pt_not (pt_val (pe_callB call_isi (by rfl) T.b_isinstance (by decide +kernel) (pa_cons (pv 0) (pa_cons (pe_bltn (v := .ty "str") (by rfl) T.b_str (by decide +kernel) rfl) pa_nil))))) (pw_or (pt_cmpR (op_gt) (pe_callB call_len_str (by rfl) T.b_len (by decide +kernel) (pa_cons (pv 0) pa_nil)) (pe_gc (by rfl) T.c_MOST_OF_PATH) (nomark _)) (pw_or1 (pt_not (pt_val (pe_m1 PySem.F.slot_str_startswith PySem.F.type_str_startswith mt_startswith (pv 0) pe_str)))))))
      (pss_one (ps_ret pe_bl))
      pss_nil)
      (pss_cons (ps_for PassesOwn.never rfl (pi_str (pv 0)) (pg_name (i := 1) sc_is_path.nd rfl (by first | exact Or.inl rfl | exact Or.inr rfl))
      (pss_one (ps_if (pt_not (pt_val (pe_c (ok__is_path_sign T) hr (by decide) (by rfl) pass0 (pa_cons (pv 1) pa_nil))))
      (pss_one (ps_ret pe_bl))
      pss_nil)))
      (pss_one (ps_ret pe_bl)))), ?_⟩
    obtain ⟨v, b, rfl, hv, hQ⟩ := h
    rcases hv with ⟨x, rfl, hx, rfl⟩ | ⟨t, ht, hk, rfl⟩
    · refine ⟨_, rfl, _, _, _, _, true, rfl, .ty _, .base (.str x), kit_str K, _, rfl, iteF ?_⟩
      refine ⟨_, rfl, x, rfl, Nat.le_trans hx (by decide), _, _, rfl, rfl, _, rfl, iteB (fun h1 => ?_) (fun h1 => ?_)⟩
      · have h1 : (200 : Int) < (x.length : Int) := of_decide_eq_true h1
        have e : pathB (tl x) = false := by
          unfold pathB
          rw [decide_eq_false (by rw [len_tl] at h1; omega), Bool.false_and]
        rw [e] at hQ
        exact hQ
      · have h1 : ¬ (200 : Int) < (x.length : Int) := of_decide_eq_false h1
        have hl : (tl x).length ≤ 200 := by rw [len_tl] at h1; omega
        refine ⟨_, rfl, ⟨_, rfl⟩, _, _, rfl, rfl, _, rfl, ?_⟩
        rw [startswith_tl]
        have e47 : tl ("/" : Str) = [47] := by decide +kernel
        rw [e47]
        cases h2 : [47].isPrefixOf (tl x) with
        | false =>
          have e : pathB (tl x) = false := by
            unfold pathB
            rw [h2, Bool.false_and, Bool.and_false]
          rw [e] at hQ
          exact iteT hQ
        | true =>
          refine iteF ?_
          refine ⟨_, rfl, x, rfl, for_str (z := x) (fun i σ H1 => ∃ sv, σ = [some (.str x), sv] ∧ H1 = H ∧ ((tl x).take i).all psign = true) ⟨none, rfl, rfl, by simp⟩ ?_ ?_⟩
          · rintro i c σ H1 hc ⟨sv, rfl, rfl, ha⟩
            refine ⟨_, rfl, c, rfl, _, rfl, ?_⟩
            cases hp : psign c with
            | true => exact iteF ⟨_, rfl, rfl, by rw [all_at hc, ha, hp]; rfl⟩
            | false =>
              have e : pathB (tl x) = false := by
                unfold pathB
                have : (tl x).all psign = false := by
                  rw [List.all_eq_false]
                  exact ⟨c, List.mem_of_getElem? hc, by rw [hp]; exact Bool.false_ne_true⟩
                rw [this, Bool.and_false, Bool.and_false]
              rw [e] at hQ
              exact iteT hQ
          · rintro σ H1 ⟨sv, rfl, rfl, ha⟩
            rw [List.take_length] at ha
            have e : pathB (tl x) = true := by
              unfold pathB
              rw [decide_eq_true hl, h2, ha]; rfl
            rw [e] at hQ
            exact hQ
    · refine ⟨_, rfl, _, _, _, _, false, rfl, .ty _, ht, hk, _, rfl, iteT ?_⟩
      exact hQ
theorem ok_mark_of (T : Txt K mg) : Cal P w K mg base CX0 1 "mark_of" ["name", "value"] sp_mark_of := by
  refine T.d_mark_of.ok0 sc_mark_of (fun vs H Q E h => ?_) (fun f cdv A outer s H vs Q E hr h => ?_)
  · first | (obtain ⟨_, rfl, _⟩ := h; rfl) | (obtain ⟨_, _, rfl, _⟩ := h; rfl) | (obtain ⟨_, _, _, rfl, _⟩ := h; rfl) | (obtain ⟨_, _, _, _, rfl, _⟩ := h; rfl) | (obtain ⟨_, _, _, _, _, rfl, _⟩ := h; rfl) | (obtain ⟨_, _, _, _, _, _, rfl, _⟩ := h; rfl) | (obtain ⟨_, _, _, _, _, _, _, rfl, _⟩ := h; rfl) | (obtain ⟨_, _, _, _, _, _, _, _, rfl, _⟩ := h; rfl) | (obtain ⟨_, _, _, _, _, _, _, _, _, rfl, _⟩ := h; rfl) | (obtain ⟨_, _, _, _, _, _, _, _, _, _, rfl, _⟩ := h; rfl) | (obtain ⟨_, _, _, _, _, _, _, _, _, _, _, rfl, _⟩ := h; rfl) | (obtain ⟨_, _, _, _, _, _, _, _, _, _, _, _, rfl, _⟩ := h; rfl)
  · refine ⟨_, (pss_cons (ps_set (i := 2) sc_mark_of.nd rfl (by first | exact Or.inl rfl | exact Or.inr rfl) (pe_lower (pe_orT (pv 0) (pe_one (pv 1)))))
      (pss_cons (ps_for PassesOwn.never rfl (pi_tup (pe_tup (pa_cons (pe_gc (by rfl) T.c_SECURE_MARK) (pa_cons (pe_gc (by rfl) T.c_HOST_MARK) pa_nil)))) (pg_name (i := 3) sc_mark_of.nd rfl (by first | exact Or.inl rfl | exact Or.inr rfl))
      (pss_one (ps_if (pt_val (pe_m1 PySem.F.slot_str_startswith PySem.F.type_str_startswith mt_startswith (pv 2) (pv 3)))
      (pss_one (ps_ret (pv 3)))
      pss_nil)))
      (pss_one (ps_ret pe_non)))), ?_⟩
    obtain ⟨x, y, rfl, ax, ay, lx, ly, hQ⟩ := h
    refine seq_asg ?_
    by_cases e : x = ""
    · subst e
      rw [if_pos rfl] at hQ
      refine ⟨_, rfl, false, ⟨by show 0 ≤ sizeLine; decide, by decide +kernel⟩, ite_n rfl ⟨_, rfl, ⟨y, rfl⟩, y, rfl, rfl, Nat.le_trans ly (by decide), ?_⟩⟩
      rw [lowS_eq ay]
      generalize lowS y = t at hQ ⊢
      try dsimp only
      refine ⟨by show 2 ≤ sizeLine; decide, fun T hT => ⟨_, rfl, ⟨_, SqT.of upd_same⟩, ?_⟩⟩
      have sT := Same.new (o := HO.tup [V.str "__secure-", V.str "__host-"]) hT
      have mT := upd_same (H := H) (a := T) (o := HO.tup [V.str "__secure-", V.str "__host-"])
      generalize upd H T (HO.tup [V.str "__secure-", V.str "__host-"]) = H1 at sT mT ⊢
      refine for_tup (K := K) (a := T) (xs := [.str "__secure-", .str "__host-"]) (fun i σ H' => ∃ v3 : Option V, σ = [some (.str ""), some (.str y), some (.str t), v3] ∧ Same H1 H' ∧ (1 ≤ i → (tl ("__secure-" : Str)).isPrefixOf (tl t) = false) ∧ (2 ≤ i → (tl ("__host-" : Str)).isPrefixOf (tl t) = false)) ⟨none, rfl, .refl _, fun z => absurd z (by decide), fun z => absurd z (by decide)⟩ (fun i σ H' _ ⟨_, _, s, _⟩ => SqT.of (s _ _ mT)) ?_ ?_
      · rintro i v σ H3 hi ⟨v3, rfl, s3, n1, n2⟩
        match i, hi with
        | 0, hi =>
          cases hi
          refine ⟨_, rfl, ⟨_, rfl⟩, _, rfl, _, _, rfl, rfl, _, rfl, ?_⟩
          rw [startswith_tl]
          cases e : (tl ("__secure-" : Str)).isPrefixOf (tl t) with
          | true => exact ite_y rfl ⟨_, rfl, by have := hQ H3 (sT.trans s3); unfold markT at this; rw [if_pos e] at this; exact this⟩
          | false => exact ite_n rfl ⟨_, rfl, s3, fun _ => rfl, fun z => absurd z (by decide)⟩
        | 1, hi =>
          cases hi
          have n1 := n1 (Nat.le_refl _)
          refine ⟨_, rfl, ⟨_, rfl⟩, _, rfl, _, _, rfl, rfl, _, rfl, ?_⟩
          rw [startswith_tl]
          cases e : (tl ("__host-" : Str)).isPrefixOf (tl t) with
          | true => exact ite_y rfl ⟨_, rfl, by have := hQ H3 (sT.trans s3); unfold markT at this; rw [if_neg (by rw [n1]; decide), if_pos e] at this; exact this⟩
          | false => exact ite_n rfl ⟨_, rfl, s3, fun _ => n1, fun _ => rfl⟩
        | i + 2, hi => cases hi
      · rintro σ H3 ⟨v3, rfl, s3, n1, n2⟩
        have n1 := n1 (by decide)
        have n2 := n2 (by decide)
        have := hQ H3 (sT.trans s3)
        unfold markT at this
        rw [if_neg (by rw [n1]; decide), if_neg (by rw [n2]; decide)] at this
        exact this
    · rw [if_neg e] at hQ
      refine ⟨_, rfl, true, ⟨Nat.le_trans lx (by decide), ?_⟩, ite_y rfl ⟨⟨x, rfl⟩, x, rfl, rfl, Nat.le_trans lx (by decide), ?_⟩⟩
      · have h0 : x.length ≠ 0 := fun z => e (ext_tl (by rw [List.eq_nil_of_length_eq_zero (by rw [← len_tl]; exact z : (tl x).length = 0)]; decide +kernel))
        simp [h0]
      rw [lowS_eq ax]
      generalize lowS x = t at hQ ⊢
      try dsimp only
      refine ⟨by show 2 ≤ sizeLine; decide, fun T hT => ⟨_, rfl, ⟨_, SqT.of upd_same⟩, ?_⟩⟩
      have sT := Same.new (o := HO.tup [V.str "__secure-", V.str "__host-"]) hT
      have mT := upd_same (H := H) (a := T) (o := HO.tup [V.str "__secure-", V.str "__host-"])
      generalize upd H T (HO.tup [V.str "__secure-", V.str "__host-"]) = H1 at sT mT ⊢
      refine for_tup (K := K) (a := T) (xs := [.str "__secure-", .str "__host-"]) (fun i σ H' => ∃ v3 : Option V, σ = [some (.str x), some (.str y), some (.str t), v3] ∧ Same H1 H' ∧ (1 ≤ i → (tl ("__secure-" : Str)).isPrefixOf (tl t) = false) ∧ (2 ≤ i → (tl ("__host-" : Str)).isPrefixOf (tl t) = false)) ⟨none, rfl, .refl _, fun z => absurd z (by decide), fun z => absurd z (by decide)⟩ (fun i σ H' _ ⟨_, _, s, _⟩ => SqT.of (s _ _ mT)) ?_ ?_
      · rintro i v σ H3 hi ⟨v3, rfl, s3, n1, n2⟩
        match i, hi with
        | 0, hi =>
          cases hi
          refine ⟨_, rfl, ⟨_, rfl⟩, _, rfl, _, _, rfl, rfl, _, rfl, ?_⟩
          rw [startswith_tl]
          cases e : (tl ("__secure-" : Str)).isPrefixOf (tl t) with
          | true => exact ite_y rfl ⟨_, rfl, by have := hQ H3 (sT.trans s3); unfold markT at this; rw [if_pos e] at this; exact this⟩
          | false => exact ite_n rfl ⟨_, rfl, s3, fun _ => rfl, fun z => absurd z (by decide)⟩
        | 1, hi =>
          cases hi
          have n1 := n1 (Nat.le_refl _)
          refine ⟨_, rfl, ⟨_, rfl⟩, _, rfl, _, _, rfl, rfl, _, rfl, ?_⟩
          rw [startswith_tl]
          cases e : (tl ("__host-" : Str)).isPrefixOf (tl t) with
          | true => exact ite_y rfl ⟨_, rfl, by have := hQ H3 (sT.trans s3); unfold markT at this; rw [if_neg (by rw [n1]; decide), if_pos e] at this; exact this⟩
          | false => exact ite_n rfl ⟨_, rfl, s3, fun _ => n1, fun _ => rfl⟩
        | i + 2, hi => cases hi
      · rintro σ H3 ⟨v3, rfl, s3, n1, n2⟩
        have n1 := n1 (by decide)
        have n2 := n2 (by decide)
        have := hQ H3 (sT.trans s3)
        unfold markT at this
        rw [if_neg (by rw [n1]; decide), if_neg (by rw [n2]; decide)] at this
        exact this
theorem ok_key_of (T : Txt K mg) : Cal P w K mg base CX0 1 "key_of" ["space", "host", "is_exact", "path", "name"] sp_key_of := by
  refine T.d_key_of.ok0 sc_key_of (fun vs H Q E h => ?_) (fun f cdv A outer s H vs Q E hr h => ?_)
  · first | (obtain ⟨_, rfl, _⟩ := h; rfl) | (obtain ⟨_, _, rfl, _⟩ := h; rfl) | (obtain ⟨_, _, _, rfl, _⟩ := h; rfl) | (obtain ⟨_, _, _, _, rfl, _⟩ := h; rfl) | (obtain ⟨_, _, _, _, _, rfl, _⟩ := h; rfl) | (obtain ⟨_, _, _, _, _, _, rfl, _⟩ := h; rfl) | (obtain ⟨_, _, _, _, _, _, _, rfl, _⟩ := h; rfl) | (obtain ⟨_, _, _, _, _, _, _, _, rfl, _⟩ := h; rfl) | (obtain ⟨_, _, _, _, _, _, _, _, _, rfl, _⟩ := h; rfl) | (obtain ⟨_, _, _, _, _, _, _, _, _, _, rfl, _⟩ := h; rfl) | (obtain ⟨_, _, _, _, _, _, _, _, _, _, _, rfl, _⟩ := h; rfl) | (obtain ⟨_, _, _, _, _, _, _, _, _, _, _, _, rfl, _⟩ := h; rfl)
  · refine ⟨_, (pss_one (ps_ret (pe_tup (pa_cons (pe_orT (pv 0) (pe_one (pe_tup pa_nil))) (pa_cons (pv 1) (pa_cons (pv 2) (pa_cons (pv 3) (pa_cons (pv 4) pa_nil)))))))), ?_⟩
    obtain ⟨sp, x, y, z, b, rfl, hs, hQ⟩ := h
    refine ⟨_, rfl, ?_⟩
    rcases hs with rfl | ⟨q, xs, rfl, hq, hn⟩
    · refine ⟨false, rfl, ite_n rfl ⟨by show 0 ≤ sizeLine; decide, fun e he => ?_⟩⟩
      have se := Same.new (o := HO.tup []) he
      refine ⟨_, rfl, _, rfl, _, rfl, _, rfl, by show 5 ≤ sizeLine; decide, fun k hk => ?_⟩
      have sk := Same.new (o := HO.tup [V.ref e, .str x, .bl b, .str y, .str z]) hk
      exact hQ k (.ref e) _ (se.trans sk) (fun _ => ⟨e, rfl, sk _ _ upd_same⟩) (fun z => absurd rfl z) upd_same
    · refine ⟨true, ?_, ite_y rfl ⟨_, rfl, _, rfl, _, rfl, _, rfl, by show 5 ≤ sizeLine; decide, fun k hk => ?_⟩⟩
      · refine .inr (.inl ⟨xs, SqT.of hq, ?_⟩)
        cases xs with
        | nil => exact absurd rfl hn
        | cons v t => rfl
      · exact hQ k (.ref q) _ (Same.new hk) (fun z => by cases z) (fun _ => rfl) upd_same
theorem ok__need (T : Txt K mg) : Cal P w K mg base CX0 1 "_need" ["field", "is_right"] sp__need := by
  refine T.d__need.ok0 sc__need (fun vs H Q E h => ?_) (fun f cdv A outer s H vs Q E hr h => ?_)
  · first | (obtain ⟨_, rfl, _⟩ := h; rfl) | (obtain ⟨_, _, rfl, _⟩ := h; rfl) | (obtain ⟨_, _, _, rfl, _⟩ := h; rfl) | (obtain ⟨_, _, _, _, rfl, _⟩ := h; rfl) | (obtain ⟨_, _, _, _, _, rfl, _⟩ := h; rfl) | (obtain ⟨_, _, _, _, _, _, rfl, _⟩ := h; rfl) | (obtain ⟨_, _, _, _, _, _, _, rfl, _⟩ := h; rfl) | (obtain ⟨_, _, _, _, _, _, _, _, rfl, _⟩ := h; rfl) | (obtain ⟨_, _, _, _, _, _, _, _, _, rfl, _⟩ := h; rfl) | (obtain ⟨_, _, _, _, _, _, _, _, _, _, rfl, _⟩ := h; rfl) | (obtain ⟨_, _, _, _, _, _, _, _, _, _, _, rfl, _⟩ := h; rfl) | (obtain ⟨_, _, _, _, _, _, _, _, _, _, _, _, rfl, _⟩ := h; rfl)
  · refine ⟨_, (pss_one (ps_if (pt_not (pt_val (pv 1)))
      (pss_one ps_never)
      pss_nil)), ?_⟩
    obtain ⟨f, rfl, hQ⟩ := h
    exact ⟨_, rfl, _, rfl, iteF hQ⟩
theorem ok__is_from_0 (T : Txt K mg) : Cal P w K mg base CX0 2 "_is_from_0" ["value", "most"] (sp__is_from_0 K) := by
  refine T.d__is_from_0.ok0 sc__is_from_0 (fun vs H Q E h => ?_) (fun f cdv A outer s H vs Q E hr h => ?_)
  · first | (obtain ⟨_, rfl, _⟩ := h; rfl) | (obtain ⟨_, _, rfl, _⟩ := h; rfl) | (obtain ⟨_, _, _, rfl, _⟩ := h; rfl) | (obtain ⟨_, _, _, _, rfl, _⟩ := h; rfl) | (obtain ⟨_, _, _, _, _, rfl, _⟩ := h; rfl) | (obtain ⟨_, _, _, _, _, _, rfl, _⟩ := h; rfl) | (obtain ⟨_, _, _, _, _, _, _, rfl, _⟩ := h; rfl) | (obtain ⟨_, _, _, _, _, _, _, _, rfl, _⟩ := h; rfl) | (obtain ⟨_, _, _, _, _, _, _, _, _, rfl, _⟩ := h; rfl) | (obtain ⟨_, _, _, _, _, _, _, _, _, _, rfl, _⟩ := h; rfl) | (obtain ⟨_, _, _, _, _, _, _, _, _, _, _, rfl, _⟩ := h; rfl) | (obtain ⟨_, _, _, _, _, _, _, _, _, _, _, _, rfl, _⟩ := h; rfl)
  · refine ⟨_, (pss_one (ps_ret (pe_and (pe_c (ok_is_integer T) hr (by decide) (by rfl) pass0 (pa_cons (pv 0) pa_nil)) (pe_one (pe_chain (op_le) (op_le) pe_int (pv 0) (pv 1)))))), ?_⟩
    obtain ⟨v, m, rfl, h⟩ := h
    rcases h with ⟨i, rfl, hQ⟩ | ⟨h, hQ⟩
    · refine ⟨_, rfl, _, rfl, .inl ⟨i, rfl, _, rfl, iteT ?_⟩⟩
      refine ⟨_, rfl, _, _, rfl, rfl, _, rfl, ?_⟩
      cases h0 : decide ((0 : Int) ≤ i) with
      | false => rw [h0, Bool.false_and] at hQ; exact iteF hQ
      | true => rw [h0, Bool.true_and] at hQ; exact iteT ⟨_, rfl, _, _, rfl, rfl, hQ⟩
    · exact ⟨_, rfl, _, rfl, .inr ⟨h, _, rfl, iteF hQ⟩⟩
theorem ok_is_trimmed (T : Txt K mg) : Cal P w K mg base CX0 1 "is_trimmed" ["text"] sp_is_trimmed := by
  refine T.d_is_trimmed.ok0 sc_is_trimmed (fun vs H Q E h => ?_) (fun f cdv A outer s H vs Q E hr h => ?_)
  · first | (obtain ⟨_, rfl, _⟩ := h; rfl) | (obtain ⟨_, _, rfl, _⟩ := h; rfl) | (obtain ⟨_, _, _, rfl, _⟩ := h; rfl) | (obtain ⟨_, _, _, _, rfl, _⟩ := h; rfl) | (obtain ⟨_, _, _, _, _, rfl, _⟩ := h; rfl) | (obtain ⟨_, _, _, _, _, _, rfl, _⟩ := h; rfl) | (obtain ⟨_, _, _, _, _, _, _, rfl, _⟩ := h; rfl) | (obtain ⟨_, _, _, _, _, _, _, _, rfl, _⟩ := h; rfl) | (obtain ⟨_, _, _, _, _, _, _, _, _, rfl, _⟩ := h; rfl) | (obtain ⟨_, _, _, _, _, _, _, _, _, _, rfl, _⟩ := h; rfl) | (obtain ⟨_, _, _, _, _, _, _, _, _, _, _, rfl, _⟩ := h; rfl) | (obtain ⟨_, _, _, _, _, _, _, _, _, _, _, _, rfl, _⟩ := h; rfl)
  · refine ⟨_, (pss_one (ps_ret (pe_cmpR (op_eq) (pv 0) (pe_m1 PySem.F.slot_str_strip PySem.F.type_str_strip mt_stripChars (pv 0) (pe_gc (by rfl) T.c_BLANKS)) (nomark _)))), ?_⟩
    obtain ⟨x, rfl, hx, hQ⟩ := h
    refine ⟨_, rfl, _, rfl, ⟨_, rfl⟩, _, _, rfl, rfl, Nat.le_trans hx (by decide), rfl, ?_⟩
    have e : decide (V.str x = V.str (Txt.stripChars x " \t")) = decide (trimB (tl x) = tl x) := by
      refine decide_eq_decide.mpr ⟨fun h => ?_, fun h => ?_⟩
      · rw [← strip_blanks, ← V.str.inj h]
      · have e : x = Txt.stripChars x " \t" := ext_tl (by rw [strip_blanks, h])
        exact congrArg V.str e
    rw [e]
    exact hQ
theorem ok__has_control (T : Txt K mg) : Cal P w K mg base CX0 1 "_has_control" ["text"] sp__has_control := by
  refine T.d__has_control.ok0 sc__has_control (fun vs H Q E h => ?_) (fun f cdv A outer s H vs Q E hr h => ?_)
  · first | (obtain ⟨_, rfl, _⟩ := h; rfl) | (obtain ⟨_, _, rfl, _⟩ := h; rfl) | (obtain ⟨_, _, _, rfl, _⟩ := h; rfl) | (obtain ⟨_, _, _, _, rfl, _⟩ := h; rfl) | (obtain ⟨_, _, _, _, _, rfl, _⟩ := h; rfl) | (obtain ⟨_, _, _, _, _, _, rfl, _⟩ := h; rfl) | (obtain ⟨_, _, _, _, _, _, _, rfl, _⟩ := h; rfl) | (obtain ⟨_, _, _, _, _, _, _, _, rfl, _⟩ := h; rfl) | (obtain ⟨_, _, _, _, _, _, _, _, _, rfl, _⟩ := h; rfl) | (obtain ⟨_, _, _, _, _, _, _, _, _, _, rfl, _⟩ := h; rfl) | (obtain ⟨_, _, _, _, _, _, _, _, _, _, _, rfl, _⟩ := h; rfl) | (obtain ⟨_, _, _, _, _, _, _, _, _, _, _, _, rfl, _⟩ := h; rfl)
  · refine ⟨_, (pss_cons (ps_for PassesOwn.never rfl (pi_str (pv 0)) (pg_name (i := 1) sc__has_control.nd rfl (by first | exact Or.inl rfl | exact Or.inr rfl))
      (pss_one (ps_if (PW.pt (pw_and (pt_cmpR (op_lt_str) (pv 1) pe_str (nomark _)) (pw_and1 (pt_cmpR (op_ne) (pv 1) pe_str (nomark _)))))
      (pss_one (ps_ret pe_bl))
      pss_nil)))
      (pss_one (ps_ret pe_bl))), ?_⟩
    obtain ⟨x, rfl, hx, hQ⟩ := h
    refine ⟨_, rfl, x, rfl, for_str (fun i σ H2 => (∃ v, σ = [some (.str x), v]) ∧ H2 = H ∧ ((tl x).take i).any (fun c => decide (c < 32) && !decide (c = 9)) = false) ⟨⟨none, rfl⟩, rfl, rfl⟩ ?_ ?_⟩
    · rintro i c σ H2 hi ⟨⟨v, rfl⟩, rfl, hn⟩
      have step : ((tl x).take (i + 1)).any (fun c => decide (c < 32) && !decide (c = 9)) = (decide (c < 32) && !decide (c = 9)) := by
        rw [List.take_add_one, hi, List.any_append, hn]
        simp
      refine ⟨_, rfl, _, _, rfl, rfl, _, rfl, ?_⟩
      rw [lt_one]
      have e9 : (!decide (V.str (⟨#[c]⟩ : Str) = V.str ("\t" : Str))) = !decide (c = 9) := by
        refine congrArg (! ·) (decide_eq_decide.mpr ⟨fun h => ?_, fun h => by rw [h]; decide +kernel⟩)
        have h2 := congrArg tl (V.str.inj h)
        rw [show tl ("\t" : Str) = [9] by decide +kernel] at h2
        simpa [tl] using h2
      cases h32 : decide (c < 32) with
      | false =>
        rw [h32, Bool.false_and] at step
        exact iteF (iteF ⟨⟨_, rfl⟩, rfl, step⟩)
      | true =>
        rw [h32, Bool.true_and] at step
        refine iteT ⟨_, rfl, rfl, _, rfl, ?_⟩
        rw [e9]
        cases h9 : (!decide (c = 9)) with
        | false => rw [h9] at step; exact iteF ⟨⟨_, rfl⟩, rfl, step⟩
        | true =>
          have e : ctlB (tl x) = true := by
            unfold ctlB
            exact List.any_eq_true.mpr ⟨c, List.mem_of_getElem? hi, by rw [h32, h9]; rfl⟩
          rw [e] at hQ
          exact iteT hQ
    · rintro σ H2 ⟨⟨v, rfl⟩, rfl, hn⟩
      rw [List.take_of_length_le (Nat.le_refl _)] at hn
      unfold ctlB at hQ
      rw [hn] at hQ
      exact hQ
theorem ok__is_part (T : Txt K mg) : Cal P w K mg base CX0 2 "_is_part" ["value"] (sp__is_part K) := by
  refine T.d__is_part.ok0 sc__is_part (fun vs H Q E h => ?_) (fun f cdv A outer s H vs Q E hr h => ?_)
  · first | (obtain ⟨_, rfl, _⟩ := h; rfl) | (obtain ⟨_, _, rfl, _⟩ := h; rfl) | (obtain ⟨_, _, _, rfl, _⟩ := h; rfl) | (obtain ⟨_, _, _, _, rfl, _⟩ := h; rfl) | (obtain ⟨_, _, _, _, _, rfl, _⟩ := h; rfl) | (obtain ⟨_, _, _, _, _, _, rfl, _⟩ := h; rfl) | (obtain ⟨_, _, _, _, _, _, _, rfl, _⟩ := h; rfl) | (obtain ⟨_, _, _, _, _, _, _, _, rfl, _⟩ := h; rfl) | (obtain ⟨_, _, _, _, _, _, _, _, _, rfl, _⟩ := h; rfl) | (obtain ⟨_, _, _, _, _, _, _, _, _, _, rfl, _⟩ := h; rfl) | (obtain ⟨_, _, _, _, _, _, _, _, _, _, _, rfl, _⟩ := h; rfl) | (obtain ⟨_, _, _, _, _, _, _, _, _, _, _, _, rfl, _⟩ := h; rfl)
  · refine ⟨_, (pss_cons (ps_if (PW.pt (pw_or (pt_not (pt_val (pe_callB call_isi (by rfl) T.b_isinstance (by decide +kernel) (pa_cons (pv 0) (pa_cons (pe_bltn (v := .ty "str") (by rfl) T.b_str (by decide +kernel) rfl) pa_nil))))) (pw_or (pt_cmpR (op_in_sign) pe_str (pv 0) rfl) (pw_or1 (pt_not (pt_val (pe_c (ok_is_trimmed T) hr (by decide) (by rfl) pass0 (pa_cons (pv 0) pa_nil))))))))
      (pss_one (ps_ret pe_bl))
      pss_nil)
      (pss_one (ps_ret (pe_not (pe_c (ok__has_control T) hr (by decide) (by rfl) pass0 (pa_cons (pv 0) pa_nil)))))), ?_⟩
    obtain ⟨v, b, rfl, hv, hQ⟩ := h
    rcases hv with ⟨x, rfl, hx, rfl⟩ | ⟨t, ht, hk, rfl⟩
    rotate_left
    · exact ⟨_, rfl, _, _, _, _, false, rfl, .ty _, ht, hk, _, rfl, iteT (iteT hQ)⟩
    unfold partB at hQ
    refine ⟨_, rfl, _, _, _, _, true, rfl, .ty _, .base (.str x), kit_str K, _, rfl, iteF ?_⟩
    refine ⟨_, rfl, 59, x, rfl, rfl, _, rfl, ?_⟩
    have hQ : Q (.bl (decide (59 ∉ x.cps.toList) && (decide (trimB (tl x) = tl x) && !ctlB (tl x)))) H := hQ
    by_cases h59 : 59 ∈ x.cps.toList
    · rw [decide_eq_false (not_not_intro h59), Bool.false_and] at hQ
      rw [decide_eq_true h59]
      exact iteT (iteT hQ)
    rw [decide_eq_true h59, Bool.true_and] at hQ
    rw [decide_eq_false h59]
    refine iteF ⟨_, rfl, x, rfl, hx, _, rfl, ?_⟩
    cases ht : decide (trimB (tl x) = tl x) with
    | false => rw [ht, Bool.false_and] at hQ; exact iteT hQ
    | true =>
      rw [ht, Bool.true_and] at hQ
      exact iteF ⟨_, rfl, x, rfl, hx, _, rfl, hQ⟩
theorem ok__is_name (T : Txt K mg) : Cal P w K mg base CX0 3 "_is_name" ["value"] (sp__is_name K) := by
  refine T.d__is_name.ok0 sc__is_name (fun vs H Q E h => ?_) (fun f cdv A outer s H vs Q E hr h => ?_)
  · first | (obtain ⟨_, rfl, _⟩ := h; rfl) | (obtain ⟨_, _, rfl, _⟩ := h; rfl) | (obtain ⟨_, _, _, rfl, _⟩ := h; rfl) | (obtain ⟨_, _, _, _, rfl, _⟩ := h; rfl) | (obtain ⟨_, _, _, _, _, rfl, _⟩ := h; rfl) | (obtain ⟨_, _, _, _, _, _, rfl, _⟩ := h; rfl) | (obtain ⟨_, _, _, _, _, _, _, rfl, _⟩ := h; rfl) | (obtain ⟨_, _, _, _, _, _, _, _, rfl, _⟩ := h; rfl) | (obtain ⟨_, _, _, _, _, _, _, _, _, rfl, _⟩ := h; rfl) | (obtain ⟨_, _, _, _, _, _, _, _, _, _, rfl, _⟩ := h; rfl) | (obtain ⟨_, _, _, _, _, _, _, _, _, _, _, rfl, _⟩ := h; rfl) | (obtain ⟨_, _, _, _, _, _, _, _, _, _, _, _, rfl, _⟩ := h; rfl)
  · refine ⟨_, (pss_one (ps_ret (pe_and (pe_c (ok__is_part T) hr (by decide) (by rfl) pass0 (pa_cons (pv 0) pa_nil)) (pe_and (pe_cmpR (op_notIn_sign) pe_str (pv 0) rfl) (pe_one (pe_cmpR (op_le) (pe_callB call_len_str (by rfl) T.b_len (by decide +kernel) (pa_cons (pv 0) pa_nil)) (pe_gc (by rfl) T.c_MOST_OF_LINE) (nomark _))))))), ?_⟩
    obtain ⟨v, b, rfl, hv, hQ⟩ := h
    rcases hv with ⟨x, rfl, hx, rfl⟩ | ⟨t, ht, hk, rfl⟩
    rotate_left
    · exact ⟨_, rfl, _, false, rfl, .inr ⟨t, ht, hk, rfl⟩, _, rfl, iteF hQ⟩
    unfold nameL at hQ
    refine ⟨_, rfl, _, _, rfl, .of hx, _, rfl, ?_⟩
    cases h1 : partB (tl x) with
    | false => rw [h1] at hQ; exact iteF hQ
    | true =>
      rw [h1, Bool.true_and] at hQ
      refine iteT ⟨_, rfl, 61, x, rfl, rfl, _, rfl, ?_⟩
      have hQ : Q (.bl (decide (61 ∉ x.cps.toList) && decide ((tl x).length ≤ 4096))) H := hQ
      by_cases h61 : 61 ∈ x.cps.toList
      · rw [decide_eq_false (not_not_intro h61), Bool.false_and] at hQ
        rw [decide_eq_true h61]
        exact iteF hQ
      rw [decide_eq_true h61, Bool.true_and] at hQ
      rw [decide_eq_false h61]
      refine iteT ⟨_, rfl, x, rfl, Nat.le_trans hx (by decide), _, _, rfl, rfl, ?_⟩
      have e : decide ((x.length : Int) ≤ 4096) = decide ((tl x).length ≤ 4096) := decide_eq_decide.mpr (by rw [len_tl]; omega)
      show Q (.bl (decide ((x.length : Int) ≤ 4096))) H
      rw [e]
      exact hQ
theorem ok__is_value (T : Txt K mg) : Cal P w K mg base CX0 4 "_is_value" ["value", "name"] (sp__is_value K) := by
  refine T.d__is_value.ok0 sc__is_value (fun vs H Q E h => ?_) (fun f cdv A outer s H vs Q E hr h => ?_)
  · first | (obtain ⟨_, rfl, _⟩ := h; rfl) | (obtain ⟨_, _, rfl, _⟩ := h; rfl) | (obtain ⟨_, _, _, rfl, _⟩ := h; rfl) | (obtain ⟨_, _, _, _, rfl, _⟩ := h; rfl) | (obtain ⟨_, _, _, _, _, rfl, _⟩ := h; rfl) | (obtain ⟨_, _, _, _, _, _, rfl, _⟩ := h; rfl) | (obtain ⟨_, _, _, _, _, _, _, rfl, _⟩ := h; rfl) | (obtain ⟨_, _, _, _, _, _, _, _, rfl, _⟩ := h; rfl) | (obtain ⟨_, _, _, _, _, _, _, _, _, rfl, _⟩ := h; rfl) | (obtain ⟨_, _, _, _, _, _, _, _, _, _, rfl, _⟩ := h; rfl) | (obtain ⟨_, _, _, _, _, _, _, _, _, _, _, rfl, _⟩ := h; rfl) | (obtain ⟨_, _, _, _, _, _, _, _, _, _, _, _, rfl, _⟩ := h; rfl)
  · refine ⟨_, (pss_one (ps_ret (pe_and (pe_c (ok__is_name T) hr (by decide) (by rfl) pass0 (pa_cons (pv 1) pa_nil)) (pe_and (pe_c (ok__is_part T) hr (by decide) (by rfl) pass0 (pa_cons (pv 0) pa_nil)) (pe_one (pe_chain (op_lt) (op_le) pe_int (pe_callB call_len_str (by rfl) T.b_len (by decide +kernel) (pa_cons (pe_op op_add_str (pv 1) (pv 0)) pa_nil)) (pe_gc (by rfl) T.c_MOST_OF_LINE))))))), ?_⟩
    obtain ⟨v, u, b, c, rfl, hu, hv, hQ⟩ := h
    refine ⟨_, rfl, _, _, rfl, hu, _, rfl, ?_⟩
    rcases hu with ⟨y, rfl, hy, rfl⟩ | ⟨t, ht, hk, rfl⟩
    rotate_left
    · exact iteF hQ
    cases hc : nameL (tl y) with
    | false => rw [hc] at hQ; exact iteF hQ
    | true =>
      rw [hc, Bool.true_and] at hQ
      refine iteT ⟨_, rfl, _, _, rfl, hv, _, rfl, ?_⟩
      rcases hv with ⟨x, rfl, hx, rfl⟩ | ⟨t, ht, hk, rfl⟩
      rotate_left
      · exact iteF hQ
      cases hb : partB (tl x) with
      | false => rw [hb] at hQ; exact iteF hQ
      | true =>
        rw [hb, Bool.true_and] at hQ
        have hQ : Q (.bl (decide (0 < (tl y).length + (tl x).length) && decide ((tl y).length + (tl x).length ≤ 4096))) H := hQ
        have el : (((y ++ x).length : Nat) : Int) = (tl y).length + (tl x).length := by rw [Str.length_append, len_tl, len_tl]; simp
        refine iteT ⟨_, rfl, _, rfl, _, _, rfl, rfl, Nat.le_trans (by omega : _ ≤ 2000000) (by decide), _, rfl, Nat.le_trans (by rw [Str.length_append]; omega : _ ≤ 2000000) (by decide), _, _, rfl, rfl, _, rfl, ?_⟩
        have e1 : decide ((0 : Int) < ((y ++ x).length : Nat)) = decide (0 < (tl y).length + (tl x).length) := decide_eq_decide.mpr (by omega)
        have e2 : decide ((((y ++ x).length : Nat) : Int) ≤ 4096) = decide ((tl y).length + (tl x).length ≤ 4096) := decide_eq_decide.mpr (by omega)
        rw [e1]
        cases h0 : decide (0 < (tl y).length + (tl x).length) with
        | false => rw [h0, Bool.false_and] at hQ; exact iteF hQ
        | true =>
          rw [h0, Bool.true_and, ← e2] at hQ
          exact iteT ⟨_, _, rfl, rfl, hQ⟩
theorem ok_Line__init (T : Txt K mg) : CalK P w K mg base (L2.CX P w) 6 "Line" "__init__" 3 ["self", "name", "value", "expires", "age", "domain", "path", "is_secure", "is_hidden", "same", "is_partitioned", "priority"] [("expires", .non), ("age", .non), ("domain", .non), ("path", .non), ("is_secure", (.bl false)), ("is_hidden", (.bl false)), ("same", .non), ("is_partitioned", (.bl false)), ("priority", .non)] (sp_Line__init K mg) := by
  refine T.m_Line__init.okX sc_Line__init (fun vs H Q E h => ?_) (fun f cdv A outer s H vs Q E hr h => ?_)
  · obtain ⟨_, _, _, _, _, _, _, _, _, _, _, _, _, _, rfl, _⟩ := h; rfl
  · obtain ⟨a_SAMES, hm_SAMES, sq_SAMES⟩ := T.c_SAMES
    obtain ⟨a_PRIORITIES, hm_PRIORITIES, sq_PRIORITIES⟩ := T.c_PRIORITIES
    obtain ⟨C_BadLine, e_BadLine⟩ := T.e_BadLine
    obtain ⟨C_Line, o_Line⟩ := T.o_Line
    refine ⟨_, (pss_cons (ps_for (passes_of rfl) rfl (pi_tup (pe_tup (pa_cons (pe_tup (pa_cons pe_str (pa_cons (pe_c (ok__is_name T) hr (by decide) (by rfl) pass0 (pa_cons (pv 1) pa_nil)) pa_nil))) (pa_cons (pe_tup (pa_cons pe_str (pa_cons (pe_c (ok__is_value T) hr (by decide) (by rfl) pass0 (pa_cons (pv 2) (pa_cons (pv 1) pa_nil))) pa_nil))) (pa_cons (pe_tup (pa_cons pe_str (pa_cons (pe_or (pe_cmpR (op_isN) (pv 3) pe_non (nomark _)) (pe_one (pe_c (ok_is_tick T) hr (by decide) (by rfl) pass0 (pa_cons (pv 3) pa_nil)))) pa_nil))) (pa_cons (pe_tup (pa_cons pe_str (pa_cons (pe_or (pe_cmpR (op_isN) (pv 4) pe_non (nomark _)) (pe_one (pe_c (ok__is_from_0 T) hr (by decide) (by rfl) pass0 (pa_cons (pv 4) (pa_cons (pe_gc (by rfl) T.c_MOST_AGE) pa_nil))))) pa_nil))) (pa_cons (pe_tup (pa_cons pe_str (pa_cons (pe_or (pe_cmpR (op_isN) (pv 5) pe_non (nomark _)) (pe_one (pe_c (ok_is_host T) hr (by decide) (by rfl) pass0 (pa_cons (pv 5) pa_nil)))) pa_nil))) (pa_cons (pe_tup (pa_cons pe_str (pa_cons (pe_or (pe_cmpR (op_isN) (pv 6) pe_non (nomark _)) (pe_one (pe_c (ok_is_path T) hr (by decide) (by rfl) pass0 (pa_cons (pv 6) pa_nil)))) pa_nil))) (pa_cons (pe_tup (pa_cons pe_str (pa_cons (pe_callB call_isi (by rfl) T.b_isinstance (by decide +kernel) (pa_cons (pv 7) (pa_cons (pe_bltn (v := .ty "bool") (by rfl) T.b_bool (by decide +kernel) rfl) pa_nil))) pa_nil))) (pa_cons (pe_tup (pa_cons pe_str (pa_cons (pe_callB call_isi (by rfl) T.b_isinstance (by decide +kernel) (pa_cons (pv 8) (pa_cons (pe_bltn (v := .ty "bool") (by rfl) T.b_bool (by decide +kernel) rfl) pa_nil))) pa_nil))) (pa_cons (pe_tup (pa_cons pe_str (pa_cons (pe_or (pe_cmpR (op_isN) (pv 9) pe_non (nomark _)) (pe_one (pe_and (pe_callB call_isi (by rfl) T.b_isinstance (by decide +kernel) (pa_cons (pv 9) (pa_cons (pe_bltn (v := .ty "str") (by rfl) T.b_str (by decide +kernel) rfl) pa_nil))) (pe_one (pe_cmpR (op_in_seq) (pv 9) (pe_gt (by rfl) hm_SAMES) (by with_unfolding_all rfl)))))) pa_nil))) (pa_cons (pe_tup (pa_cons pe_str (pa_cons (pe_callB call_isi (by rfl) T.b_isinstance (by decide +kernel) (pa_cons (pv 10) (pa_cons (pe_bltn (v := .ty "bool") (by rfl) T.b_bool (by decide +kernel) rfl) pa_nil))) pa_nil))) (pa_cons (pe_tup (pa_cons pe_str (pa_cons (pe_or (pe_cmpR (op_isN) (pv 11) pe_non (nomark _)) (pe_one (pe_c (ok__is_from_0 T) hr (by decide) (by rfl) pass0 (pa_cons (pv 11) (pa_cons (pe_op op_sub (pe_callB call_len_seq (by rfl) T.b_len (by decide +kernel) (pa_cons (pe_gt (by rfl) hm_PRIORITIES) pa_nil)) pe_int) pa_nil))))) pa_nil))) pa_nil))))))))))))) (pg_tup rfl (pgs_cons (pg_name (i := 12) sc_Line__init.nd rfl (by first | exact Or.inl rfl | exact Or.inr rfl)) (pgs_cons (pg_name (i := 13) sc_Line__init.nd rfl (by first | exact Or.inl rfl | exact Or.inr rfl)) pgs_nil)))
      (pss_one (ps_if (pt_not (pt_val (pv 13)))
      (pss_one (ps_raiseE rfl e_BadLine.toErr hr (by decide) pass0 (takes_of rfl rfl rfl rfl) (pa_cons (pv 12) pa_nil) (by rfl)))
      pss_nil)))
      (pss_cons (ps_fld (pv 0) (pv 1) rfl)
      (pss_cons (ps_fld (pv 0) (pv 2) rfl)
      (pss_cons (ps_fld (pv 0) (pv 3) rfl)
      (pss_cons (ps_fld (pv 0) (pv 4) rfl)
      (pss_cons (ps_fld (pv 0) (pv 5) rfl)
      (pss_cons (ps_fld (pv 0) (pv 6) rfl)
      (pss_cons (ps_fld (pv 0) (pv 7) rfl)
      (pss_cons (ps_fld (pv 0) (pv 8) rfl)
      (pss_cons (ps_fld (pv 0) (pv 9) rfl)
      (pss_cons (ps_fld (pv 0) (pv 10) rfl)
      (pss_one (ps_fld (pv 0) (pv 11) rfl))))))))))))), ?_⟩
    obtain ⟨a, C, dx, x, y, ex, ag, dm, pt, sm, pr, se, hi, pa, rfl, hg, ha, L, hQ⟩ := h
    obtain rfl : C = C_Line := by have := hg.symm.trans o_Line.g; cases this; rfl
    have hx : x.length ≤ 1000000 := by have := L.l1; rw [len_tl]; omega
    have hy : y.length ≤ 1000000 := by have := L.l1; rw [len_tl]; omega
    refine seq_for_rowsS (L := [[.str "name", .bl true], [.str "value", .bl true], [.str "expires", .bl true], [.str "age", .bl true], [.str "domain", .bl true], [.str "path", .bl true], [.str "is_secure", .bl true], [.str "is_hidden", .bl true], [.str "same", .bl true], [.str "is_partitioned", .bl true], [.str "priority", .bl true]]) ?_ (by decide) (fun P qs H1 s1 t1 m1 => ?_)
    · refine rowsS_cons ?_ (rowsS_cons ?_ (rowsS_cons ?_ (rowsS_cons ?_ (rowsS_cons ?_ (rowsS_cons ?_ (rowsS_cons ?_ (rowsS_cons ?_ (rowsS_cons ?_ (rowsS_cons ?_ (rowsS_cons ?_ rowsS_nil))))))))))
      · refine fun H1 Q1 s1 q1 => ⟨_, rfl, _, _, rfl, .inl ⟨x, rfl, hx, rfl⟩, ?_⟩
        rw [L.nm]; exact q1 _ (Same.refl _)
      · refine fun H1 Q1 s1 q1 => ⟨_, rfl, _, rfl, _, _, _, _, rfl, .inl ⟨x, rfl, hx, rfl⟩, .inl ⟨y, rfl, hy, rfl⟩, ?_⟩
        rw [L.nm, L.vl]
        show Q1 (.bl (decide (0 < (tl x).length + (tl y).length) && decide ((tl x).length + (tl y).length ≤ 4096))) H1
        rw [decide_eq_true L.l0, decide_eq_true L.l1]
        exact q1 _ (Same.refl _)
      · refine fun H1 Q1 s1 q1 => ⟨_, rfl, rfl, _, rfl, ?_⟩
        rcases L.ex with rfl | ⟨i, rfl, i0, i1⟩
        · exact iteT (q1 _ (Same.refl _))
        · refine iteF ⟨_, rfl, _, rfl, .inl ⟨i, rfl, ?_⟩⟩
          rw [decide_eq_true i0, decide_eq_true i1]; exact q1 _ (Same.refl _)
      · refine fun H1 Q1 s1 q1 => ⟨_, rfl, rfl, _, rfl, ?_⟩
        rcases L.ag with rfl | ⟨i, rfl, i0, i1⟩
        · exact iteT (q1 _ (Same.refl _))
        · refine iteF ⟨_, rfl, _, _, rfl, .inl ⟨i, rfl, ?_⟩⟩
          rw [decide_eq_true i0, decide_eq_true i1]; exact q1 _ (Same.refl _)
      · refine fun H1 Q1 s1 q1 => ⟨_, rfl, rfl, _, rfl, ?_⟩
        rcases L.dm with rfl | ⟨z, rfl, hz⟩
        · exact iteT (q1 _ (Same.refl _))
        · have hl : (tl z).length ≤ 100 := by unfold hostB at hz; rw [Bool.and_eq_true] at hz; exact of_decide_eq_true hz.1
          exact iteF ⟨_, rfl, _, true, rfl, .inl ⟨z, rfl, by rw [len_tl]; omega, hz.symm⟩, fun H2 s2 => q1 _ s2⟩
      · refine fun H1 Q1 s1 q1 => ⟨_, rfl, rfl, _, rfl, ?_⟩
        rcases L.pt with rfl | ⟨z, rfl, hz⟩
        · exact iteT (q1 _ (Same.refl _))
        · have hl : (tl z).length ≤ 200 := by unfold pathB at hz; rw [Bool.and_eq_true] at hz; exact of_decide_eq_true hz.1
          exact iteF ⟨_, rfl, _, true, rfl, .inl ⟨z, rfl, by rw [len_tl]; omega, hz.symm⟩, q1 _ (Same.refl _)⟩
      · exact fun H1 Q1 s1 q1 => ⟨_, rfl, _, _, _, _, true, rfl, .ty _, .base (.bl se), kit_ty (by decide +kernel), q1 _ (Same.refl _)⟩
      · exact fun H1 Q1 s1 q1 => ⟨_, rfl, _, _, _, _, true, rfl, .ty _, .base (.bl hi), kit_ty (by decide +kernel), q1 _ (Same.refl _)⟩
      · refine fun H1 Q1 s1 q1 => ⟨_, rfl, rfl, _, rfl, ?_⟩
        rcases L.sm with rfl | ⟨z, rfl, hz⟩
        · exact iteT (q1 _ (Same.refl _))
        · refine iteF ⟨_, rfl, _, _, _, _, true, rfl, .ty _, .base (.str z), kit_str K, _, rfl, iteT ⟨_, rfl, a_SAMES, _, rfl, .inr (sq_SAMES H1), rfl, rfl, ?_⟩⟩
          rw [show (if false = true then !inV (V.str z) [V.str "strict", V.str "lax", V.str "none"] else inV (V.str z) [V.str "strict", V.str "lax", V.str "none"]) = true by
            show inV _ _ = true
            rcases hz with rfl | rfl | rfl <;> decide +kernel]
          exact q1 _ (Same.refl _)
      · exact fun H1 Q1 s1 q1 => ⟨_, rfl, _, _, _, _, true, rfl, .ty _, .base (.bl pa), kit_ty (by decide +kernel), q1 _ (Same.refl _)⟩
      · refine fun H1 Q1 s1 q1 => ⟨_, rfl, rfl, _, rfl, ?_⟩
        rcases L.pr with rfl | ⟨i, rfl, i0, i1⟩
        · exact iteT (q1 _ (Same.refl _))
        · refine iteF ⟨_, rfl, a_PRIORITIES, _, rfl, .inr (sq_PRIORITIES H1), _, _, rfl, rfl, ?_⟩
          refine ⟨_, _, rfl, .inl ⟨i, rfl, ?_⟩⟩
          show Q1 (.bl (decide (0 ≤ i) && decide (i ≤ (2 : Int)))) H1
          rw [decide_eq_true i0, decide_eq_true i1]; exact q1 _ (Same.refl _)
    have ha1 := s1 _ _ ha
    refine ⟨fun i σ H2 => (∃ v12 v13, σ = [some (.ref a), some (.str x), some (.str y), some ex, some ag, some dm, some pt, some (.bl se), some (.bl hi), some sm, some (.bl pa), some pr, v12, v13]) ∧ H2 = H1, ⟨⟨none, none, rfl⟩, rfl⟩, fun i σ H2 _ h => h.2 ▸ SqT.of m1, ?_, ?_⟩
    · rintro i v σ H2 hi2 ⟨⟨v12, v13, rfl⟩, rfl⟩
      obtain ⟨q, c, rfl, hci, mq⟩ := t1.get hi2
      obtain ⟨f, rfl⟩ : ∃ f : Str, c = [.str f, .bl true] := by
        have hm := List.mem_of_getElem? hci
        simp only [List.mem_cons, List.not_mem_nil, or_false] at hm
        rcases hm with rfl | rfl | rfl | rfl | rfl | rfl | rfl | rfl | rfl | rfl | rfl <;> exact ⟨_, rfl⟩
      exact ⟨q, _, rfl, SqT.of mq, rfl, _, _, rfl, _, _, rfl, rfl, _, rfl, _, rfl, iteF ⟨⟨_, _, rfl⟩, rfl⟩⟩
    rintro σ H2 ⟨⟨v12, v13, rfl⟩, rfl⟩
    refine ⟨_, rfl, _, rfl, a, C, dx, _, rfl, ha1, o_Line.o.cl, o_Line.na.get (by simp), by simp, ?_⟩
    rw [show putF "name" (V.str x) [] = [(("name" : Str), V.str x)] from rfl]
    refine ⟨_, rfl, _, rfl, a, C, dx, _, rfl, upd_same, o_Line.o.cl, o_Line.na.get (by simp), by simp, ?_⟩
    rw [upd_upd, putF_app ["name"] rfl (by decide +kernel)]
    refine ⟨_, rfl, _, rfl, a, C, dx, _, rfl, upd_same, o_Line.o.cl, o_Line.na.get (by simp), by simp, ?_⟩
    rw [upd_upd, putF_app ["name", "value"] rfl (by decide +kernel)]
    refine ⟨_, rfl, _, rfl, a, C, dx, _, rfl, upd_same, o_Line.o.cl, o_Line.na.get (by simp), by simp, ?_⟩
    rw [upd_upd, putF_app ["name", "value", "expires"] rfl (by decide +kernel)]
    refine ⟨_, rfl, _, rfl, a, C, dx, _, rfl, upd_same, o_Line.o.cl, o_Line.na.get (by simp), by simp, ?_⟩
    rw [upd_upd, putF_app ["name", "value", "expires", "age"] rfl (by decide +kernel)]
    refine ⟨_, rfl, _, rfl, a, C, dx, _, rfl, upd_same, o_Line.o.cl, o_Line.na.get (by simp), by simp, ?_⟩
    rw [upd_upd, putF_app ["name", "value", "expires", "age", "domain"] rfl (by decide +kernel)]
    refine ⟨_, rfl, _, rfl, a, C, dx, _, rfl, upd_same, o_Line.o.cl, o_Line.na.get (by simp), by simp, ?_⟩
    rw [upd_upd, putF_app ["name", "value", "expires", "age", "domain", "path"] rfl (by decide +kernel)]
    refine ⟨_, rfl, _, rfl, a, C, dx, _, rfl, upd_same, o_Line.o.cl, o_Line.na.get (by simp), by simp, ?_⟩
    rw [upd_upd, putF_app ["name", "value", "expires", "age", "domain", "path", "is_secure"] rfl (by decide +kernel)]
    refine ⟨_, rfl, _, rfl, a, C, dx, _, rfl, upd_same, o_Line.o.cl, o_Line.na.get (by simp), by simp, ?_⟩
    rw [upd_upd, putF_app ["name", "value", "expires", "age", "domain", "path", "is_secure", "is_hidden"] rfl (by decide +kernel)]
    refine ⟨_, rfl, _, rfl, a, C, dx, _, rfl, upd_same, o_Line.o.cl, o_Line.na.get (by simp), by simp, ?_⟩
    rw [upd_upd, putF_app ["name", "value", "expires", "age", "domain", "path", "is_secure", "is_hidden", "same"] rfl (by decide +kernel)]
    refine ⟨_, rfl, _, rfl, a, C, dx, _, rfl, upd_same, o_Line.o.cl, o_Line.na.get (by simp), by simp, ?_⟩
    rw [upd_upd, putF_app ["name", "value", "expires", "age", "domain", "path", "is_secure", "is_hidden", "same", "is_partitioned"] rfl (by decide +kernel)]
    exact hQ _ s1
theorem ok__need_name_and_value (T : Txt K mg) : Cal P w K mg base (L2.CX P w) 8 "_need_name_and_value" ["name", "value"] (sp__need_name_and_value K) := by
  refine T.d__need_name_and_value.okX sc__need_name_and_value (fun vs H Q E h => ?_) (fun f cdv A outer s H vs Q E hr h => ?_)
  · first | (obtain ⟨_, rfl, _⟩ := h; rfl) | (obtain ⟨_, _, rfl, _⟩ := h; rfl) | (obtain ⟨_, _, _, rfl, _⟩ := h; rfl) | (obtain ⟨_, _, _, _, rfl, _⟩ := h; rfl) | (obtain ⟨_, _, _, _, _, rfl, _⟩ := h; rfl) | (obtain ⟨_, _, _, _, _, _, rfl, _⟩ := h; rfl) | (obtain ⟨_, _, _, _, _, _, _, rfl, _⟩ := h; rfl) | (obtain ⟨_, _, _, _, _, _, _, _, rfl, _⟩ := h; rfl) | (obtain ⟨_, _, _, _, _, _, _, _, _, rfl, _⟩ := h; rfl) | (obtain ⟨_, _, _, _, _, _, _, _, _, _, rfl, _⟩ := h; rfl) | (obtain ⟨_, _, _, _, _, _, _, _, _, _, _, rfl, _⟩ := h; rfl) | (obtain ⟨_, _, _, _, _, _, _, _, _, _, _, _, rfl, _⟩ := h; rfl)
  · obtain ⟨C_BadCrumb, e_BadCrumb⟩ := T.e_BadCrumb
    obtain ⟨C_BadLine, e_BadLine⟩ := T.e_BadLine
    obtain ⟨C_Line, o_Line⟩ := T.o_Line
    refine ⟨_, (pss_one (ps_try_asX (i := 2) rfl rfl rfl sc__need_name_and_value.nd rfl rfl ⟨rfl, by decide, Or.inl e_BadLine.g⟩ (fun hd => L2H.passesAt_of rfl hd) (takes_of rfl rfl rfl rfl)
      (fun W pn xe tk po => (pss_one (ps_expr (pe_mkK0 (CX := L2.CX _ _) (E := fun _ _ _ => False) o_Line (ok_Line__init T) hr (by decide) (by rfl) passF (pa_cons (pv 0) (pa_cons (pv 1) pa_nil))))))
      (fun a oe cls d pn xe hz hf tks hot => (pss_one (ps_raiseEH e_BadCrumb (L2H.roomH_mark hr _) (by decide) hot pass0 tks (pa_cons (pe_xfS e_BadLine.X e_BadLine.no hz hf (pv 2)) pa_nil) (by rfl)))))), ?_⟩
    obtain ⟨x, y, rfl, ok, hQ⟩ := h
    refine ⟨_, rfl, _, rfl, rfl, rfl, fun a dx ha hdx hne => ?_⟩
    have so : Same H (upd (upd H dx (.own a)) a (.ins C_Line dx [])) := fun b o e => by
      rw [upd_ne (ne_of_none e ha), upd_ne (ne_of_none e hdx)]
      exact e
    refine ⟨a, C_Line, dx, x, y, _, _, _, _, _, _, _, _, _, rfl, o_Line.g, upd_same, ok, fun H4 s4 => ⟨rfl, hQ _ fun b o e => ?_⟩⟩
    rw [upd_ne (ne_of_none e ha)]
    exact s4 _ _ (so _ _ e)
theorem ok__is_scheme (T : Txt K mg) : Cal P w K mg base CX0 1 "_is_scheme" ["value"] (sp__is_scheme K) := by
  refine T.d__is_scheme.ok0 sc__is_scheme (fun vs H Q E h => ?_) (fun f cdv A outer s H vs Q E hr h => ?_)
  · first | (obtain ⟨_, rfl, _⟩ := h; rfl) | (obtain ⟨_, _, rfl, _⟩ := h; rfl) | (obtain ⟨_, _, _, rfl, _⟩ := h; rfl) | (obtain ⟨_, _, _, _, rfl, _⟩ := h; rfl) | (obtain ⟨_, _, _, _, _, rfl, _⟩ := h; rfl) | (obtain ⟨_, _, _, _, _, _, rfl, _⟩ := h; rfl) | (obtain ⟨_, _, _, _, _, _, _, rfl, _⟩ := h; rfl) | (obtain ⟨_, _, _, _, _, _, _, _, rfl, _⟩ := h; rfl) | (obtain ⟨_, _, _, _, _, _, _, _, _, rfl, _⟩ := h; rfl) | (obtain ⟨_, _, _, _, _, _, _, _, _, _, rfl, _⟩ := h; rfl) | (obtain ⟨_, _, _, _, _, _, _, _, _, _, _, rfl, _⟩ := h; rfl) | (obtain ⟨_, _, _, _, _, _, _, _, _, _, _, _, rfl, _⟩ := h; rfl)
  · obtain ⟨a_SCHEMES, hm_SCHEMES, sq_SCHEMES⟩ := T.c_SCHEMES
    refine ⟨_, (pss_one (ps_ret (pe_and (pe_callB call_isi (by rfl) T.b_isinstance (by decide +kernel) (pa_cons (pv 0) (pa_cons (pe_bltn (v := .ty "str") (by rfl) T.b_str (by decide +kernel) rfl) pa_nil))) (pe_one (pe_cmpR (op_in_seq) (pv 0) (pe_gt (by rfl) hm_SCHEMES) (by with_unfolding_all rfl)))))), ?_⟩
    obtain ⟨v, rfl, hv, hQ⟩ := h
    have sq : ∀ H1 : Hp, SqT K H1 a_SCHEMES (schemes2.map V.str) := sq_SCHEMES
    rcases hv with ⟨x, rfl, h1, _⟩ | ⟨t, ht, hk⟩
    · refine ⟨_, rfl, _, _, _, _, true, rfl, .ty _, .base (.str x), kit_str K, _, rfl, iteT ?_⟩
      refine ⟨_, rfl, a_SCHEMES, schemes2.map V.str, rfl, .inr (sq H), rfl, by decide +kernel, ?_⟩
      rw [in_strs]
      exact hQ
    · refine ⟨_, rfl, _, _, _, _, false, rfl, .ty _, ht, hk, _, rfl, iteF ?_⟩
      have := ty_nostr08 ht hk
      have e : schV v = false := by
        cases v with
        | str x => exact absurd rfl (this x)
        | _ => rfl
      rw [e] at hQ
      exact hQ
theorem ok_is_origin (T : Txt K mg) : Cal P w K mg base CX0 6 "is_origin" ["value"] (sp_is_origin K) := by
  refine T.d_is_origin.ok0 sc_is_origin (fun vs H Q E h => ?_) (fun f cdv A outer s H vs Q E hr h => ?_)
  · first | (obtain ⟨_, rfl, _⟩ := h; rfl) | (obtain ⟨_, _, rfl, _⟩ := h; rfl) | (obtain ⟨_, _, _, rfl, _⟩ := h; rfl) | (obtain ⟨_, _, _, _, rfl, _⟩ := h; rfl) | (obtain ⟨_, _, _, _, _, rfl, _⟩ := h; rfl) | (obtain ⟨_, _, _, _, _, _, rfl, _⟩ := h; rfl) | (obtain ⟨_, _, _, _, _, _, _, rfl, _⟩ := h; rfl) | (obtain ⟨_, _, _, _, _, _, _, _, rfl, _⟩ := h; rfl) | (obtain ⟨_, _, _, _, _, _, _, _, _, rfl, _⟩ := h; rfl) | (obtain ⟨_, _, _, _, _, _, _, _, _, _, rfl, _⟩ := h; rfl) | (obtain ⟨_, _, _, _, _, _, _, _, _, _, _, rfl, _⟩ := h; rfl) | (obtain ⟨_, _, _, _, _, _, _, _, _, _, _, _, rfl, _⟩ := h; rfl)
  · refine ⟨_, (pss_cons (ps_if (PW.pt (pw_or (pt_not (pt_val (pe_callB call_isi (by rfl) T.b_isinstance (by decide +kernel) (pa_cons (pv 0) (pa_cons (pe_bltn (v := .ty "tuple") (by rfl) T.b_tuple (by decide +kernel) rfl) pa_nil))))) (pw_or1 (pt_cmpR (op_ne) (pe_callB call_len_seq (by rfl) T.b_len (by decide +kernel) (pa_cons (pv 0) pa_nil)) pe_int (nomark _)))))
      (pss_one (ps_ret pe_bl))
      pss_nil)
      (pss_one (ps_ret (pe_and (pe_c (ok__is_scheme T) hr (by decide) (by rfl) pass0 (pa_cons (pe_ix ix_tup (pv 0) pe_int (fun _ _ => rfl)) pa_nil)) (pe_one (pe_c (ok_is_host T) hr (by decide) (by rfl) pass0 (pa_cons (pe_ix ix_tup (pv 0) pe_int (fun _ _ => rfl)) pa_nil))))))), ?_⟩
    obtain ⟨v, b, rfl, hv, hQ⟩ := h
    rcases hv with ⟨t, ht, hk, rfl⟩ | ⟨p, xs, rfl, hp, hl, rfl⟩ | ⟨p, u, w, rfl, hp, hu1, hw, rfl⟩
    · exact ⟨_, rfl, _, _, _, _, false, rfl, .ty _, ht, hk, _, rfl, iteT (hQ _ (Same.refl _))⟩
    · refine ⟨_, rfl, _, _, _, _, true, rfl, .ty _, .base (.tup hp), kit_ty (by decide +kernel), _, rfl, iteF ?_⟩
      refine ⟨_, rfl, p, _, rfl, .inr (SqT.of hp), rfl, _, rfl, ?_⟩
      rw [show (!decide (V.int (xs.length : Int) = V.int 2)) = true by rw [dec_int]; simp; omega]
      exact iteT (hQ _ (Same.refl _))
    · refine ⟨_, rfl, _, _, _, _, true, rfl, .ty _, .base (.tup hp), kit_ty (by decide +kernel), _, rfl, iteF ?_⟩
      refine ⟨_, rfl, p, _, rfl, .inr (SqT.of hp), rfl, _, rfl, iteF ?_⟩
      refine ⟨_, rfl, p, _, _, _, rfl, rfl, SqT.of hp, rfl, u, rfl, hu1, _, rfl, ?_⟩
      cases hs : schV u with
      | false => exact iteF (by rw [hs, Bool.false_and] at hQ; exact hQ _ (Same.refl _))
      | true =>
        rw [hs, Bool.true_and] at hQ
        exact iteT ⟨_, rfl, p, _, _, _, rfl, rfl, SqT.of hp, rfl, w, _, rfl, hw.tx, hQ⟩
theorem ok__is_partition (T : Txt K mg) : Cal P w K mg base CX0 7 "_is_partition" ["value"] (sp__is_partition K) := by
  refine T.d__is_partition.ok0 sc__is_partition (fun vs H Q E h => ?_) (fun f cdv A outer s H vs Q E hr h => ?_)
  · first | (obtain ⟨_, rfl, _⟩ := h; rfl) | (obtain ⟨_, _, rfl, _⟩ := h; rfl) | (obtain ⟨_, _, _, rfl, _⟩ := h; rfl) | (obtain ⟨_, _, _, _, rfl, _⟩ := h; rfl) | (obtain ⟨_, _, _, _, _, rfl, _⟩ := h; rfl) | (obtain ⟨_, _, _, _, _, _, rfl, _⟩ := h; rfl) | (obtain ⟨_, _, _, _, _, _, _, rfl, _⟩ := h; rfl) | (obtain ⟨_, _, _, _, _, _, _, _, rfl, _⟩ := h; rfl) | (obtain ⟨_, _, _, _, _, _, _, _, _, rfl, _⟩ := h; rfl) | (obtain ⟨_, _, _, _, _, _, _, _, _, _, rfl, _⟩ := h; rfl) | (obtain ⟨_, _, _, _, _, _, _, _, _, _, _, rfl, _⟩ := h; rfl) | (obtain ⟨_, _, _, _, _, _, _, _, _, _, _, _, rfl, _⟩ := h; rfl)
  · refine ⟨_, (pss_cons (ps_if (PW.pt (pw_or (pt_not (pt_val (pe_callB call_isi (by rfl) T.b_isinstance (by decide +kernel) (pa_cons (pv 0) (pa_cons (pe_bltn (v := .ty "tuple") (by rfl) T.b_tuple (by decide +kernel) rfl) pa_nil))))) (pw_or1 (pt_cmpR (op_ne) (pe_callB call_len_seq (by rfl) T.b_len (by decide +kernel) (pa_cons (pv 0) pa_nil)) pe_int (nomark _)))))
      (pss_one (ps_ret pe_bl))
      pss_nil)
      (pss_one (ps_ret (pe_and (pe_c (ok_is_origin T) hr (by decide) (by rfl) pass0 (pa_cons (pe_ix ix_tup (pv 0) pe_int (fun _ _ => rfl)) pa_nil)) (pe_one (pe_callB call_isi (by rfl) T.b_isinstance (by decide +kernel) (pa_cons (pe_ix ix_tup (pv 0) pe_int (fun _ _ => rfl)) (pa_cons (pe_bltn (v := .ty "bool") (by rfl) T.b_bool (by decide +kernel) rfl) pa_nil)))))))), ?_⟩
    obtain ⟨p, s, x, b, rfl, hp, hs, hg, hQ⟩ := h
    refine ⟨_, rfl, _, _, _, _, true, rfl, .ty _, .base (.tup hp), kit_ty (by decide +kernel), _, rfl, ite_n rfl ⟨_, rfl, p, _, rfl, .inr (SqT.of hp), rfl, _, rfl, ite_n rfl ?_⟩⟩
    dsimp only [tNext]
    refine ⟨_, rfl, p, _, 0, _, rfl, rfl, SqT.of hp, rfl, .ref s, true, rfl, ?_, fun H1 s1 => ⟨true, rfl, ite_y rfl ?_⟩⟩
    · have hx : x.1 = "http" ∨ x.1 = "https" := by simpa [schemes2] using hg.1
      have a1 : ascii x.1 ∧ x.1.length ≤ 1000 := by rcases hx with e | e <;> rw [e] <;> exact ⟨ascii_lit (by decide +kernel), by decide⟩
      refine .inr (.inr ⟨s, .str x.1, .str x.2, rfl, hs, .inl ⟨_, rfl, a1.2, a1.1⟩, .inl ⟨_, rfl, Nat.le_trans (hostB_len hg.2) (by decide), ascii_host hg.2⟩, ?_⟩)
      show true = (decide (x.1 ∈ schemes2) && hostB (tl x.2))
      rw [decide_eq_true hg.1, hg.2]; rfl
    · exact ⟨_, rfl, p, _, 1, _, rfl, rfl, SqT.of (s1 _ _ hp), rfl, _, _, _, _, true, rfl, .ty _, .base (.bl _), kit_ty (by decide +kernel), hQ _ s1⟩
theorem ok_need_host (T : Txt K mg) : Cal P w K mg base CX0 6 "need_host" ["host"] sp_need_host := by
  refine T.d_need_host.ok0 sc_need_host (fun vs H Q E h => ?_) (fun f cdv A outer s H vs Q E hr h => ?_)
  · first | (obtain ⟨_, rfl, _⟩ := h; rfl) | (obtain ⟨_, _, rfl, _⟩ := h; rfl) | (obtain ⟨_, _, _, rfl, _⟩ := h; rfl) | (obtain ⟨_, _, _, _, rfl, _⟩ := h; rfl) | (obtain ⟨_, _, _, _, _, rfl, _⟩ := h; rfl) | (obtain ⟨_, _, _, _, _, _, rfl, _⟩ := h; rfl) | (obtain ⟨_, _, _, _, _, _, _, rfl, _⟩ := h; rfl) | (obtain ⟨_, _, _, _, _, _, _, _, rfl, _⟩ := h; rfl) | (obtain ⟨_, _, _, _, _, _, _, _, _, rfl, _⟩ := h; rfl) | (obtain ⟨_, _, _, _, _, _, _, _, _, _, rfl, _⟩ := h; rfl) | (obtain ⟨_, _, _, _, _, _, _, _, _, _, _, rfl, _⟩ := h; rfl) | (obtain ⟨_, _, _, _, _, _, _, _, _, _, _, _, rfl, _⟩ := h; rfl)
  · refine ⟨_, (pss_cons (ps_if (pt_not (pt_val (pe_callB call_isi (by rfl) T.b_isinstance (by decide +kernel) (pa_cons (pv 0) (pa_cons (pe_bltn (v := .ty "str") (by rfl) T.b_str (by decide +kernel) rfl) pa_nil)))))
      (pss_one ps_never)
      pss_nil)
      (pss_one (ps_if (pt_not (pt_val (pe_c (ok_is_host T) hr (by decide) (by rfl) pass0 (pa_cons (pv 0) pa_nil))))
      (pss_one ps_never)
      pss_nil))), ?_⟩
    obtain ⟨x, rfl, hx, hQ⟩ := h
    have hl := hostB_len hx
    refine ⟨_, rfl, _, _, _, _, true, rfl, .ty _, .base (.str x), kit_str K, _, rfl, iteF ?_⟩
    refine ⟨_, rfl, .str x, true, rfl, .inl ⟨x, rfl, by omega, hx.symm⟩, fun H1 s1 => ⟨_, rfl, iteF ?_⟩⟩
    exact hQ _ s1
theorem ok_host_fits (T : Txt K mg) : Cal P w K mg base CX0 7 "host_fits" ["host", "domain"] sp_host_fits := by
  refine T.d_host_fits.ok0 sc_host_fits (fun vs H Q E h => ?_) (fun f cdv A outer s H vs Q E hr h => ?_)
  · first | (obtain ⟨_, rfl, _⟩ := h; rfl) | (obtain ⟨_, _, rfl, _⟩ := h; rfl) | (obtain ⟨_, _, _, rfl, _⟩ := h; rfl) | (obtain ⟨_, _, _, _, rfl, _⟩ := h; rfl) | (obtain ⟨_, _, _, _, _, rfl, _⟩ := h; rfl) | (obtain ⟨_, _, _, _, _, _, rfl, _⟩ := h; rfl) | (obtain ⟨_, _, _, _, _, _, _, rfl, _⟩ := h; rfl) | (obtain ⟨_, _, _, _, _, _, _, _, rfl, _⟩ := h; rfl) | (obtain ⟨_, _, _, _, _, _, _, _, _, rfl, _⟩ := h; rfl) | (obtain ⟨_, _, _, _, _, _, _, _, _, _, rfl, _⟩ := h; rfl) | (obtain ⟨_, _, _, _, _, _, _, _, _, _, _, rfl, _⟩ := h; rfl) | (obtain ⟨_, _, _, _, _, _, _, _, _, _, _, _, rfl, _⟩ := h; rfl)
  · refine ⟨_, (pss_cons (ps_expr (pe_c (ok_need_host T) hr (by decide) (by rfl) pass0 (pa_cons (pv 0) pa_nil)))
      (pss_cons (ps_expr (pe_c (ok_need_host T) hr (by decide) (by rfl) pass0 (pa_cons (pv 1) pa_nil)))
      (pss_cons (ps_if (pt_cmpR (op_eq) (pv 0) (pv 1) (nomark _))
      (pss_one (ps_ret pe_bl))
      pss_nil)
      (pss_one (ps_ret (pe_and (pe_not (pe_c (ok_is_address_host T) hr (by decide) (by rfl) pass0 (pa_cons (pv 0) pa_nil))) (pe_one (pe_m1 PySem.F.slot_str_endswith PySem.F.type_str_endswith mt_endswith (pv 0) (pe_op op_add_str pe_str (pv 1)))))))))), ?_⟩
    obtain ⟨x, y, rfl, hx, hy, hQ⟩ := h
    have hxl := hostB_len hx
    have hyl := hostB_len hy
    refine ⟨_, rfl, x, rfl, hx, fun H1 s1 => ⟨_, rfl, y, rfl, hy, fun H2 s2 => ?_⟩⟩
    have s12 := s1.trans s2
    refine ⟨_, rfl, _, rfl, rfl, _, rfl, iteB (fun h1 => ?_) (fun h1 => ?_)⟩
    · have e : x = y := V.str.inj (of_decide_eq_true h1)
      subst e
      have : fitB (tl x) (tl x) = true := by unfold fitB; rw [decide_eq_true rfl, Bool.true_or]
      rw [this] at hQ
      exact hQ _ s12
    have hne : tl x ≠ tl y := fun e => of_decide_eq_false h1 (by rw [ext_tl e])
    unfold fitB at hQ
    rw [decide_eq_false hne, Bool.false_or] at hQ
    refine ⟨_, rfl, .str x, _, rfl, .inl ⟨x, rfl, by omega, rfl⟩, fun H3 s3 => ⟨_, rfl, ?_⟩⟩
    refine ⟨_, rfl, ?_⟩
    cases h2 : addrB (tl x) with
    | true =>
      rw [h2] at hQ
      exact iteF (hQ _ (s12.trans s3))
    | false =>
      rw [h2] at hQ
      have hd1 : ("." : Str).length = 1 := by decide +kernel
      have hdl : ("." : Str).length + y.length ≤ 10000 := by omega
      refine iteT ⟨_, rfl, ⟨_, rfl⟩, _, rfl, _, _, rfl, rfl, Nat.le_trans hdl (by decide), _, _, rfl, rfl, ?_⟩
      rw [endswith_tl, tl_append, tl_dot]
      exact hQ _ (s12.trans s3)
theorem ok_is_safe (T : Txt K mg) : Cal P w K mg base CX0 7 "is_safe" ["origin"] (sp_is_safe K) := by
  refine T.d_is_safe.ok0 sc_is_safe (fun vs H Q E h => ?_) (fun f cdv A outer s H vs Q E hr h => ?_)
  · first | (obtain ⟨_, rfl, _⟩ := h; rfl) | (obtain ⟨_, _, rfl, _⟩ := h; rfl) | (obtain ⟨_, _, _, rfl, _⟩ := h; rfl) | (obtain ⟨_, _, _, _, rfl, _⟩ := h; rfl) | (obtain ⟨_, _, _, _, _, rfl, _⟩ := h; rfl) | (obtain ⟨_, _, _, _, _, _, rfl, _⟩ := h; rfl) | (obtain ⟨_, _, _, _, _, _, _, rfl, _⟩ := h; rfl) | (obtain ⟨_, _, _, _, _, _, _, _, rfl, _⟩ := h; rfl) | (obtain ⟨_, _, _, _, _, _, _, _, _, rfl, _⟩ := h; rfl) | (obtain ⟨_, _, _, _, _, _, _, _, _, _, rfl, _⟩ := h; rfl) | (obtain ⟨_, _, _, _, _, _, _, _, _, _, _, rfl, _⟩ := h; rfl) | (obtain ⟨_, _, _, _, _, _, _, _, _, _, _, _, rfl, _⟩ := h; rfl)
  · refine ⟨_, (pss_cons (ps_if (pt_not (pt_val (pe_c (ok_is_origin T) hr (by decide) (by rfl) pass0 (pa_cons (pv 0) pa_nil))))
      (pss_one ps_never)
      pss_nil)
      (pss_cons (ps_asg (pv 0) (pg_tup rfl (pgs_cons (pg_name (i := 1) sc_is_safe.nd rfl (by first | exact Or.inl rfl | exact Or.inr rfl)) (pgs_cons (pg_name (i := 2) sc_is_safe.nd rfl (by first | exact Or.inl rfl | exact Or.inr rfl)) pgs_nil))))
      (pss_one (ps_ret (pe_or (pe_cmpR (op_eq) (pv 1) pe_str (nomark _)) (pe_or (pe_cmpR (op_eq) (pv 2) pe_str (nomark _)) (pe_one (pe_m1 PySem.F.slot_str_endswith PySem.F.type_str_endswith mt_endswith (pv 2) pe_str)))))))), ?_⟩
    obtain ⟨p, x, y, rfl, hp, hx, hy, hQ⟩ := h
    refine ⟨_, rfl, .ref p, true, rfl, org_good hp hx hy, fun H1 s1 => ⟨_, rfl, iteF ?_⟩⟩
    refine ⟨_, rfl, p, _, rfl, SqT.of (s1 _ _ hp), rfl, _, _, rfl, _, _, rfl, rfl, ?_⟩
    have fin : ∀ b : Bool, safeB x y = b → Q (.bl b) H1 := fun b e => e ▸ hQ _ s1
    refine ⟨_, rfl, rfl, _, rfl, iteB (fun h1 => ?_) (fun h1 => ?_)⟩
    · have h1 : x = "https" := V.str.inj (of_decide_eq_true h1)
      exact fin _ (by unfold safeB; rw [decide_eq_true h1]; rfl)
    · have h1 : ¬ x = "https" := fun e => of_decide_eq_false h1 (by rw [e])
      refine ⟨_, rfl, rfl, _, rfl, iteB (fun h2 => ?_) (fun h2 => ?_)⟩
      · have h2 : y = "localhost" := V.str.inj (of_decide_eq_true h2)
        exact fin _ (by unfold safeB; rw [decide_eq_false h1, decide_eq_true h2]; rfl)
      · have h2 : ¬ y = "localhost" := fun e => of_decide_eq_false h2 (by rw [e])
        refine ⟨_, rfl, ⟨_, rfl⟩, _, _, rfl, rfl, ?_⟩
        rw [endswith_tl]
        exact fin _ (by unfold safeB; rw [decide_eq_false h1, decide_eq_false h2, Bool.false_or, Bool.false_or])
theorem ok__can_be_in (T : Txt K mg) : Cal P w K mg base CX0 8 "_can_be_in" ["space", "host", "same"] (sp__can_be_in K) := by
  refine T.d__can_be_in.ok0 sc__can_be_in (fun vs H Q E h => ?_) (fun f cdv A outer s H vs Q E hr h => ?_)
  · first | (obtain ⟨_, rfl, _⟩ := h; rfl) | (obtain ⟨_, _, rfl, _⟩ := h; rfl) | (obtain ⟨_, _, _, rfl, _⟩ := h; rfl) | (obtain ⟨_, _, _, _, rfl, _⟩ := h; rfl) | (obtain ⟨_, _, _, _, _, rfl, _⟩ := h; rfl) | (obtain ⟨_, _, _, _, _, _, rfl, _⟩ := h; rfl) | (obtain ⟨_, _, _, _, _, _, _, rfl, _⟩ := h; rfl) | (obtain ⟨_, _, _, _, _, _, _, _, rfl, _⟩ := h; rfl) | (obtain ⟨_, _, _, _, _, _, _, _, _, rfl, _⟩ := h; rfl) | (obtain ⟨_, _, _, _, _, _, _, _, _, _, rfl, _⟩ := h; rfl) | (obtain ⟨_, _, _, _, _, _, _, _, _, _, _, rfl, _⟩ := h; rfl) | (obtain ⟨_, _, _, _, _, _, _, _, _, _, _, _, rfl, _⟩ := h; rfl)
  · refine ⟨_, (pss_cons (ps_asg (pv 0) (pg_tup rfl (pgs_cons (pg_name (i := 3) sc__can_be_in.nd rfl (by first | exact Or.inl rfl | exact Or.inr rfl)) (pgs_cons (pg_name (i := 4) sc__can_be_in.nd rfl (by first | exact Or.inl rfl | exact Or.inr rfl)) pgs_nil))))
      (pss_cons (ps_if (pt_val (pv 4))
      (pss_one (ps_ret (pe_cmpR (op_eq) (pv 2) pe_str (nomark _))))
      pss_nil)
      (pss_one (ps_ret (pe_and (pe_c (ok_host_fits T) hr (by decide) (by rfl) pass0 (pa_cons (pv 1) (pa_cons (pe_ix ix_tup (pv 3) pe_int (fun _ _ => rfl)) pa_nil))) (pe_one (pe_c (ok_is_safe T) hr (by decide) (by rfl) pass0 (pa_cons (pe_tup (pa_cons (pe_ix ix_tup (pv 3) pe_int (fun _ _ => rfl)) (pa_cons (pv 1) pa_nil))) pa_nil)))))))), ?_⟩
    obtain ⟨p, s, x, b, y, z, rfl, hp, hs, hg, hy, h1, h2, hQ⟩ := h
    refine seq_asg ?_
    refine ⟨_, rfl, p, _, rfl, SqT.of hp, rfl, _, _, rfl, _, _, rfl, rfl, ?_⟩
    try dsimp only
    refine ⟨_, rfl, b, rfl, ?_⟩
    cases b with
    | true => exact ite_y rfl ⟨_, rfl, rfl, by rw [h1 rfl]; exact hQ H (.refl _)⟩
    | false =>
      obtain ⟨h3, h4⟩ := h2 rfl
      refine ite_n rfl ?_
      dsimp only [tNext]
      refine ⟨_, rfl, _, rfl, s, _, 1, _, rfl, rfl, SqT.of hs, rfl, y, x.2, rfl, hy, hg.2, fun H1 s1 => ⟨_, rfl, ite_y h3 ?_⟩⟩
      refine ⟨_, rfl, s, _, 0, _, rfl, rfl, SqT.of (s1 _ _ hs), rfl, _, rfl, by show 2 ≤ sizeLine; decide, fun t ht => ?_⟩
      refine ⟨t, x.1, y, rfl, upd_same, hg.1, hy, fun H2 s2 => ?_⟩
      rw [h4]
      exact hQ H2 ((s1.trans (Same.new ht)).trans s2)
theorem ok__is_birth (T : Txt K mg) : Cal P w K mg base CX0 3 "_is_birth" ["value"] (sp__is_birth K) := by
  refine T.d__is_birth.ok0 sc__is_birth (fun vs H Q E h => ?_) (fun f cdv A outer s H vs Q E hr h => ?_)
  · first | (obtain ⟨_, rfl, _⟩ := h; rfl) | (obtain ⟨_, _, rfl, _⟩ := h; rfl) | (obtain ⟨_, _, _, rfl, _⟩ := h; rfl) | (obtain ⟨_, _, _, _, rfl, _⟩ := h; rfl) | (obtain ⟨_, _, _, _, _, rfl, _⟩ := h; rfl) | (obtain ⟨_, _, _, _, _, _, rfl, _⟩ := h; rfl) | (obtain ⟨_, _, _, _, _, _, _, rfl, _⟩ := h; rfl) | (obtain ⟨_, _, _, _, _, _, _, _, rfl, _⟩ := h; rfl) | (obtain ⟨_, _, _, _, _, _, _, _, _, rfl, _⟩ := h; rfl) | (obtain ⟨_, _, _, _, _, _, _, _, _, _, rfl, _⟩ := h; rfl) | (obtain ⟨_, _, _, _, _, _, _, _, _, _, _, rfl, _⟩ := h; rfl) | (obtain ⟨_, _, _, _, _, _, _, _, _, _, _, _, rfl, _⟩ := h; rfl)
  · refine ⟨_, (pss_cons (ps_if (PW.pt (pw_or (pt_not (pt_val (pe_callB call_isi (by rfl) T.b_isinstance (by decide +kernel) (pa_cons (pv 0) (pa_cons (pe_bltn (v := .ty "tuple") (by rfl) T.b_tuple (by decide +kernel) rfl) pa_nil))))) (pw_or1 (pt_cmpR (op_ne) (pe_callB call_len_seq (by rfl) T.b_len (by decide +kernel) (pa_cons (pv 0) pa_nil)) pe_int (nomark _)))))
      (pss_one (ps_ret pe_bl))
      pss_nil)
      (pss_one (ps_ret (pe_and (pe_c (ok_is_tick T) hr (by decide) (by rfl) pass0 (pa_cons (pe_ix ix_tup (pv 0) pe_int (fun _ _ => rfl)) pa_nil)) (pe_and (pe_c (ok_is_integer T) hr (by decide) (by rfl) pass0 (pa_cons (pe_ix ix_tup (pv 0) pe_int (fun _ _ => rfl)) pa_nil)) (pe_one (pe_cmpR (op_ge) (pe_ix ix_tup (pv 0) pe_int (fun _ _ => rfl)) pe_int (nomark _)))))))), ?_⟩
    obtain ⟨p, a, b, rfl, hp, a0, a1, b0, hQ⟩ := h
    refine ⟨_, rfl, _, _, _, _, true, rfl, .ty _, .base (.tup hp), kit_ty (by decide +kernel), _, rfl, ite_n rfl ⟨_, rfl, p, _, rfl, .inr (SqT.of hp), rfl, _, rfl, ite_n rfl ?_⟩⟩
    dsimp only [tNext]
    refine ⟨_, rfl, p, _, 0, _, rfl, rfl, SqT.of hp, rfl, _, rfl, .inl ⟨a, rfl, _, rfl, ite_y ?_ ?_⟩⟩
    · simp only [Bool.and_eq_true, decide_eq_true_eq]
      exact ⟨a0, a1⟩
    · refine ⟨_, rfl, p, _, 1, _, rfl, rfl, SqT.of hp, rfl, _, rfl, .inl ⟨b, rfl, true, rfl, ite_y rfl ?_⟩⟩
      refine ⟨_, rfl, p, _, 1, _, rfl, rfl, SqT.of hp, rfl, _, _, rfl, rfl, ?_⟩
      show Q (.bl (decide (0 ≤ b))) H
      rw [decide_eq_true b0]
      exact hQ
theorem ok_Crumb__init (T : Txt K mg) : CalQ P w K mg base (L2.CX P w) 9 "Crumb" "__init__" 4 ["self", "name", "value", "host", "is_exact", "path", "is_secure", "is_hidden", "same", "priority", "space", "born", "seen", "ends"] ["is_exact", "path", "is_secure", "is_hidden", "same", "priority", "space", "born", "seen", "ends"] (sp_Crumb__init K mg) := by
  refine T.m_Crumb__init.okX sc_Crumb__init (fun vs H Q E h => ?_) (fun f cdv A outer s H vs Q E hr h => ?_)
  · first | (obtain ⟨_, rfl, _⟩ := h; rfl) | (obtain ⟨_, _, rfl, _⟩ := h; rfl) | (obtain ⟨_, _, _, rfl, _⟩ := h; rfl) | (obtain ⟨_, _, _, _, rfl, _⟩ := h; rfl) | (obtain ⟨_, _, _, _, _, rfl, _⟩ := h; rfl) | (obtain ⟨_, _, _, _, _, _, rfl, _⟩ := h; rfl) | (obtain ⟨_, _, _, _, _, _, _, rfl, _⟩ := h; rfl) | (obtain ⟨_, _, _, _, _, _, _, _, rfl, _⟩ := h; rfl) | (obtain ⟨_, _, _, _, _, _, _, _, _, rfl, _⟩ := h; rfl) | (obtain ⟨_, _, _, _, _, _, _, _, _, _, rfl, _⟩ := h; rfl) | (obtain ⟨_, _, _, _, _, _, _, _, _, _, _, rfl, _⟩ := h; rfl) | (obtain ⟨_, _, _, _, _, _, _, _, _, _, _, _, rfl, _⟩ := h; rfl)
  · obtain ⟨a_SAMES, hm_SAMES, sq_SAMES⟩ := T.c_SAMES
    obtain ⟨a_PRIORITIES, hm_PRIORITIES, sq_PRIORITIES⟩ := T.c_PRIORITIES
    obtain ⟨C_Crumb, o_Crumb⟩ := T.o_Crumb
    refine ⟨_, (pss_cons (ps_expr (pe_c (CX := L2.CX _ _) (E := fun _ _ _ => False) (ok__need_name_and_value T) hr (by decide) (by rfl) passF (pa_cons (pv 1) (pa_cons (pv 2) pa_nil))))
      (pss_cons (ps_set (i := 14) sc_Crumb__init.nd rfl (by first | exact Or.inl rfl | exact Or.inr rfl) (pe_c (ok_mark_of T) hr (by decide) (by rfl) pass0 (pa_cons (pv 1) (pa_cons (pv 2) pa_nil))))
      (pss_cons (ps_expr (pe_c (ok__need T) hr (by decide) (by rfl) pass0 (pa_cons pe_str (pa_cons (pe_c (ok_is_host T) hr (by decide) (by rfl) pass0 (pa_cons (pv 3) pa_nil)) pa_nil))))
      (pss_cons (ps_expr (pe_c (ok__need T) hr (by decide) (by rfl) pass0 (pa_cons pe_str (pa_cons (pe_callB call_isi (by rfl) T.b_isinstance (by decide +kernel) (pa_cons (pv 4) (pa_cons (pe_bltn (v := .ty "bool") (by rfl) T.b_bool (by decide +kernel) rfl) pa_nil))) pa_nil))))
      (pss_cons (ps_expr (pe_c (ok__need T) hr (by decide) (by rfl) pass0 (pa_cons pe_str (pa_cons (pe_or (pv 4) (pe_one (pe_and (pe_cmpR (op_ne) (pv 14) (pe_gc (by rfl) T.c_HOST_MARK) (nomark _)) (pe_one (pe_not (pe_c (ok_is_address_host T) hr (by decide) (by rfl) pass0 (pa_cons (pv 3) pa_nil))))))) pa_nil))))
      (pss_cons (ps_expr (pe_c (ok__need T) hr (by decide) (by rfl) pass0 (pa_cons pe_str (pa_cons (pe_and (pe_c (ok_is_path T) hr (by decide) (by rfl) pass0 (pa_cons (pv 5) pa_nil)) (pe_one (pe_or (pe_cmpR (op_eq) (pv 5) pe_str (nomark _)) (pe_one (pe_cmpR (op_ne) (pv 14) (pe_gc (by rfl) T.c_HOST_MARK) (nomark _)))))) pa_nil))))
      (pss_cons (ps_expr (pe_c (ok__need T) hr (by decide) (by rfl) pass0 (pa_cons pe_str (pa_cons (pe_and (pe_callB call_isi (by rfl) T.b_isinstance (by decide +kernel) (pa_cons (pv 6) (pa_cons (pe_bltn (v := .ty "bool") (by rfl) T.b_bool (by decide +kernel) rfl) pa_nil))) (pe_one (pe_or (pv 6) (pe_one (pe_cmpR (op_isN) (pv 14) pe_non (nomark _)))))) pa_nil))))
      (pss_cons (ps_expr (pe_c (ok__need T) hr (by decide) (by rfl) pass0 (pa_cons pe_str (pa_cons (pe_callB call_isi (by rfl) T.b_isinstance (by decide +kernel) (pa_cons (pv 7) (pa_cons (pe_bltn (v := .ty "bool") (by rfl) T.b_bool (by decide +kernel) rfl) pa_nil))) pa_nil))))
      (pss_cons (ps_expr (pe_c (ok__need T) hr (by decide) (by rfl) pass0 (pa_cons pe_str (pa_cons (pe_and (pe_callB call_isi (by rfl) T.b_isinstance (by decide +kernel) (pa_cons (pv 8) (pa_cons (pe_bltn (v := .ty "str") (by rfl) T.b_str (by decide +kernel) rfl) pa_nil))) (pe_and (pe_cmpR (op_in_seq) (pv 8) (pe_tup (pa_cons (pe_gc (by rfl) T.c_DEFAULT) (StX.pa_star (pe_gt (by rfl) hm_SAMES) pa_nil))) (by with_unfolding_all rfl)) (pe_one (pe_or (pv 6) (pe_one (pe_cmpR (op_ne) (pv 8) pe_str (nomark _))))))) pa_nil))))
      (pss_cons (ps_expr (pe_c (ok__need T) hr (by decide) (by rfl) pass0 (pa_cons pe_str (pa_cons (pe_and (pe_c (ok_is_integer T) hr (by decide) (by rfl) pass0 (pa_cons (pv 9) pa_nil)) (pe_one (pe_chain (op_le) (op_lt) pe_int (pv 9) (pe_callB call_len_seq (by rfl) T.b_len (by decide +kernel) (pa_cons (pe_gt (by rfl) hm_PRIORITIES) pa_nil))))) pa_nil))))
      (pss_cons (ps_expr (pe_c (ok__need T) hr (by decide) (by rfl) pass0 (pa_cons pe_str (pa_cons (pe_or (pe_cmpR (op_isN) (pv 10) pe_non (nomark _)) (pe_one (pe_and (pe_c (ok__is_partition T) hr (by decide) (by rfl) pass0 (pa_cons (pv 10) pa_nil)) (pe_and (pv 6) (pe_one (pe_c (ok__can_be_in T) hr (by decide) (by rfl) pass0 (pa_cons (pv 10) (pa_cons (pv 3) (pa_cons (pv 8) pa_nil))))))))) pa_nil))))
      (pss_cons (ps_expr (pe_c (ok__need T) hr (by decide) (by rfl) pass0 (pa_cons pe_str (pa_cons (pe_c (ok__is_birth T) hr (by decide) (by rfl) pass0 (pa_cons (pv 11) pa_nil)) pa_nil))))
      (pss_cons (ps_expr (pe_c (ok__need T) hr (by decide) (by rfl) pass0 (pa_cons pe_str (pa_cons (pe_and (pe_c (ok_is_tick T) hr (by decide) (by rfl) pass0 (pa_cons (pv 12) pa_nil)) (pe_one (pe_cmpR (op_le) (pe_ix ix_tup (pv 11) pe_int (fun _ _ => rfl)) (pv 12) (nomark _)))) pa_nil))))
      (pss_cons (ps_expr (pe_c (ok__need T) hr (by decide) (by rfl) pass0 (pa_cons pe_str (pa_cons (pe_or (pe_cmpR (op_isN) (pv 13) pe_non (nomark _)) (pe_one (pe_and (pe_c (ok_is_tick T) hr (by decide) (by rfl) pass0 (pa_cons (pv 13) pa_nil)) (pe_one (pe_chain (op_lt) (op_le) (pv 12) (pv 13) (pe_op op_add (pv 12) (pe_gc (by rfl) T.c_MOST_AGE))))))) pa_nil))))
      (pss_cons (ps_fld (pv 0) (pv 1) rfl)
      (pss_cons (ps_fld (pv 0) (pv 2) rfl)
      (pss_cons (ps_fld (pv 0) (pv 3) rfl)
      (pss_cons (ps_fld (pv 0) (pv 4) rfl)
      (pss_cons (ps_fld (pv 0) (pv 5) rfl)
      (pss_cons (ps_fld (pv 0) (pv 6) rfl)
      (pss_cons (ps_fld (pv 0) (pv 7) rfl)
      (pss_cons (ps_fld (pv 0) (pv 8) rfl)
      (pss_cons (ps_fld (pv 0) (pv 9) rfl)
      (pss_cons (ps_fld (pv 0) (pv 10) rfl)
      (pss_cons (ps_fld (pv 0) (pv 11) rfl)
      (pss_cons (ps_fld (pv 0) (pv 12) rfl)
      (pss_cons (ps_fld (pv 0) (pv 13) rfl)
      (pss_one (ps_fld (pv 0) (pe_c (ok_key_of T) hr (by decide) (by rfl) pass0 (pa_cons (pv 10) (pa_cons (pv 3) (pa_cons (pv 4) (pa_cons (pv 5) (pa_cons (pv 1) pa_nil)))))) rfl))))))))))))))))))))))))))))), ?_⟩
    obtain ⟨a, C, dx, bt, v, c, rfl, hg, ma, hv, hb, ok, hQ⟩ := h
    obtain rfl : C = C_Crumb := by have := hg.symm.trans o_Crumb.g; cases this; rfl
    have lh : c.hs.length ≤ 1000000 := Nat.le_trans (hostB_len ok.hs) (by decide)
    have lp : c.pt.length ≤ 1000000 := Nat.le_trans (pathB_len ok.pt.1) (by decide)
    have l1 : c.nm.length ≤ 4096 := by have := ok.ln.l1; rw [len_tl]; omega
    have l2 : c.vl.length ≤ 4096 := by have := ok.ln.l1; rw [len_tl]; omega
    refine ⟨_, rfl, _, rfl, c.nm, c.vl, rfl, ok.ln, fun H1 s1 => ?_⟩
    try dsimp only
    refine seq_asg ?_
    refine ⟨_, rfl, _, rfl, c.nm, c.vl, rfl, ok.an.1, ok.an.2, l1, l2, fun H2 s2 => ?_⟩
    have s02 := s1.trans s2
    change gName 14 (optS c.mk0) _ _ _
    try dsimp only
    refine need_step (H0 := H) ?g3 s02 fun H3 s3 => ?_
    case g3 =>
      exact fun H' Q' s' q' => ⟨_, rfl, .str c.hs, hostB (tl c.hs), rfl, TxV.of lh, fun H3 s3 => by rw [ok.hs]; exact q' H3 s3⟩
    have s03 := s02.trans s3
    refine need_step (H0 := H) ?g4 s03 fun H4 s4 => ?_
    case g4 =>
      exact fun H' Q' s' q' => ⟨_, rfl, _, _, _, _, true, rfl, .ty _, .base (.bl c.ex), kit_ty (by decide +kernel), q' _ (Same.refl _)⟩
    have s04 := s03.trans s4
    refine need_step (H0 := H) ?g5 s04 fun H5 s5 => ?_
    case g5 =>
      cases hx : c.ex with
      | true => exact givS_orT (givS_var rfl)
      | false =>
        have e := ok.ex.resolve_left (by rw [hx]; decide)
        refine givS_orF (givS_var rfl) (givS_andT (givS_ne (v := optS c.mk0) (givS_var rfl) givS_c (scal_opt _ _) (ne_host e.1)) ?_)
        exact givS_cast (givS_notV (b := addrB (tl c.hs)) fun H' Q' s' q' => ⟨_, rfl, .str c.hs, addrB (tl c.hs), rfl, TxV.of lh, fun H3 s3 => q' H3 s3⟩) (by rw [e.2]; rfl)
    have s05 := s04.trans s5
    refine need_step (H0 := H) ?g6 s05 fun H6 s6 => ?_
    case g6 =>
      refine givS_andT (fun H' Q' s' q' => ⟨_, rfl, .str c.pt, pathB (tl c.pt), rfl, TxV.of lp, by rw [ok.pt.1]; exact q' _ (Same.refl _)⟩) ?_
      by_cases hx : c.pt = "/"
      · exact givS_orT (givS_eq (givS_var rfl) givS_c rfl (decide_eq_true (by rw [hx])))
      · exact givS_orF (givS_eq (givS_var rfl) givS_c rfl (decide_eq_false fun z => hx (V.str.inj z))) (givS_ne (v := optS c.mk0) (givS_var rfl) givS_c (scal_opt _ _) (ne_host (ok.pt.2.resolve_left hx)))
    have s06 := s05.trans s6
    refine need_step (H0 := H) ?g7 s06 fun H7 s7 => ?_
    case g7 =>
      refine givS_andT (fun H' Q' s' q' => ⟨_, rfl, _, _, _, _, true, rfl, .ty _, .base (.bl c.sec), kit_ty (by decide +kernel), q' _ (Same.refl _)⟩) ?_
      cases hx : c.sec with
      | true => exact givS_orT (givS_var rfl)
      | false => exact givS_orF (givS_var rfl) (givS_isNT (givS_cast (v := optS c.mk0) (givS_var rfl) (by rw [ok.sec.resolve_left (by rw [hx]; decide)]; rfl)))
    have s07 := s06.trans s7
    refine need_step (H0 := H) ?g8 s07 fun H8 s8 => ?_
    case g8 =>
      exact fun H' Q' s' q' => ⟨_, rfl, _, _, _, _, true, rfl, .ty _, .base (.bl c.hid), kit_ty (by decide +kernel), q' _ (Same.refl _)⟩
    have s08 := s07.trans s8
    refine need_step (H0 := H) ?g9 s08 fun H9 s9 => ?_
    case g9 =>
      refine givS_andT (fun H' Q' s' q' => ⟨_, rfl, _, _, _, _, true, rfl, .ty _, .base (.str c.sm), kit_ty (by decide +kernel), q' _ (Same.refl _)⟩) (givS_andT ?_ ?_)
      · refine givS_inTup (xs := [.str "default", .str "strict", .str "lax", .str "none"]) (givS_var rfl) (giv_cons giv_c fun σ H Q q => ⟨a_SAMES, _, rfl, .inl (sq_SAMES H), q⟩) (by decide) rfl rfl ?_
        rcases ok.sm.1 with e | e | e | e <;> rw [e] <;> decide +kernel
      · cases hx : c.sec with
        | true => exact givS_orT (givS_var rfl)
        | false => exact givS_orF (givS_var rfl) (givS_ne (givS_var rfl) givS_c rfl (by rw [decide_eq_false fun z => ok.sm.2.resolve_left (by rw [hx]; decide) (V.str.inj z)]; rfl))
    have s09 := s08.trans s9
    refine need_step (H0 := H) ?g10 s09 fun H10 s10 => ?_
    case g10 =>
      refine givS_andT (fun H' Q' s' q' => ⟨_, rfl, _, rfl, .inl ⟨c.pr, rfl, q' _ (Same.refl _)⟩⟩) fun H' Q' s' q' => ⟨_, rfl, _, _, rfl, rfl, _, rfl, ite_y (decide_eq_true ok.pr.1) ⟨a_PRIORITIES, _, rfl, .inr (sq_PRIORITIES H'), _, _, rfl, rfl, ?_⟩⟩
      show Q' (.bl (decide (c.pr < ((3 : Nat) : Int)))) H'
      rw [decide_eq_true (by have := ok.pr.2; omega)]
      exact q' _ (Same.refl _)
    have s010 := s09.trans s10
    refine need_step (H0 := H) ?g11 s010 fun H11 s11 => ?_
    case g11 =>
      cases hx : c.sp with
      | none =>
        rw [hx] at hv
        exact givS_orT (givS_isNT (givS_cast (givS_var rfl) hv))
      | some x =>
        rw [hx] at hv
        obtain ⟨q, z, rfl, hq, hz⟩ := hv
        obtain ⟨k1, k2, k3, k4⟩ := ok.sp x hx
        refine givS_orF (givS_isNR (givS_var rfl)) (givS_andT (fun H' Q' s' q' => ⟨_, rfl, q, z, x.1, x.2, rfl, s' _ _ hq, s' _ _ hz, k1, fun H3 s3 => q' H3 s3⟩) (givS_andT (givS_cast (givS_var rfl) (by rw [k2])) fun H' Q' s' q' => ⟨_, rfl, _, rfl, _, rfl, q, z, x.1, x.2, c.hs, c.sm, rfl, s' _ _ hq, s' _ _ hz, k1, ok.hs, k3, k4, fun H3 s3 => q' H3 s3⟩))
    have s011 := s010.trans s11
    refine need_step (H0 := H) ?g12 s011 fun H12 s12 => ?_
    case g12 =>
      exact fun H' Q' s' q' => ⟨_, rfl, bt, c.b0, c.b1, rfl, s' _ _ hb, ok.bt.1, ok.bt.2.1, ok.bt.2.2, q' _ (Same.refl _)⟩
    have s012 := s011.trans s12
    refine need_step (H0 := H) ?g13 s012 fun H13 s13 => ?_
    case g13 =>
      refine givS_andT (fun H' Q' s' q' => ⟨_, rfl, _, rfl, .inl ⟨c.sn, rfl, by rw [decide_eq_true ok.sn.1, show decide (c.sn ≤ lastT) = true from decide_eq_true ok.sn.2.1]; exact q' _ (Same.refl _)⟩⟩) fun H' Q' s' q' => ⟨_, rfl, bt, _, 0, _, rfl, rfl, SqT.of (s' _ _ hb), rfl, _, rfl, _, _, rfl, rfl, ?_⟩
      show Q' (.bl (decide (c.b0 ≤ c.sn))) H'
      rw [decide_eq_true ok.sn.2.2]
      exact q' _ (Same.refl _)
    have s013 := s012.trans s13
    refine need_step (H0 := H) ?g14 s013 fun H14 s14 => ?_
    case g14 =>
      cases hx : c.en with
      | none => exact givS_orT (givS_isNT (givS_var rfl))
      | some e =>
        obtain ⟨k1, k2, k3, k4⟩ := ok.en e hx
        refine givS_orF (givS_cast (givS_isN (v := .int e) (givS_var rfl)) (by simp)) (givS_andT (fun H' Q' s' q' => ⟨_, rfl, _, rfl, .inl ⟨e, rfl, by rw [decide_eq_true k1, show decide (e ≤ lastT) = true from decide_eq_true k2]; exact q' _ (Same.refl _)⟩⟩) fun H' Q' s' q' => ⟨_, rfl, _, rfl, _, _, rfl, rfl, _, rfl, ite_y (decide_eq_true k3) ⟨_, rfl, _, _, rfl, rfl, _, _, rfl, rfl, ?_⟩⟩)
        show Q' (.bl (decide (e ≤ c.sn + 34560000))) H'
        rw [decide_eq_true k4]
        exact q' _ (Same.refl _)
    have s014 := s013.trans s14
    have ma14 := s014 _ _ ma
    have k0 : KeepA a H H14 := KeepA.refl.same s014
    refine sfld_step rfl ma14 o_Crumb.o.cl (o_Crumb.na.get (by simp)) (by show 0 < 1000; decide) (givS_var rfl) rfl fun X0 kx0 mx0 => ?_
    refine sfld_step rfl mx0 o_Crumb.o.cl (o_Crumb.na.get (by simp)) (by show 1 < 1000; decide) (givS_var rfl) rfl fun X1 kx1 mx1 => ?_
    refine sfld_step rfl mx1 o_Crumb.o.cl (o_Crumb.na.get (by simp)) (by show 2 < 1000; decide) (givS_var rfl) rfl fun X2 kx2 mx2 => ?_
    refine sfld_step rfl mx2 o_Crumb.o.cl (o_Crumb.na.get (by simp)) (by show 3 < 1000; decide) (givS_var rfl) rfl fun X3 kx3 mx3 => ?_
    refine sfld_step rfl mx3 o_Crumb.o.cl (o_Crumb.na.get (by simp)) (by show 4 < 1000; decide) (givS_var rfl) rfl fun X4 kx4 mx4 => ?_
    refine sfld_step rfl mx4 o_Crumb.o.cl (o_Crumb.na.get (by simp)) (by show 5 < 1000; decide) (givS_var rfl) rfl fun X5 kx5 mx5 => ?_
    refine sfld_step rfl mx5 o_Crumb.o.cl (o_Crumb.na.get (by simp)) (by show 6 < 1000; decide) (givS_var rfl) rfl fun X6 kx6 mx6 => ?_
    refine sfld_step rfl mx6 o_Crumb.o.cl (o_Crumb.na.get (by simp)) (by show 7 < 1000; decide) (givS_var rfl) rfl fun X7 kx7 mx7 => ?_
    refine sfld_step rfl mx7 o_Crumb.o.cl (o_Crumb.na.get (by simp)) (by show 8 < 1000; decide) (givS_var rfl) rfl fun X8 kx8 mx8 => ?_
    refine sfld_step rfl mx8 o_Crumb.o.cl (o_Crumb.na.get (by simp)) (by show 9 < 1000; decide) (givS_var rfl) rfl fun X9 kx9 mx9 => ?_
    refine sfld_step rfl mx9 o_Crumb.o.cl (o_Crumb.na.get (by simp)) (by show 10 < 1000; decide) (givS_var rfl) rfl fun X10 kx10 mx10 => ?_
    refine sfld_step rfl mx10 o_Crumb.o.cl (o_Crumb.na.get (by simp)) (by show 11 < 1000; decide) (givS_var rfl) rfl fun X11 kx11 mx11 => ?_
    refine sfld_step rfl mx11 o_Crumb.o.cl (o_Crumb.na.get (by simp)) (by show 12 < 1000; decide) (givS_var rfl) rfl fun X12 kx12 mx12 => ?_
    have kk := (((((((((((((k0.trans kx0).trans kx1).trans kx2).trans kx3).trans kx4).trans kx5).trans kx6).trans kx7).trans kx8).trans kx9).trans kx10).trans kx11).trans kx12)
    have na : ∀ {b : Addr} {xs : List V}, H b = some (.tup xs) → b ≠ a := fun e z => by rw [z, ma] at e; cases e
    have hb13 := kk _ _ hb (na hb)
    have hsp : v = .non ∨ ∃ q xs, v = .ref q ∧ X12 q = some (.tup xs) ∧ xs ≠ [] := by
      cases hx : c.sp with
      | none => rw [hx] at hv; exact .inl hv
      | some x =>
        rw [hx] at hv
        obtain ⟨q, z, rfl, hq, hz⟩ := hv
        exact .inr ⟨q, _, rfl, kk _ _ hq (na hq), by simp⟩
    refine ⟨_, rfl, _, rfl, _, rfl, _, rfl, _, rfl, v, c.hs, c.pt, c.nm, c.ex, rfl, hsp, fun k v2 Y sY h1 h2 hk => ?_⟩
    have mY := sY _ _ mx12
    refine ⟨_, rfl, a, _, dx, _, rfl, mY, o_Crumb.o.cl, o_Crumb.na.get (by simp), by show 13 < 1000; decide, ?_⟩
    have kY : KeepA a H Y := kk.same sY
    have up : ∀ {b : Addr} {xs : List V} {o : HO}, Y b = some (.tup xs) → (L2.upd Y a o) b = some (.tup xs) := fun e => (upd_ne (fun z => by rw [z, mY] at e; cases e)).trans e
    refine hQ _ kY.upd ⟨_, dx, bt, k, v, v2, hg, upd_same, ?_, up (kY _ _ hb (na hb)), fun z => ?_, h2, up hk⟩
    · cases hx : c.sp with
      | none => rw [hx] at hv; exact hv
      | some x =>
        rw [hx] at hv
        obtain ⟨q, z, e, hq, hz⟩ := hv
        exact ⟨q, z, e, up (kY _ _ hq (na hq)), up (kY _ _ hz (na hz))⟩
    · obtain ⟨e, e1, e2⟩ := h1 z
      exact ⟨e, e1, up e2⟩
theorem ok__law_crumb (T : Txt K mg) : Cal P w K mg base CX0 11 "_law_crumb" ["c"] (sp__law_crumb K mg) := by
  refine T.d__law_crumb.ok0 sc__law_crumb (fun vs H Q E h => ?_) (fun f cdv A outer s H vs Q E hr h => ?_)
  · first | (obtain ⟨_, rfl, _⟩ := h; rfl) | (obtain ⟨_, _, rfl, _⟩ := h; rfl) | (obtain ⟨_, _, _, rfl, _⟩ := h; rfl) | (obtain ⟨_, _, _, _, rfl, _⟩ := h; rfl) | (obtain ⟨_, _, _, _, _, rfl, _⟩ := h; rfl) | (obtain ⟨_, _, _, _, _, _, rfl, _⟩ := h; rfl) | (obtain ⟨_, _, _, _, _, _, _, rfl, _⟩ := h; rfl) | (obtain ⟨_, _, _, _, _, _, _, _, rfl, _⟩ := h; rfl) | (obtain ⟨_, _, _, _, _, _, _, _, _, rfl, _⟩ := h; rfl) | (obtain ⟨_, _, _, _, _, _, _, _, _, _, rfl, _⟩ := h; rfl) | (obtain ⟨_, _, _, _, _, _, _, _, _, _, _, rfl, _⟩ := h; rfl) | (obtain ⟨_, _, _, _, _, _, _, _, _, _, _, _, rfl, _⟩ := h; rfl)
  · have hu := hu_of hr
    obtain ⟨C_Crumb, o_Crumb⟩ := T.o_Crumb
    refine ⟨_, (pss_one (ps_ret (pe_mkQ (E := fun _ _ _ => False) o_Crumb (ok_Crumb__init T) hr (by decide) (by rfl) passF (pa_cons (pe_dget hu (pv 0) pe_str (fun _ _ => rfl)) (pa_cons (pe_dget hu (pv 0) pe_str (fun _ _ => rfl)) (pa_cons (pe_dget hu (pv 0) pe_str (fun _ _ => rfl)) pa_nil))) (pk_cons (pe_dget hu (pv 0) pe_str (fun _ _ => rfl)) (pk_cons (pe_dget hu (pv 0) pe_str (fun _ _ => rfl)) (pk_cons (pe_dget hu (pv 0) pe_str (fun _ _ => rfl)) (pk_cons (pe_dget hu (pv 0) pe_str (fun _ _ => rfl)) (pk_cons (pe_dget hu (pv 0) pe_str (fun _ _ => rfl)) (pk_cons (pe_dget hu (pv 0) pe_str (fun _ _ => rfl)) (pk_cons (pe_dget hu (pv 0) pe_str (fun _ _ => rfl)) (pk_cons (pe_dget hu (pv 0) pe_str (fun _ _ => rfl)) (pk_cons (pe_dget hu (pv 0) pe_str (fun _ _ => rfl)) (pk_cons (pe_dget hu (pv 0) pe_str (fun _ _ => rfl)) pk_nil))))))))))))), ?_⟩
    obtain ⟨d, c, rfl, ⟨bt, v, md, hv, hb⟩, ok, hQ⟩ := h
    refine ⟨_, rfl, d, _, rfl, valK md rfl, _, rfl, d, _, rfl, valK md rfl, _, rfl, d, _, rfl, valK md rfl, _, rfl, d, _, rfl, valK md rfl, _, rfl, d, _, rfl, valK md rfl, _, rfl, d, _, rfl, valK md rfl, _, rfl, d, _, rfl, valK md rfl, _, rfl, d, _, rfl, valK md rfl, _, rfl, d, _, rfl, valK md rfl, _, rfl, d, _, rfl, valK md rfl, _, rfl, d, _, rfl, valK md rfl, _, rfl, d, _, rfl, valK md rfl, _, rfl, d, _, rfl, valK md rfl, rfl, rfl, fun x dx hx hdx hne => ?_⟩
    have so : Same H (upd (upd H dx (.own x)) x (.ins C_Crumb dx [])) := fun b o e => by
      rw [upd_ne (ne_of_none e hx), upd_ne (ne_of_none e hdx)]
      exact e
    have mx := upd_same (H := upd H dx (.own x)) (a := x) (o := HO.ins C_Crumb dx [])
    generalize upd (upd H dx (HO.own x)) x (HO.ins C_Crumb dx []) = H3 at so mx ⊢
    refine ⟨x, C_Crumb, dx, bt, v, c, rfl, o_Crumb.g, mx, hv.same so, so _ _ hb, ok, fun H4 k4 hR => ⟨rfl, ?_⟩⟩
    exact hQ x H4 (fun b o e => k4 b o (so b o e) (ne_of_none e hx)) hR
theorem ok__law_can_be (T : Txt K mg) : CalG P w K mg base CX0 3 "_law_can_be" ["rules", "c"] (sp__law_can_be K) := by
  refine T.d__law_can_be.ok0G sc__law_can_be (fun vs H Q E h => ?_) (fun f cdv A outer s H vs Q E hgd hr h => ?_)
  · first | (obtain ⟨_, rfl, _⟩ := h; rfl) | (obtain ⟨_, _, rfl, _⟩ := h; rfl) | (obtain ⟨_, _, _, rfl, _⟩ := h; rfl) | (obtain ⟨_, _, _, _, rfl, _⟩ := h; rfl) | (obtain ⟨_, _, _, _, _, rfl, _⟩ := h; rfl) | (obtain ⟨_, _, _, _, _, _, rfl, _⟩ := h; rfl) | (obtain ⟨_, _, _, _, _, _, _, rfl, _⟩ := h; rfl) | (obtain ⟨_, _, _, _, _, _, _, _, rfl, _⟩ := h; rfl) | (obtain ⟨_, _, _, _, _, _, _, _, _, rfl, _⟩ := h; rfl) | (obtain ⟨_, _, _, _, _, _, _, _, _, _, rfl, _⟩ := h; rfl) | (obtain ⟨_, _, _, _, _, _, _, _, _, _, _, rfl, _⟩ := h; rfl) | (obtain ⟨_, _, _, _, _, _, _, _, _, _, _, _, rfl, _⟩ := h; rfl)
  · have hu := hu_of hr
    refine ⟨_, (pss_cons (ps_par (i := 2) (j := 3) rfl sc__law_can_be.nd rfl rfl (by decide) rfl rfl (pa_cons (pe_dget hu (pv 1) pe_str (fun _ _ => rfl)) (pa_cons (pe_dget hu (pv 1) pe_str (fun _ _ => rfl)) pa_nil)) (by rfl))
      (Evl.pss_cut (ps_if (PW.pt (pw_and (pt_not (pt_val (pe_dget hu (pv 1) pe_str (fun _ _ => rfl)))) (pw_and1 (pt_cmpR (op_eq) (pe_c (ok__law_suffix T) hr (by decide) (by rfl) pass0 (pa_cons (pv 0) (pa_cons (pv 2) pa_nil))) (pv 2) (nomark _)))))
      (pss_one (ps_ret pe_bl))
      pss_nil)
      (pss_cons (ps_if (pt_cmpR (op_isN) (pv 3) pe_non (nomark _))
      (pss_one (ps_ret pe_bl))
      pss_nil)
      (pss_cons (ps_if (pt_cmpR (op_ne) (pe_c (ok__law_family T) hr (by decide) (by rfl) pass0 (pa_cons (pv 0) (pa_cons (pe_ix ix_tup (pe_ix ix_tup (pv 3) pe_int (fun _ _ => rfl)) pe_int (fun _ _ => rfl)) pa_nil))) (pe_ix ix_tup (pe_ix ix_tup (pv 3) pe_int (fun _ _ => rfl)) pe_int (fun _ _ => rfl)) (nomark _))
      (pss_one (ps_ret pe_bl))
      pss_nil)
      (pss_one (ps_ret (pe_or (pe_ix ix_tup (pv 3) pe_int (fun _ _ => rfl)) (pe_one (pe_cmpR (op_eq) (pe_c (ok__law_family T) hr (by decide) (by rfl) pass0 (pa_cons (pv 0) (pa_cons (pv 2) pa_nil))) (pe_ix ix_tup (pe_ix ix_tup (pv 3) pe_int (fun _ _ => rfl)) pe_int (fun _ _ => rfl)) (nomark _)))))))))), ?_⟩
    obtain ⟨p, d, rs, c, rfl, hp, hrs, ⟨bt, v, md, hv, hb⟩, ⟨hh, hh2⟩, hQ⟩ := h
    obtain ⟨hr, hl, hlen⟩ := rules27_in hrs
    refine ⟨_, rfl, d, _, rfl, valK md rfl, _, rfl, d, _, rfl, valK md rfl, ?_⟩
    refine ⟨_, _, rfl, ?_⟩
    try dsimp only
    obtain ⟨hhost, h40⟩ := host28 hh
    have ha : ascii c.hs := ascii_host hhost
    have hr7 : ∀ r ∈ rs, r.length ≤ 100 ∧ r.length ≠ 0 := fun r h => ⟨by have := (hlen r h).1; omega, (hlen r h).2⟩
    refine ⟨fun σ' H' => σ' = [some (.ref p), some (.ref d), some (.str c.hs), some v] ∧ Same H H' ∧ (c.ex || !sfxB rs c.hs) = true, ?_, ?_⟩
    · refine ⟨_, rfl, d, _, rfl, valK md rfl, _, rfl, ?_⟩
      cases hx : c.ex with
      | true => exact ite_n rfl (ite_n rfl ⟨rfl, .refl _, rfl⟩)
      | false =>
        refine ite_y rfl ?_
        refine ⟨_, rfl, _, rfl, p, rs, c.hs, rfl, SqT.of hp, by omega, hr7, by omega, ha, fun e H2 s2 he => ⟨_, rfl, rfl, _, rfl, ?_⟩⟩
        have hk : decide (e = c.hs) = sfxB rs c.hs := by
          rw [← sfx28 hrs hh, ← he]
          by_cases q : e = c.hs
          · rw [decide_eq_true q, decide_eq_true (by rw [q])]
          · rw [decide_eq_false q, decide_eq_false fun z => q (ext_tl z)]
        by_cases q : e = c.hs
        · refine ite_y (by simp [q]) ?_
          have := hQ H2 s2
          rw [show canB rs c = false by unfold canB; rw [hx, ← hk, decide_eq_true q]; rfl] at this
          exact this
        · exact ite_n (by simp [q]) ⟨rfl, s2, by rw [← hk, decide_eq_false q]; rfl⟩
    rintro σ H2 ⟨rfl, s2, hs⟩
    refine ⟨_, rfl, rfl, _, rfl, ?_⟩
    cases hsp : c.sp with
    | none =>
      rw [hsp] at hv
      have hv : v = .non := hv
      refine ite_y (by rw [hv]; simp) ?_
      have := hQ H2 s2
      rw [show canB rs c = true by unfold canB; rw [hs, hsp]; rfl] at this
      exact this
    | some x =>
      rw [hsp] at hv
      obtain ⟨q, z, rfl, hq0, hz0⟩ := hv
      have hq := s2 _ _ hq0
      have hz := s2 _ _ hz0
      refine ite_n (by simp) ?_
      dsimp only [tNext]
      refine ⟨_, rfl, _, rfl, q, _, 0, _, rfl, rfl, SqT.of hq, rfl, z, _, 1, _, rfl, rfl, SqT.of hz, rfl, p, rs, x.1.2, rfl, SqT.of (s2 _ _ hp), hrs, hh2 x hsp, fun H3 s3 => ⟨_, rfl, q, _, 0, _, rfl, rfl, SqT.of (s3 _ _ hq), rfl, z, _, 1, _, rfl, rfl, SqT.of (s3 _ _ hz), rfl, rfl, _, rfl, ?_⟩⟩
      by_cases f1 : famS rs x.1.2 = x.1.2
      rotate_left
      · refine ite_y (by simp [f1]) ?_
        have := hQ H3 (s2.trans s3)
        rw [show canB rs c = false by unfold canB; rw [hs, hsp]; simp [f1]] at this
        exact this
      refine ite_n (by simp [f1]) ?_
      dsimp only [tNext]
      have q4 : ∀ H', Same H H' → Q (.bl (x.2 || decide (famS rs c.hs = x.1.2))) H' := fun H' s' => by
        have := hQ H' s'
        rw [show canB rs c = (x.2 || decide (famS rs c.hs = x.1.2)) by unfold canB; rw [hs, hsp]; simp [f1]] at this
        exact this
      refine ⟨_, rfl, q, _, 1, _, rfl, rfl, SqT.of (s3 _ _ hq), rfl, x.2, rfl, ?_⟩
      cases x2 : x.2 with
      | true => rw [x2] at q4; exact ite_y rfl (q4 H3 (s2.trans s3))
      | false =>
        rw [x2] at q4
        refine ite_n rfl ⟨_, rfl, _, rfl, p, rs, c.hs, rfl, SqT.of (s3 _ _ (s2 _ _ hp)), hrs, hh, fun H4 s4 => ⟨_, rfl, q, _, 0, _, rfl, rfl, SqT.of (s4 _ _ (s3 _ _ hq)), rfl, z, _, 1, _, rfl, rfl, SqT.of (s4 _ _ (s3 _ _ hz)), rfl, rfl, ?_⟩⟩
        have := q4 H4 ((s2.trans s3).trans s4)
        rw [Bool.false_or] at this
        rw [show decide (V.str (famS rs c.hs) = V.str x.1.2) = decide (famS rs c.hs = x.1.2) by simp]
        exact this
theorem ok__law_bad_rules (T : Txt K mg) : Cal P w K mg base CX0 10 "_law_bad_rules" ["wrong", "crumb"] (sp__law_bad_rules K mg) := by
  refine T.d__law_bad_rules.ok0 sc__law_bad_rules (fun vs H Q E h => ?_) (fun f cdv A outer s H vs Q E hr h => ?_)
  · first | (obtain ⟨_, rfl, _⟩ := h; rfl) | (obtain ⟨_, _, rfl, _⟩ := h; rfl) | (obtain ⟨_, _, _, rfl, _⟩ := h; rfl) | (obtain ⟨_, _, _, _, rfl, _⟩ := h; rfl) | (obtain ⟨_, _, _, _, _, rfl, _⟩ := h; rfl) | (obtain ⟨_, _, _, _, _, _, rfl, _⟩ := h; rfl) | (obtain ⟨_, _, _, _, _, _, _, rfl, _⟩ := h; rfl) | (obtain ⟨_, _, _, _, _, _, _, _, rfl, _⟩ := h; rfl) | (obtain ⟨_, _, _, _, _, _, _, _, _, rfl, _⟩ := h; rfl) | (obtain ⟨_, _, _, _, _, _, _, _, _, _, rfl, _⟩ := h; rfl) | (obtain ⟨_, _, _, _, _, _, _, _, _, _, _, rfl, _⟩ := h; rfl) | (obtain ⟨_, _, _, _, _, _, _, _, _, _, _, _, rfl, _⟩ := h; rfl)
  · obtain ⟨C_BadRules, e_BadRules⟩ := T.e_BadRules
    obtain ⟨C_CrumbError, g_CrumbError⟩ : ∃ C, mg "CrumbError" = some (.ref C) := by obtain ⟨_, C1, C2, _, h1, h2, _⟩ := T.f_BadRules; exact ⟨_, h1⟩
    obtain ⟨C_AbsentError, g_AbsentError⟩ : ∃ C, mg "AbsentError" = some (.ref C) := by obtain ⟨_, C1, C2, _, h1, h2, _⟩ := T.f_BadRules; exact ⟨_, h2⟩
    have g_BadRules := e_BadRules.g
    obtain ⟨C_BadCrumb, g_BadCrumb⟩ : ∃ C, mg "BadCrumb" = some (.ref C) := by obtain ⟨_, _, _, _, _, _, _, _, h⟩ := T.f_BadRules; obtain ⟨C, h, _⟩ := h ("BadCrumb", false) (by simp); exact ⟨C, h⟩
    obtain ⟨x_BadRules, m_BadRules⟩ : ExcC K C_BadRules ∧ PySem.W.exmAny K (.ref C_BadRules) [.ref C_CrumbError, .ref C_AbsentError] = some true := by obtain ⟨_, _, _, h0, h1, h2, x, m, _⟩ := T.f_BadRules; cases h0.symm.trans e_BadRules.g; cases h1.symm.trans g_CrumbError; cases h2.symm.trans g_AbsentError; exact ⟨x, m⟩
    have k_BadRules_BadRules : PySem.W.kitOne K (.ref C_BadRules) (.ref C_BadRules) = some true := by obtain ⟨_, _, _, h0, _, _, _, _, h⟩ := T.f_BadRules; cases h0.symm.trans e_BadRules.g; obtain ⟨C, h, k⟩ := h ("BadRules", true) (by simp); cases h.symm.trans g_BadRules; exact k
    have k_BadRules_BadCrumb : PySem.W.kitOne K (.ref C_BadRules) (.ref C_BadCrumb) = some false := by obtain ⟨_, _, _, h0, _, _, _, _, h⟩ := T.f_BadRules; cases h0.symm.trans e_BadRules.g; obtain ⟨C, h, k⟩ := h ("BadCrumb", false) (by simp); cases h.symm.trans g_BadCrumb; exact k
    refine ⟨_, (pss_cons (ps_set (i := 2) sc__law_bad_rules.nd rfl (by first | exact Or.inl rfl | exact Or.inr rfl) pe_non)
      (pss_cons (ps_try_tup (i := 3) rfl rfl sc__law_bad_rules.nd rfl rfl rfl ⟨rfl, by decide, Or.inl g_CrumbError⟩ ⟨rfl, by decide, Or.inl g_AbsentError⟩
      (fun W pn xe tk po => (pss_one (ps_expr (pe_cX (ok_is_crumb T) hr (by decide) (by rfl) tk (pa_cons (pv 0) (pa_cons (pv 1) pa_nil))))))
      (fun a pn => (pss_one (ps_set (i := 2) sc__law_bad_rules.nd rfl (by first | exact Or.inl rfl | exact Or.inr rfl) (pv 3)))))
      (pss_one (ps_ret (pe_and (pe_callB call_isE (by rfl) T.b_isinstance (by decide +kernel) (pa_cons (pv 2) (pa_cons (pe_gt (by rfl) g_BadRules) pa_nil))) (pe_one (pe_not (pe_callB call_isE (by rfl) T.b_isinstance (by decide +kernel) (pa_cons (pv 2) (pa_cons (pe_gt (by rfl) g_BadCrumb) pa_nil)))))))))), ?_⟩
    obtain ⟨v, u, pl, o, rfl, hv, hu, hQ⟩ := h
    refine seq_asg ?_
    refine ⟨_, rfl, _, rfl, v, u, some pl, o, rfl, hv, hu, fun g hgv C d H' hC s hn => ?_, fun z => (by cases z), fun z => (by cases z)⟩
    cases hgv
    cases hC.symm.trans g_BadRules
    refine ⟨m_BadRules, fun a H2 s2 ha => ⟨_, rfl, ?_⟩⟩
    have s3 := Same.new (o := ExV (.ref C_BadRules) (some d) a) ha
    have E1 : ErrAt (L2.upd H2 a (ExV (.ref C_BadRules) (some d) a)) a C_BadRules [(("index" : Str), pl)] := ⟨d, upd_same, (s2.trans s3) _ _ upd_same⟩
    have sA := (s.trans (Same.new hn)).trans (s2.trans s3)
    exact ⟨_, rfl, a, C_BadRules, _, .ref C_BadRules, _, true, rfl, E1, ClsV.own _, x_BadRules, k_BadRules_BadRules, true, rfl, ite_y rfl ⟨_, rfl, a, C_BadRules, _, .ref C_BadCrumb, _, false, rfl, E1, ClsV.own _, x_BadRules, k_BadRules_BadCrumb, false, rfl, hQ _ sA⟩⟩
theorem ok_need_tick (T : Txt K mg) : Cal P w K mg base CX0 3 "need_tick" ["value"] (sp_need_tick K) := by
  refine T.d_need_tick.ok0 sc_need_tick (fun vs H Q E h => ?_) (fun f cdv A outer s H vs Q E hr h => ?_)
  · first | (obtain ⟨_, rfl, _⟩ := h; rfl) | (obtain ⟨_, _, rfl, _⟩ := h; rfl) | (obtain ⟨_, _, _, rfl, _⟩ := h; rfl) | (obtain ⟨_, _, _, _, rfl, _⟩ := h; rfl) | (obtain ⟨_, _, _, _, _, rfl, _⟩ := h; rfl) | (obtain ⟨_, _, _, _, _, _, rfl, _⟩ := h; rfl) | (obtain ⟨_, _, _, _, _, _, _, rfl, _⟩ := h; rfl) | (obtain ⟨_, _, _, _, _, _, _, _, rfl, _⟩ := h; rfl) | (obtain ⟨_, _, _, _, _, _, _, _, _, rfl, _⟩ := h; rfl) | (obtain ⟨_, _, _, _, _, _, _, _, _, _, rfl, _⟩ := h; rfl) | (obtain ⟨_, _, _, _, _, _, _, _, _, _, _, rfl, _⟩ := h; rfl) | (obtain ⟨_, _, _, _, _, _, _, _, _, _, _, _, rfl, _⟩ := h; rfl)
  · refine ⟨_, (pss_one (ps_if (pt_not (pt_val (pe_c (ok_is_tick T) hr (by decide) (by rfl) pass0 (pa_cons (pv 0) pa_nil))))
      (pss_one ps_never)
      pss_nil)), ?_⟩
    obtain ⟨i, rfl, h0, h1, hQ⟩ := h
    refine ⟨_, rfl, _, rfl, .inl ⟨i, rfl, _, rfl, ?_⟩⟩
    rw [decide_eq_true h0, show decide (i ≤ lastT) = true from decide_eq_true h1]
    exact iteF hQ
theorem ok_has_ended (T : Txt K mg) : Cal P w K mg base CX0 4 "has_ended" ["crumb", "tick"] (sp_has_ended K mg) := by
  refine T.d_has_ended.ok0 sc_has_ended (fun vs H Q E h => ?_) (fun f cdv A outer s H vs Q E hr h => ?_)
  · first | (obtain ⟨_, rfl, _⟩ := h; rfl) | (obtain ⟨_, _, rfl, _⟩ := h; rfl) | (obtain ⟨_, _, _, rfl, _⟩ := h; rfl) | (obtain ⟨_, _, _, _, rfl, _⟩ := h; rfl) | (obtain ⟨_, _, _, _, _, rfl, _⟩ := h; rfl) | (obtain ⟨_, _, _, _, _, _, rfl, _⟩ := h; rfl) | (obtain ⟨_, _, _, _, _, _, _, rfl, _⟩ := h; rfl) | (obtain ⟨_, _, _, _, _, _, _, _, rfl, _⟩ := h; rfl) | (obtain ⟨_, _, _, _, _, _, _, _, _, rfl, _⟩ := h; rfl) | (obtain ⟨_, _, _, _, _, _, _, _, _, _, rfl, _⟩ := h; rfl) | (obtain ⟨_, _, _, _, _, _, _, _, _, _, _, rfl, _⟩ := h; rfl) | (obtain ⟨_, _, _, _, _, _, _, _, _, _, _, _, rfl, _⟩ := h; rfl)
  · obtain ⟨C_Crumb, o_Crumb⟩ := T.o_Crumb
    refine ⟨_, (pss_cons (ps_expr (pe_c (ok__need T) hr (by decide) (by rfl) pass0 (pa_cons pe_str (pa_cons (pe_callB call_isi (by rfl) T.b_isinstance (by decide +kernel) (pa_cons (pv 0) (pa_cons (pe_gt (by rfl) o_Crumb.g) pa_nil))) pa_nil))))
      (pss_cons (ps_expr (pe_c (ok_need_tick T) hr (by decide) (by rfl) pass0 (pa_cons (pv 1) pa_nil)))
      (pss_one (ps_ret (pe_and (pe_cmpR (op_notN) (pe_fld (pv 0) rfl) pe_non (nomark _)) (pe_one (pe_cmpR (op_le) (pe_fld (pv 0) rfl) (pv 1) (nomark _)))))))), ?_⟩
    obtain ⟨a, c, t, rfl, ⟨C, dx, bt, ky, w, w2, hg, ma, _⟩, h0, h1, hQ⟩ := h
    obtain rfl : C = C_Crumb := by have := hg.symm.trans o_Crumb.g; cases this; rfl
    refine need_step (H0 := H) ?g1 (Same.refl _) fun H1 s1 => ?_
    case g1 => exact fun H' Q' s' q' => ⟨_, rfl, _, _, _, _, true, rfl, .own _, o_Crumb.o.ty (s' _ _ ma), kit_self7 K _, q' _ (Same.refl _)⟩
    have ma1 := s1 _ _ ma
    refine ⟨_, rfl, t, rfl, h0, h1, ?_⟩
    try dsimp only
    refine ⟨_, rfl, a, _, dx, _, _, rfl, ma1, o_Crumb.o.cl, o_Crumb.na.get (by simp), rfl, rfl, ?_⟩
    cases hx : c.en with
    | none =>
      have := hQ H1 s1
      unfold endB at this
      rw [hx] at this
      exact ⟨_, rfl, ite_n (by simp [crI]) this⟩
    | some e =>
      have := hQ H1 s1
      unfold endB at this
      rw [hx] at this
      refine ⟨_, rfl, ite_y (by simp [crI]) ⟨_, rfl, a, _, dx, _, _, rfl, ma1, o_Crumb.o.cl, o_Crumb.na.get (by simp), rfl, _, rfl, _, _, ?_, rfl, this⟩⟩
      rw [hx]; rfl
theorem ok__law_ends_right (T : Txt K mg) : CalG P w K mg base CX0 5 "_law_ends_right" ["c", "crumb"] (sp__law_ends_right K mg) := by
  refine T.d__law_ends_right.ok0G sc__law_ends_right (fun vs H Q E h => ?_) (fun f cdv A outer s H vs Q E hgd hr h => ?_)
  · first | (obtain ⟨_, rfl, _⟩ := h; rfl) | (obtain ⟨_, _, rfl, _⟩ := h; rfl) | (obtain ⟨_, _, _, rfl, _⟩ := h; rfl) | (obtain ⟨_, _, _, _, rfl, _⟩ := h; rfl) | (obtain ⟨_, _, _, _, _, rfl, _⟩ := h; rfl) | (obtain ⟨_, _, _, _, _, _, rfl, _⟩ := h; rfl) | (obtain ⟨_, _, _, _, _, _, _, rfl, _⟩ := h; rfl) | (obtain ⟨_, _, _, _, _, _, _, _, rfl, _⟩ := h; rfl) | (obtain ⟨_, _, _, _, _, _, _, _, _, rfl, _⟩ := h; rfl) | (obtain ⟨_, _, _, _, _, _, _, _, _, _, rfl, _⟩ := h; rfl) | (obtain ⟨_, _, _, _, _, _, _, _, _, _, _, rfl, _⟩ := h; rfl) | (obtain ⟨_, _, _, _, _, _, _, _, _, _, _, _, rfl, _⟩ := h; rfl)
  · have hu := hu_of hr
    refine ⟨_, (pss_cons (ps_if (pt_cmpR (op_isN) (pe_dget hu (pv 0) pe_str (fun _ _ => rfl)) pe_non (nomark _))
      (pss_one (ps_ret (pe_cmpR (op_eqD hr.units) (pe_lc (own := [(("tick" : Str), 3)]) rfl sc__law_ends_right.nd (pi_tup (pe_tup (pa_cons pe_int (pa_cons (pe_dget hu (pv 0) pe_str (fun _ _ => rfl)) (pa_cons pe_int pa_nil))))) (blkOk_by (N := ["c", "crumb", "some", "tick"]) (sc := defScope s__law_ends_right) (by decide +kernel)) (fun _ _ _ _ _ => (pg_name (i := 3) sc__law_ends_right.nd rfl (by first | exact Or.inl rfl | exact Or.inr rfl))) (fun _ _ _ _ _ => pts_nil) (fun _ _ _ _ _ => (pe_c (ok_has_ended T) hr (by decide) (by rfl) pass0 (pa_cons (pv 1) (pa_cons (pv 3) pa_nil))))) (pe_op op_rep (pe_lst (pa_cons pe_bl pa_nil)) pe_int) (nomark _))))
      pss_nil)
      (pss_cons (ps_set (i := 2) sc__law_ends_right.nd rfl (by first | exact Or.inl rfl | exact Or.inr rfl) (pe_lst (pa_cons (pe_op op_sub (pe_dget hu (pv 0) pe_str (fun _ _ => rfl)) pe_int) (pa_cons (pe_dget hu (pv 0) pe_str (fun _ _ => rfl)) (pa_cons (pe_op op_add (pe_dget hu (pv 0) pe_str (fun _ _ => rfl)) pe_int) (pa_cons pe_int (pa_cons pe_int pa_nil)))))))
      (pss_one (ps_ret (pe_cmpR (op_eq) (pe_callB (call_reprD (repr_u hr) hgd) (by rfl) T.b_repr (by decide +kernel) (pa_cons (pe_lc (own := [(("tick" : Str), 3)]) rfl sc__law_ends_right.nd (pi_list (pv 2)) (blkOk_by (N := ["c", "crumb", "some", "tick"]) (sc := defScope s__law_ends_right) (by decide +kernel)) (fun _ _ _ _ _ => (pg_name (i := 3) sc__law_ends_right.nd rfl (by first | exact Or.inl rfl | exact Or.inr rfl))) (fun _ _ _ _ _ => pts_nil) (fun _ _ _ _ _ => (pe_c (ok_has_ended T) hr (by decide) (by rfl) pass0 (pa_cons (pv 1) (pa_cons (pv 3) pa_nil))))) pa_nil)) (pe_callB (call_reprD (repr_u hr) hgd) (by rfl) T.b_repr (by decide +kernel) (pa_cons (pe_lst (pa_cons pe_bl (pa_cons pe_bl (pa_cons pe_bl (pa_cons pe_bl (pa_cons pe_bl pa_nil)))))) pa_nil)) (nomark _)))))), ?_⟩
    obtain ⟨d, a, c, rfl, ⟨bt, v, md, hv, hb⟩, hC, ok, h1, hQ⟩ := h
    refine ⟨_, rfl, d, _, rfl, valK md rfl, rfl, _, rfl, ?_⟩
    cases he : c.en with
    | none =>
      have md0 : H d = some (.dK (crK c v bt)) := md
      refine ite_y (by simp [crI]) ⟨_, rfl, d, _, rfl, valK md rfl, by show 3 ≤ sizeLine; decide, fun T hT => ⟨_, rfl, ⟨_, SqT.of upd_same⟩, fun D hD => ?_⟩⟩
      have sT := Same.new (o := HO.tup [V.int 0, V.int c.sn, V.int 253402300799]) hT
      have mT := upd_same (H := H) (a := T) (o := HO.tup [V.int 0, V.int c.sn, V.int 253402300799])
      generalize upd H T (HO.tup [V.int 0, V.int c.sn, V.int 253402300799]) = H1 at sT mT hD ⊢
      have hC1 := hC.same sT
      refine lc_tup (K := K) (a := T) (xs := [.int 0, .int c.sn, .int 253402300799]) (fun i H2 => H2 D = some (.lst (([0, c.sn, 253402300799].take i).map fun t => V.bl (endB c t))) ∧ Same H1 H2) ⟨upd_same, Same.new hD⟩ (fun i H2 _ ⟨_, s⟩ => SqT.of (s _ _ mT)) ?_ ?_
      · rintro i x H2 hi ⟨mD, s2⟩
        have hb3 : i < 3 := (List.getElem?_eq_some_iff.mp hi).1
        have hx : ∃ t : Int, x = .int t ∧ [0, c.sn, 253402300799][i]? = some t ∧ 0 ≤ t ∧ t ≤ 253402300799 := by
          match i, hi, hb3 with
          | 0, hi, _ => cases hi; exact ⟨_, rfl, rfl, by decide, by decide⟩
          | 1, hi, _ => cases hi; exact ⟨_, rfl, rfl, ok.sn.1, ok.sn.2.1⟩
          | 2, hi, _ => cases hi; exact ⟨_, rfl, rfl, by decide, by decide⟩
        obtain ⟨t, rfl, ht, t0, t1⟩ := hx
        refine ⟨rfl, _, rfl, _, rfl, a, c, t, rfl, hC1.same s2, t0, t1, fun H3 s3 => ⟨_, s3 _ _ mD, Nat.lt_of_le_of_lt (by rw [List.length_map, List.length_take]; omega : _ ≤ 100) (by decide), ?_, Same.put (s2.trans s3) hD⟩⟩
        rw [upd_same, List.take_succ, ht, List.map_append]; rfl
      rintro H2 ⟨mD, s2⟩
      have eb : ∀ t : Int, endB c t = false := fun t => by unfold endB; rw [he]
      have mD : H2 D = some (.lst [V.bl false, .bl false, .bl false]) := by
        rw [mD]
        show some (HO.lst [V.bl (endB c 0), .bl (endB c c.sn), .bl (endB c 253402300799)]) = _
        rw [eb, eb, eb]
      refine ⟨by show 1 ≤ sizeLine; decide, fun p1 h1 => ⟨_, _, _, rfl, rfl, upd_same, by decide, by decide, by show 1 * 3 ≤ sizeLine; decide, fun p2 h2 => ?_⟩⟩
      have mr : (upd (upd H2 p1 (.lst [V.bl false])) p2 (.lst (List.replicate (3 : Int).toNat [V.bl false]).flatten)) p2 = some (.lst [V.bl false, .bl false, .bl false]) := upd_same
      have s4 := (Same.new (o := HO.lst [V.bl false]) h1).trans (Same.new (o := HO.lst (List.replicate (3 : Int).toNat [V.bl false]).flatten) h2)
      have sh : SeqAt.shaped (.list [.bool false, .bool false, .bool false]) = true := by decide +kernel
      refine ⟨_, _, .lst (SqL.of (s4 _ _ mD)) (.cons (.bl _) (.cons (.bl _) (.cons (.bl _) .nil))), .lst (SqL.of mr) (.cons (.bl _) (.cons (.bl _) (.cons (.bl _) .nil))), sh, sh, ?_⟩
      rw [eqv_same sh]
      exact hQ _ ((sT.trans s2).trans s4)
    | some e =>
      have ve : valV (crK c v bt) (Sum.inr "ends") = some (.int e) := by
        show some (crI c.en) = some (V.int e)
        rw [he]; rfl
      obtain ⟨k1, k2, k3, k4⟩ := ok.en e he
      have k5 := h1 e he
      have k0 := ok.sn.1
      refine ite_n (by simp [crI]) ?_
      dsimp only [tNext]
      refine seq_asg ?_
      refine ⟨_, rfl, d, _, rfl, valK md ve, _, _, rfl, rfl, _, rfl, d, _, rfl, valK md ve, _, rfl, d, _, rfl, valK md ve, _, _, rfl, rfl, by show 5 ≤ sizeLine; decide, fun L hL => ?_⟩
      have sL := Same.new (o := HO.lst [V.int (e - 1), .int e, .int (e + 1), .int 0, .int 253402300799]) hL
      have mL := upd_same (H := H) (a := L) (o := HO.lst [V.int (e - 1), .int e, .int (e + 1), .int 0, .int 253402300799])
      generalize upd H L (HO.lst [V.int (e - 1), .int e, .int (e + 1), .int 0, .int 253402300799]) = H1 at sL mL ⊢
      have hC1 := hC.same sL
      try dsimp only
      refine ⟨_, rfl, L, rfl, ⟨_, SqL.of mL⟩, fun D hD => ?_⟩
      refine lc_list (K := K) (a := L) (xs := [V.int (e - 1), .int e, .int (e + 1), .int 0, .int 253402300799]) (fun i H2 => H2 D = some (.lst (([e - 1, e, e + 1, 0, 253402300799].take i).map fun t => V.bl (endB c t))) ∧ Same H1 H2) ⟨upd_same, Same.new hD⟩ (fun i H2 _ ⟨_, s⟩ => SqL.of (s _ _ mL)) ?_ ?_
      · rintro i x H2 hi ⟨mD, s2⟩
        have hb3 : i < 5 := (List.getElem?_eq_some_iff.mp hi).1
        have hx : ∃ t : Int, x = .int t ∧ [e - 1, e, e + 1, 0, 253402300799][i]? = some t ∧ 0 ≤ t ∧ t ≤ 253402300799 := by
          match i, hi, hb3 with
          | 0, hi, _ => cases hi; exact ⟨_, rfl, rfl, by omega, by omega⟩
          | 1, hi, _ => cases hi; exact ⟨_, rfl, rfl, k1, k2⟩
          | 2, hi, _ => cases hi; exact ⟨_, rfl, rfl, by omega, k5⟩
          | 3, hi, _ => cases hi; exact ⟨_, rfl, rfl, by decide, by decide⟩
          | 4, hi, _ => cases hi; exact ⟨_, rfl, rfl, by decide, by decide⟩
        obtain ⟨t, rfl, ht, t0, t1⟩ := hx
        refine ⟨rfl, _, rfl, _, rfl, a, c, t, rfl, hC1.same s2, t0, t1, fun H3 s3 => ⟨_, s3 _ _ mD, Nat.lt_of_le_of_lt (by rw [List.length_map, List.length_take]; omega : _ ≤ 100) (by decide), ?_, Same.put (s2.trans s3) hD⟩⟩
        rw [upd_same, List.take_succ, ht, List.map_append]; rfl
      rintro H2 ⟨mD, s2⟩
      have eb : ∀ t : Int, endB c t = decide (e ≤ t) := fun t => by unfold endB; rw [he]
      have mD : H2 D = some (.lst [V.bl false, .bl true, .bl true, .bl false, .bl true]) := by
        rw [mD]
        show some (HO.lst [V.bl (endB c (e - 1)), .bl (endB c e), .bl (endB c (e + 1)), .bl (endB c 0), .bl (endB c 253402300799)]) = _
        rw [eb, eb, eb, eb, eb, decide_eq_false (by omega), decide_eq_true (by omega), decide_eq_true (by omega), decide_eq_false (by omega), decide_eq_true (by omega)]
      have rp : RpD (.list [.bool false, .bool true, .bool true, .bool false, .bool true]) (3 + (5 + 2) * 5) 1 := RpD.list (m := 5) (fun q hq => by
        simp only [List.mem_cons, List.not_mem_nil, or_false] at hq
        rcases hq with rfl | rfl | rfl | rfl | rfl <;> exact RpD.bool _) (Nat.le_refl _)
      delta tNil
      refine rp.repr (by decide) (by decide) (.lst (SqL.of mD) (.cons (.bl _) (.cons (.bl _) (.cons (.bl _) (.cons (.bl _) (.cons (.bl _) .nil)))))) ?_
      refine ⟨by show 5 ≤ sizeLine; decide, fun L2 h2 => ?_⟩
      refine rp.repr (by decide) (by decide) (.lst (SqL.of upd_same) (.cons (.bl _) (.cons (.bl _) (.cons (.bl _) (.cons (.bl _) (.cons (.bl _) .nil)))))) ?_
      refine ⟨rfl, ?_⟩
      rw [decide_eq_true rfl]
      exact hQ _ ((sL.trans s2).trans (Same.new h2))
theorem ok__law_own_space (T : Txt K mg) : Cal P w K mg base CX0 3 "_law_own_space" ["draw", "c"] (sp__law_own_space K) := by
  refine T.d__law_own_space.ok0 sc__law_own_space (fun vs H Q E h => ?_) (fun f cdv A outer s H vs Q E hr h => ?_)
  · first | (obtain ⟨_, rfl, _⟩ := h; rfl) | (obtain ⟨_, _, rfl, _⟩ := h; rfl) | (obtain ⟨_, _, _, rfl, _⟩ := h; rfl) | (obtain ⟨_, _, _, _, rfl, _⟩ := h; rfl) | (obtain ⟨_, _, _, _, _, rfl, _⟩ := h; rfl) | (obtain ⟨_, _, _, _, _, _, rfl, _⟩ := h; rfl) | (obtain ⟨_, _, _, _, _, _, _, rfl, _⟩ := h; rfl) | (obtain ⟨_, _, _, _, _, _, _, _, rfl, _⟩ := h; rfl) | (obtain ⟨_, _, _, _, _, _, _, _, _, rfl, _⟩ := h; rfl) | (obtain ⟨_, _, _, _, _, _, _, _, _, _, rfl, _⟩ := h; rfl) | (obtain ⟨_, _, _, _, _, _, _, _, _, _, _, rfl, _⟩ := h; rfl) | (obtain ⟨_, _, _, _, _, _, _, _, _, _, _, _, rfl, _⟩ := h; rfl)
  · have hu := hu_of hr
    refine ⟨_, (pss_cons (ps_set (i := 2) sc__law_own_space.nd rfl (by first | exact Or.inl rfl | exact Or.inr rfl) (pe_split (pe_dget hu (pv 1) pe_str (fun _ _ => rfl)) pe_str))
      (pss_cons (ps_setLc (i := 3) (own := [(("k" : Str), 5)]) rfl sc__law_own_space.nd rfl rfl (sw_true rfl rfl rfl (by decide +kernel)) (pi_range1 (by rfl) T.b_range (pa_cons (pe_callB call_len_seq (by rfl) T.b_len (by decide +kernel) (pa_cons (pv 2) pa_nil)) pa_nil)) (blkOk_by (N := ["draw", "c", "words", "some", "other", "k"]) (sc := defScope s__law_own_space) (by decide +kernel)) (fun _ _ _ _ _ => (pg_name (i := 5) sc__law_own_space.nd rfl (by first | exact Or.inl rfl | exact Or.inr rfl))) (fun _ _ _ _ _ => pts_nil) (fun _ _ _ _ _ => (pe_m1 PySem.F.slot_str_join PySem.F.type_str_join (show MtR _ "str.join" (rJoinQ K) from mt_join) pe_str (pe_slice (show SlR _ (rSlL K) from sl_list) (pv 2) (po_some (pv 5)) po_none))))
      (pss_cons (ps_set (i := 4) sc__law_own_space.nd rfl (by first | exact Or.inl rfl | exact Or.inr rfl) (pe_callTy call_dictD (by rfl) T.b_dict (by decide +kernel) (pa_cons (pv 1) pa_nil)))
      (Evl.pss_cut (ps_if (pt_val (pe_c (ok__law_is_numbers T) hr (by decide) (by rfl) pass0 (pa_cons (pe_dget hu (pv 1) pe_str (fun _ _ => rfl)) pa_nil)))
      (pss_one (ps_ret (pv 4)))
      pss_nil)
      (pss_cons (ps_expr (pe_bm PySem.F.plainAttrs_dict PySem.F.slot_dict_update PySem.F.type_dict_update mt_updD (pv 4) (pa_cons (pe_disp (pps_cons pe_str pe_bl (pps_cons pe_str pe_str (pps_cons pe_str (pe_tup (pa_cons (pe_tup (pa_cons pe_str (pa_cons (pe_c (ok__law_pick T) hr (by decide) (by rfl) pass0 (pa_cons (pv 0) (pa_cons (pv 3) pa_nil))) pa_nil))) (pa_cons pe_bl pa_nil))) pps_nil))) rfl rfl (by simp) (by decide)) pa_nil)))
      (pss_one (ps_ret (pv 4)))))))), ?_⟩
    obtain ⟨d, g, a, c, n, rfl, hA, ok, hh, ad, ag, D, hQ⟩ := h
    obtain ⟨h28, h40⟩ := host28 hh.1
    have ay : ascii c.hs := ascii_host h28
    obtain ⟨bt, v, md, hv, hb⟩ := hA
    refine ⟨_, rfl, a, _, rfl, valK md rfl, ?_⟩
    refine ⟨⟨_, rfl⟩, _, _, rfl, rfl, by decide +kernel, Nat.le_trans (by omega : _ ≤ 1000) (by decide), fun p1 hp1 => ?_⟩
    have s1 := Same.new (o := HO.lst ((Txt.split c.hs ("." : Str)).map V.str)) hp1
    have m1 := upd_same (H := H) (a := p1) (o := HO.lst ((Txt.split c.hs ("." : Str)).map V.str))
    have hWm : ∀ z ∈ Txt.split c.hs ("." : Str), z.length ≤ 1000 := fun z hz => by
      rw [dot_eq] at hz
      exact Nat.le_trans (split_mem_len (by decide) hz) (by omega)
    have eW : (Txt.split c.hs ("." : Str)).map tl = sp1 46 (tl c.hs) := by rw [dot_eq]; exact split_sp1 c.hs (by decide)
    generalize Txt.split c.hs ("." : Str) = W at s1 m1 hWm eW ⊢
    have lW : W.length = (sp1 46 (tl c.hs)).length := by rw [← eW, List.length_map]
    have w1 : 1 ≤ W.length := by rw [lW]; exact List.length_pos_iff.mpr (sp1_ne _ _)
    have w2 : W.length ≤ 101 := by
      rw [lW]
      have := sp1_length (c := 46) (tl c.hs)
      rw [← len_tl] at this
      omega
    have D1 := D.same s1
    generalize upd H p1 (HO.lst (W.map V.str)) = H1 at s1 m1 D1 ⊢
    try dsimp only
    refine seq_asg ?_
    refine ⟨_, rfl, p1, _, rfl, .inl (SqL.of m1), _, rfl, by rw [List.length_map]; omega, by rw [List.length_map]; exact Int.lt_of_le_of_lt (by omega : _ ≤ (1000 : Int)) (by decide), fun L hL => ?_⟩
    have eN : ((((W.map V.str).length : Nat) : Int)).toNat = W.length := by rw [List.length_map]; rfl
    rw [eN]
    refine lc_range (n := W.length) (fun j H' => ∃ SS : List Str, H' L = some (.lst (SS.map V.str)) ∧ SS.length = j ∧ (∀ z ∈ SS, ∃ k, k < W.length ∧ tl z = joinL [46] ((sp1 46 (tl c.hs)).drop k)) ∧ Same H1 H') ⟨[], upd_same, rfl, (fun z hz => by cases hz), Same.new hL⟩ ?_ ?_
    · rintro j H5 hj ⟨SS, mL, lS, hS, s5⟩
      refine ⟨rfl, ⟨_, rfl⟩, _, rfl, _, rfl, _, rfl, p1, _, rfl, SqL.of (s5 _ _ m1), fun q hq => ?_⟩
      have ecut : cutV (W.map V.str) (some (0 + (j : Int))) none = (W.drop j).map V.str := by
        rw [cutV_from _ (by omega), List.map_drop]
        congr 1
        omega
      have hwl : ∀ z ∈ W.drop j, z.length ≤ 1000 := fun z hz => hWm z (List.mem_of_mem_drop hz)
      have hs := sum_map_le _ hwl
      have hd : ("." : Str).length = 1 := by decide +kernel
      refine ⟨_, q, W.drop j, rfl, rfl, .inl (SqL.of (by rw [upd_same, ecut])), by rw [hd]; exact join_fits hs (by rw [List.length_drop]; omega), ?_⟩
      have sq := Same.new (o := HO.lst (cutV (W.map V.str) (some (0 + (j : Int))) none)) hq
      refine ⟨_, sq _ _ mL, Nat.lt_of_le_of_lt (by rw [List.length_map]; omega : _ ≤ 200) (by decide), SS ++ [Txt.join ("." : Str) (W.drop j)], by rw [upd_same, List.map_append]; rfl, by rw [List.length_append, lS]; rfl, fun z hz => ?_, Same.put (s5.trans sq) hL⟩
      rcases List.mem_append.mp hz with hz | hz
      · exact hS z hz
      · rw [List.mem_singleton.mp hz]
        refine ⟨j, hj, ?_⟩
        rw [join_tl, tl_dot, ← eW, List.map_drop]
    rintro H5 ⟨SS, mL, lS, hS, s5⟩
    have D5 := D1.same s5
    have s15 := s1.trans s5
    have nL : L ≠ d ∧ L ≠ g := D1.new hL
    have hA : CrAsk H5 a c := ⟨bt, v, s15 _ _ md, hv.same s15, s15 _ _ hb⟩
    clear md hv hb bt v
    obtain ⟨bt, v, md, hv, hb⟩ := hA
    try dsimp only
    refine ⟨_, rfl, a, _, rfl, .inl md, fun B hB => ?_⟩
    have nB := D5.new hB
    have fB : H B = none := s15.free hB
    have sB := Same.new (o := HO.dK (crK c v bt)) hB
    have c0 : Cpt d g B H (upd H5 B (.dK (crK c v bt))) (n + 1) (crK c v bt) v c.sp := ⟨(Same.keepD s15).same sB, D5.same sB, upd_same, nB.1, nB.2, fB, hv.same sB⟩
    have hb6 := sB _ _ hb
    have md6 := sB _ _ md
    have mL6 := sB _ _ mL
    generalize upd H5 B (.dK (crK c v bt)) = H6 at c0 hb6 mL6 md6 ⊢
    try dsimp only
    refine ⟨fun σ' H' => σ' = [some (.ref d), some (.ref a), some (.ref p1), some (.ref L), some (.ref B), none] ∧ Same H6 H' ∧ numsB (tl c.hs) = false, ?_, ?_⟩
    · refine ⟨_, rfl, a, _, rfl, valK md6 rfl, c.hs, rfl, by omega, ay, fun H7 s7 => ⟨_, rfl, ?_⟩⟩
      cases hn : numsB (tl c.hs) with
      | false => exact ite_n rfl ⟨rfl, s7, rfl⟩
      | true =>
        have c1 := c0.same s7
        exact ite_y rfl ⟨_, rfl, hQ B c H7 c1.k (c1.D.less (by omega)) ⟨bt, v, c1.a, c1.s, s7 _ _ hb6⟩ ok hh nB.1 nB.2⟩
    rintro σ H7 ⟨rfl, s7, hn⟩
    have c1 := c0.same s7
    have hb7 := s7 _ _ hb6
    have mL7 := s7 _ _ mL6
    refine ⟨_, rfl, .inr (.inr (.inl ⟨rfl, .inl ⟨_, c1.a⟩⟩)), fun E hE => ?_⟩
    have nE := c1.D.new hE
    have nEB : E ≠ B := fun z => by rw [z, c1.a] at hE; cases hE
    have fE : H E = none := c1.k.newer nE.1 nE.2 hE
    have sE := Same.new (o := HO.dK []) hE
    have c2 := c1.same sE
    have mE := upd_same (H := H7) (a := E) (o := HO.dK [])
    have mL8 := sE _ _ mL7
    have hb8 := sE _ _ hb7
    generalize upd H7 E (.dK []) = H8 at c2 mE mL8 hb8 ⊢
    refine ⟨_, rfl, _, rfl, d, g, L, SS.map V.str, n, rfl, mL8, nL.2, by rw [List.length_map, lS]; omega, by rw [List.length_map, lS]; omega, c2.D, fun i x H9 hx k9 D9 => ⟨by show 2 ≤ sizeLine; decide, fun T hT => ?_⟩⟩
    obtain ⟨z, hz, rfl⟩ := strAt hx
    obtain ⟨k, hk, ez⟩ := hS z (List.mem_of_getElem? hz)
    obtain ⟨z28, zfit⟩ := own28 hh.1 hn (by rw [← lW]; exact hk) ez
    have c3 := c2.keep k9 D9
    have mE9 := k9 _ _ mE nE.1 nE.2
    have hb9 := k9 _ _ hb8 (c2.D.tup hb8).1 (c2.D.tup hb8).2
    have sT := Same.new (o := HO.tup [V.str "https", V.str z]) hT
    have c4 := c3.same sT
    have mE10 := sT _ _ mE9
    have hb10 := sT _ _ hb9
    have mT := upd_same (H := H9) (a := T) (o := HO.tup [V.str "https", V.str z])
    generalize upd H9 T (HO.tup [V.str "https", V.str z]) = H10 at c4 mE10 hb10 mT ⊢
    refine ⟨by show 2 ≤ sizeLine; decide, fun U hU => ?_⟩
    have sU := Same.new (o := HO.tup [V.ref T, V.bl false]) hU
    have c5 := c4.same sU
    have mE11 := sU _ _ mE10
    have hb11 := sU _ _ hb10
    have mT11 := sU _ _ mT
    have mU := upd_same (H := H10) (a := U) (o := HO.tup [V.ref T, V.bl false])
    generalize upd H10 U (HO.tup [V.ref T, V.bl false]) = H11 at c5 mE11 hb11 mT11 mU ⊢
    have c5 := c5.spc (v' := .ref U) (sp' := some (("https", z), false)) ⟨U, T, rfl, mU, mT11⟩
    refine ⟨mE11, [(Sum.inr "secure", .bl true), (Sum.inr "same", .str "lax"), (Sum.inr "space", .ref U)], rfl, by show 3 ≤ 15; decide, ?_⟩
    have c6 := c5.oth (o := .dK (mergeK [] [((Sum.inr "secure" : L2.Key), V.bl true), (Sum.inr "same", .str "lax"), (Sum.inr "space", .ref U)])) mE11 nEB nE.1 nE.2 fE
    have mE12 := upd_same (H := H11) (a := E) (o := HO.dK (mergeK [] [((Sum.inr "secure" : L2.Key), V.bl true), (Sum.inr "same", .str "lax"), (Sum.inr "space", .ref U)]))
    have hb12 : (upd H11 E (.dK (mergeK [] [((Sum.inr "secure" : L2.Key), V.bl true), (Sum.inr "same", .str "lax"), (Sum.inr "space", .ref U)]))) bt = some (.tup [V.int c.b0, V.int c.b1]) := (upd_ne (fun z => by rw [z, mE11] at hb11; cases hb11)).trans hb11
    generalize upd H11 E (.dK (mergeK [] [((Sum.inr "secure" : L2.Key), V.bl true), (Sum.inr "same", .str "lax"), (Sum.inr "space", .ref U)])) = H12 at c6 mE12 hb12 ⊢
    refine ⟨B, E, _, _, rfl, rfl, Ne.symm nEB, c6.a, mE12, by show 13 + 3 ≤ sizeLine; decide, ?_⟩
    have hb13 : (upd H12 B (.dK (mergeK (crK c v bt) (mergeK [] [((Sum.inr "secure" : L2.Key), V.bl true), (Sum.inr "same", .str "lax"), (Sum.inr "space", .ref U)])))) bt = some (.tup [V.int c.b0, V.int c.b1]) := (upd_ne (fun z => by rw [z, c6.a] at hb12; cases hb12)).trans hb12
    have c7 : Cpt d g B H (upd H12 B (.dK (mergeK (crK c v bt) (mergeK [] [((Sum.inr "secure" : L2.Key), V.bl true), (Sum.inr "same", .str "lax"), (Sum.inr "space", .ref U)])))) n (crK { c with sec := true, sm := "lax", sp := some (("https", z), false) } (.ref U) bt) (.ref U) (some (("https", z), false)) := c6.put
    refine ⟨_, rfl, hQ B { c with sec := true, sm := "lax", sp := some (("https", z), false) } _ c7.k c7.D ⟨bt, .ref U, c7.a, c7.s, hb13⟩ ?_ ⟨hh.1, fun x hx => by cases hx; exact z28⟩ nB.1 nB.2⟩
    exact ⟨ok.ln, ok.an, ok.hs, ok.ex, ok.pt, .inl rfl, ⟨.inr (.inr (.inl rfl)), .inl rfl⟩, ok.pr, fun x hx => by cases hx; exact ⟨⟨(by decide +kernel : ("https" : Str) ∈ schemes2), (host28 z28).1⟩, rfl, fun z => (by cases z), fun _ => ⟨zfit, rfl⟩⟩, ok.bt, ok.sn, ok.en⟩
theorem ok_law {f : Addr} {fd : FuncData} (F : Fun K "law" "law" s_law f fd) (T : Txt K mg) : FnG P w K mg base CX0 12 f fd ["script"] (sp_law K) := by
  refine Kb.Fun.okG F sc_law (fun vs H Q E h => ?_) (fun cdv A outer s H vs Q E hgd hr h => ?_)
  · first | (obtain ⟨_, rfl, _⟩ := h; rfl) | (obtain ⟨_, _, rfl, _⟩ := h; rfl) | (obtain ⟨_, _, _, rfl, _⟩ := h; rfl) | (obtain ⟨_, _, _, _, rfl, _⟩ := h; rfl) | (obtain ⟨_, _, _, _, _, rfl, _⟩ := h; rfl) | (obtain ⟨_, _, _, _, _, _, rfl, _⟩ := h; rfl) | (obtain ⟨_, _, _, _, _, _, _, rfl, _⟩ := h; rfl) | (obtain ⟨_, _, _, _, _, _, _, _, rfl, _⟩ := h; rfl) | (obtain ⟨_, _, _, _, _, _, _, _, _, rfl, _⟩ := h; rfl) | (obtain ⟨_, _, _, _, _, _, _, _, _, _, rfl, _⟩ := h; rfl) | (obtain ⟨_, _, _, _, _, _, _, _, _, _, _, rfl, _⟩ := h; rfl) | (obtain ⟨_, _, _, _, _, _, _, _, _, _, _, _, rfl, _⟩ := h; rfl)
  · obtain ⟨C_Crumb, o_Crumb⟩ := T.o_Crumb
    refine ⟨_, (pss_cons (ps_set (i := 1) sc_law.nd rfl (by first | exact Or.inl rfl | exact Or.inr rfl) (pe_c (ok__law_begun T) hr (by decide) (by rfl) pass0 (pa_cons (pv 0) pa_nil)))
      (pss_cons (ps_for PassesOwn.never rfl (pi_range1 (by rfl) T.b_range (pa_cons (pe_op op_add pe_int (pe_callB (call_min2 rfl) (by rfl) T.b_min (by decide +kernel) (pa_cons pe_int (pa_cons (pe_callB call_len_seq (by rfl) T.b_len (by decide +kernel) (pa_cons (pv 0) pa_nil)) pa_nil)))) pa_nil)) (pg_name (i := 2) sc_law.nd rfl (by first | exact Or.inl rfl | exact Or.inr rfl))
      (pss_cons (ps_par (i := 3) (j := 4) rfl sc_law.nd rfl rfl (by decide) rfl rfl (pa_cons (pe_c (ok__law_rules T) hr (by decide) (by rfl) pass0 (pa_cons (pv 1) pa_nil)) (pa_cons (pe_c (ok__law_rules T) hr (by decide) (by rfl) pass0 (pa_cons (pv 1) pa_nil)) pa_nil)) (by rfl))
      (pss_one (ps_for PassesOwn.never rfl (pi_tup (pe_tup (pa_cons (pe_c (ok__law_crumb_parts T) hr (by decide) (by rfl) pass0 (pa_cons (pv 1) (pa_cons (pv 3) pa_nil))) (pa_cons (pe_c (ok__law_crumb_parts T) hr (by decide) (by rfl) pass0 (pa_cons (pv 1) (pa_cons (pv 4) pa_nil))) pa_nil)))) (pg_name (i := 5) sc_law.nd rfl (by first | exact Or.inl rfl | exact Or.inr rfl))
      (pss_cons (ps_for PassesOwn.never rfl (pi_tup (pe_tup (pa_cons (pv 5) (pa_cons (pe_c (ok__law_own_space T) hr (by decide) (by rfl) pass0 (pa_cons (pv 1) (pa_cons (pv 5) pa_nil))) pa_nil)))) (pg_name (i := 6) sc_law.nd rfl (by first | exact Or.inl rfl | exact Or.inr rfl))
      (pss_cons (ps_set (i := 7) sc_law.nd rfl (by first | exact Or.inl rfl | exact Or.inr rfl) (pe_c (ok__law_crumb T) hr (by decide) (by rfl) pass0 (pa_cons (pv 6) pa_nil)))
      (pss_cons (ps_if (pt_cmpR (op_ne) (pe_callB (call_reprD (repr_u hr) hgd) (by rfl) T.b_repr (by decide +kernel) (pa_cons (pe_c (CX := L2.CX _ _) (E := fun _ _ _ => False) (ok_is_crumb T) hr (by decide) (by rfl) passF (pa_cons (pv 3) (pa_cons (pv 7) pa_nil))) pa_nil)) (pe_callB (call_reprD (repr_u hr) hgd) (by rfl) T.b_repr (by decide +kernel) (pa_cons (pe_cG (ok__law_can_be T) hgd hr (by decide) (by rfl) pass0 (pa_cons (pv 3) (pa_cons (pv 6) pa_nil))) pa_nil)) (nomark _))
      (pss_one (ps_ret pe_bl))
      pss_nil)
      (pss_one (ps_if (pt_cmpR (op_ne) (pe_callB (call_reprD (repr_u hr) hgd) (by rfl) T.b_repr (by decide +kernel) (pa_cons (pe_c (CX := L2.CX _ _) (E := fun _ _ _ => False) (ok_is_crumb T) hr (by decide) (by rfl) passF (pa_cons (pv 4) (pa_cons (pv 7) pa_nil))) pa_nil)) (pe_callB (call_reprD (repr_u hr) hgd) (by rfl) T.b_repr (by decide +kernel) (pa_cons (pe_cG (ok__law_can_be T) hgd hr (by decide) (by rfl) pass0 (pa_cons (pv 4) (pa_cons (pv 6) pa_nil))) pa_nil)) (nomark _))
      (pss_one (ps_ret pe_bl))
      pss_nil)))))
      (pss_cons (ps_if (pt_not (pt_val (pe_cG (ok__law_ends_right T) hgd hr (by decide) (by rfl) pass0 (pa_cons (pv 5) (pa_cons (pe_c (ok__law_crumb T) hr (by decide) (by rfl) pass0 (pa_cons (pv 5) pa_nil)) pa_nil)))))
      (pss_one (ps_ret pe_bl))
      pss_nil)
      (pss_cons (ps_set (i := 8) sc_law.nd rfl (by first | exact Or.inl rfl | exact Or.inr rfl) (pe_c (ok__law_pick T) hr (by decide) (by rfl) pass0 (pa_cons (pv 1) (pa_cons (pe_lst (pa_cons pe_non (pa_cons pe_str (pa_cons pe_int (pa_cons pe_bl (pa_cons (pe_lst pa_nil) (pa_cons pe_dnewK (pa_cons (pe_fld (pe_c (ok__law_crumb T) hr (by decide) (by rfl) pass0 (pa_cons (pv 5) pa_nil)) rfl) (pa_cons (pe_tup (pa_cons (pe_c (ok__law_crumb T) hr (by decide) (by rfl) pass0 (pa_cons (pv 5) pa_nil)) pa_nil)) pa_nil))))))))) pa_nil))))
      (pss_one (ps_if (PW.pt (pw_or (pt_cmpR (op_notBl) (pe_c (CX := L2.CX _ _) (E := fun _ _ _ => False) (ok_is_crumb T) hr (by decide) (by rfl) passF (pa_cons (pv 3) (pa_cons (pv 8) pa_nil))) pe_bl (nomark _)) (pw_or1 (pt_not (pt_val (pe_c (ok__law_bad_rules T) hr (by decide) (by rfl) pass0 (pa_cons (pe_c (ok__law_pick T) hr (by decide) (by rfl) pass0 (pa_cons (pv 1) (pa_cons (pe_lst (pa_cons pe_non (pa_cons (pe_lst pa_nil) (pa_cons (pe_tup (pa_cons pe_str pa_nil)) pa_nil)))) pa_nil))) (pa_cons (pv 8) pa_nil))))))))
      (pss_one (ps_ret pe_bl))
      pss_nil)))))))))
      (pss_one (ps_ret pe_bl)))), ?_⟩
    obtain ⟨a, ns, rfl, hS, hl, hQ⟩ := h
    refine seq_asg ?_
    refine ⟨_, rfl, a, ns, rfl, hS, hl, fun d g H1 s1 D => ?_⟩
    have hS1 := s1.seq hS
    try dsimp only
    obtain ⟨m, hm, hm13⟩ : ∃ m : Nat, (3 : Int) + (if ((ns.map V.int).length : Int) < 10 then ((ns.map V.int).length : Int) else 10) = (m : Int) ∧ m ≤ 13 := by
      split
      · exact ⟨3 + (ns.map V.int).length, by omega, by omega⟩
      · exact ⟨13, rfl, Nat.le_refl _⟩
    refine ⟨_, rfl, a, _, rfl, .inl hS1, _, _, rfl, _, _, rfl, rfl, (m : Int), congrArg (fun z => [V.int z]) hm, by omega, by omega, ?_⟩
    refine for_range (n := m) (fun j σ H' => ∃ v2 v3 v4 v5 v6 v7 v8 : Option V, σ = [some (.ref a), some (.ref d), v2, v3, v4, v5, v6, v7, v8] ∧ GAt H' d g (900000000 - 1000 * j)) ⟨none, none, none, none, none, none, none, rfl, D⟩ ?_ ?_
    · rintro j σ H2 hj ⟨v2, v3, v4, v5, v6, v7, v8, rfl, D2⟩
      refine ⟨_, rfl, d, g, 900000000 - 1000 * j - 1, rfl, D2.less (by omega), fun rp rs H3 hrs k3 D3 m3 => ?_⟩
      refine ⟨_, rfl, d, g, 900000000 - 1000 * j - 2, rfl, D3.less (by omega), fun qp qs H4 hqs k4 D4 m4 => ⟨_, _, rfl, ?_⟩⟩
      have m34 := k4 _ _ m3 (D3.tup m3).1 (D3.tup m3).2
      try dsimp only
      refine ⟨_, rfl, _, rfl, d, g, rp, rs, 900000000 - 1000 * j - 62, rfl, m34, hrs, D4.less (by omega), fun a1 c1 H5 k5 D5 A1 o1 h1 _ a1d a1g e1 => ?_⟩
      have m45 := k5 _ _ m4 (D4.tup m4).1 (D4.tup m4).2
      have m35 := k5 _ _ m34 (D4.tup m34).1 (D4.tup m34).2
      refine ⟨_, rfl, _, rfl, d, g, qp, qs, 900000000 - 1000 * j - 122, rfl, m45, hqs, D5.less (by omega), fun a2 c2 H6 k6 D6 A2 o2 h2 _ a2d a2g e2 => ?_⟩
      replace A1 := A1.kd a1d a1g k6 D5
      have m46 := k6 _ _ m45 (D5.tup m45).1 (D5.tup m45).2
      have m36 := k6 _ _ m35 (D5.tup m35).1 (D5.tup m35).2
      refine ⟨by show 2 ≤ sizeLine; decide, fun T hT => ⟨_, rfl, ⟨_, SqT.of upd_same⟩, ?_⟩⟩
      have sT := Same.new (o := HO.tup [V.ref a1, V.ref a2]) hT
      have mT := upd_same (H := H6) (a := T) (o := HO.tup [V.ref a1, V.ref a2])
      replace A1 := A1.same sT
      replace A2 := A2.same sT
      have D7 := D6.same sT
      have m37 := sT _ _ m36
      have m47 := sT _ _ m46
      generalize upd H6 T (HO.tup [V.ref a1, V.ref a2]) = H7 at A1 A2 D7 m37 m47 mT ⊢
      clear sT hT k6 k5 k4 k3 D6 D5 D4 D3 m36 m46 m35 m45 m34 m4 m3
      refine for_tup (K := K) (a := T) (xs := [.ref a1, .ref a2]) (fun i σ H' => ∃ v5 v6 v7 v8 : Option V, σ = [some (.ref a), some (.ref d), some (.int (0 + (j : Nat))), some (.ref rp), some (.ref qp), v5, v6, v7, v8] ∧ KeepD d g H7 H' ∧ GAt H' d g (900000000 - 1000 * j - 122 - 100 * i)) ⟨_, _, _, _, rfl, .refl, D7⟩ (fun i σ H' _ ⟨_, _, _, _, _, k, _⟩ => SqT.of (k _ _ mT (D7.tup mT).1 (D7.tup mT).2)) ?_ ?_
      · rintro i x σ H8 hi ⟨v5, v6, v7, v8, rfl, k8, D8⟩
        obtain ⟨e, c, rfl, hA, ok, hh, ed, eg, he⟩ : ∃ (e : Addr) (c : Cr), x = .ref e ∧ CrAsk H7 e c ∧ CrOk c ∧ CrH28 c ∧ e ≠ d ∧ e ≠ g ∧ (∀ q, c.en = some q → q + 1 ≤ 253402300799) := by
          have := List.mem_of_getElem? hi
          simp only [List.mem_cons, List.not_mem_nil, or_false] at this
          rcases this with rfl | rfl
          · exact ⟨a1, c1, rfl, A1, o1, h1, a1d, a1g, e1⟩
          · exact ⟨a2, c2, rfl, A2, o2, h2, a2d, a2g, e2⟩
        have i2 : i < 2 := (List.getElem?_eq_some_iff.mp hi).1
        have hA8 := hA.kd ed eg k8 D7
        have m38 := k8 _ _ m37 (D7.tup m37).1 (D7.tup m37).2
        have m48 := k8 _ _ m47 (D7.tup m47).1 (D7.tup m47).2
        try dsimp only
        refine ⟨_, rfl, _, rfl, _, rfl, d, g, e, c, 900000000 - 1000 * j - 122 - 100 * i - 1, rfl, hA8, ok, hh, ed, eg, D8.less (by omega), fun e2 c2 H9 k9 D9 A9 ok9 hh9 e2d e2g => ?_⟩
        replace hA8 := hA8.kd ed eg k9 D8
        have m39 := k9 _ _ m38 (D8.tup m38).1 (D8.tup m38).2
        have m49 := k9 _ _ m48 (D8.tup m48).1 (D8.tup m48).2
        refine ⟨by show 2 ≤ sizeLine; decide, fun U hU => ⟨_, rfl, ⟨_, SqT.of upd_same⟩, ?_⟩⟩
        have sU := Same.new (o := HO.tup [V.ref e, V.ref e2]) hU
        have mU := upd_same (H := H9) (a := U) (o := HO.tup [V.ref e, V.ref e2])
        have hA10 := hA8.same sU
        replace A9 := A9.same sU
        have D10 := D9.same sU
        have k10 := (k8.trans k9).same sU
        have m3a := sU _ _ m39
        have m4a := sU _ _ m49
        generalize upd H9 U (HO.tup [V.ref e, V.ref e2]) = H10 at hA10 A9 D10 k10 m3a m4a mU ⊢
        clear sU hU k9 k8 D9 D8 m39 m49 m38 m48 hA8
        have hgood : ∀ (H' : Hp) (rp : Addr) (rs : List Str), rs ∈ rules27 → H' rp = some (.tup (rs.map V.str)) → RulV K H' (.ref rp) none := fun H' rp rs h e => rulV_of e (rules27_in h).1 (by have := (rules27_in h).2.1; omega)
        refine for_tup (K := K) (a := U) (xs := [.ref e, .ref e2]) (fun i2 σ H' => ∃ v6 v7 : Option V, σ = [some (.ref a), some (.ref d), some (.int (0 + (j : Nat))), some (.ref rp), some (.ref qp), some (.ref e), v6, v7, v8] ∧ Same H10 H') ⟨_, _, rfl, .refl _⟩ (fun i σ H' _ ⟨_, _, _, s⟩ => SqT.of (s _ _ mU)) ?_ ?_
        · rintro i3 x σ H11 hi3 ⟨v6, v7, rfl, s11⟩
          obtain ⟨f1, b, rfl, hB, okb, hhb⟩ : ∃ (f1 : Addr) (b : Cr), x = .ref f1 ∧ CrAsk H10 f1 b ∧ CrOk b ∧ CrH28 b := by
            have := List.mem_of_getElem? hi3
            simp only [List.mem_cons, List.not_mem_nil, or_false] at this
            rcases this with rfl | rfl
            · exact ⟨e, c, rfl, hA10, ok, hh⟩
            · exact ⟨e2, c2, rfl, A9, ok9, hh9⟩
          replace hB := hB.same s11
          have m3b := s11 _ _ m3a
          have m4b := s11 _ _ m4a
          try dsimp only
          refine seq_asg ?_
          refine ⟨_, rfl, f1, b, rfl, hB, okb, fun cr H12 s12 hC => ?_⟩
          have chs : CrHs b := ⟨okb.hs, fun x hx => (okb.sp x hx).1.2⟩
          try dsimp only
          refine isc31 rfl rfl rfl hrs (s12 _ _ m3b) (hB.same s12) hhb hC chs fun H13 s13 => ite_n rfl ?_
          try dsimp only [tNext]
          refine isc31 rfl rfl rfl hqs (s13 _ _ (s12 _ _ m4b)) ((hB.same s12).same s13) hhb (hC.same s13) chs fun H14 s14 => ite_n rfl ?_
          exact ⟨_, _, rfl, ((s11.trans s12).trans s13).trans s14⟩
        · rintro σ H11 ⟨v6, v7, rfl, s11⟩
          have hA11 := hA10.same s11
          have D11 := D10.same s11
          have k11 := k10.same s11
          have m3b := s11 _ _ m3a
          clear s11 hA10 A9 D10 k10 m3a m4a mU
          try dsimp only
          refine ⟨_, rfl, _, rfl, e, c, rfl, hA11, ok, fun cr H12 s12 hC => ⟨e, cr, c, rfl, hA11.same s12, hC, ok, he, fun H13 s13 => ⟨true, rfl, ite_n rfl ?_⟩⟩⟩
          have hA13 := (hA11.same s12).same s13
          have D13 := (D11.same s12).same s13
          have k13 := (k11.same s12).same s13
          have m3c := s13 _ _ (s12 _ _ m3b)
          clear hA11 D11 k11 m3b hC s12 s13
          try dsimp only [tNext]
          refine seq_asg ?_
          refine ⟨_, rfl, by show 0 ≤ sizeLine; decide, fun q1 f1 => ?_⟩
          have n1 := D13.new f1
          have t1 := Same.new (o := HO.lst []) f1
          have y1 := upd_same (H := H13) (a := q1) (o := HO.lst [])
          have hA14 := hA13.same t1
          have k14 := k13.same t1
          have D14 := D13.same t1
          have m3d := t1 _ _ m3c
          generalize upd H13 q1 (HO.lst []) = H14 at y1 hA14 k14 D14 m3d ⊢
          clear t1 f1 hA13 k13 D13 m3c
          intro q2 f2
          have n2 := D14.new f2
          have t2 := Same.new (o := HO.dK []) f2
          have y2 := upd_same (H := H14) (a := q2) (o := HO.dK [])
          replace y1 := t2 _ _ y1
          replace hA14 := hA14.same t2
          replace k14 := k14.same t2
          replace D14 := D14.same t2
          replace m3d := t2 _ _ m3d
          generalize upd H14 q2 (HO.dK []) = H15 at y1 y2 hA14 k14 D14 m3d ⊢
          clear t2 f2
          refine ⟨_, rfl, e, c, rfl, hA14, ok, fun cr H16 s16 hC => ?_⟩
          obtain ⟨C, dx, bt, ky, w1, w2, hg, hm, _, _, _, _, hk⟩ := hC
          obtain rfl : C = C_Crumb := by have := hg.symm.trans o_Crumb.g; cases this; rfl
          refine ⟨cr, _, dx, _, _, rfl, hm, o_Crumb.o.cl, o_Crumb.na.get (by simp), rfl, ?_⟩
          replace y1 := s16 _ _ y1
          replace y2 := s16 _ _ y2
          replace hA14 := hA14.same s16
          replace k14 := k14.same s16
          replace D14 := D14.same s16
          replace m3d := s16 _ _ m3d
          have nk := D14.tup hk
          clear hm s16
          refine ⟨_, rfl, e, c, rfl, hA14, ok, fun cr2 H17 s17 hC2 => ⟨by show 1 ≤ sizeLine; decide, fun q3 f3 => ?_⟩⟩
          have t3 := s17.trans (Same.new (o := HO.tup [V.ref cr2]) f3)
          have y3 := upd_same (H := H17) (a := q3) (o := HO.tup [V.ref cr2])
          replace y1 := t3 _ _ y1
          replace y2 := t3 _ _ y2
          replace hk := t3 _ _ hk
          replace hA14 := hA14.same t3
          replace k14 := k14.same t3
          replace D14 := D14.same t3
          replace m3d := t3 _ _ m3d
          generalize upd H17 q3 (HO.tup [V.ref cr2]) = H18 at y1 y2 y3 hk hA14 k14 D14 m3d ⊢
          have n3 := D14.tup y3
          clear t3 s17 f3 hC2
          refine ⟨by show 8 ≤ sizeLine; decide, fun L fL => ?_⟩
          have tL := Same.new (o := HO.lst [V.non, V.str "n=v", V.int 5, V.bl true, V.ref q1, V.ref q2, V.ref ky, V.ref q3]) fL
          have nL := D14.new fL
          have yL := upd_same (H := H18) (a := L) (o := HO.lst [V.non, V.str "n=v", V.int 5, V.bl true, V.ref q1, V.ref q2, V.ref ky, V.ref q3])
          replace y1 := tL _ _ y1
          replace y2 := tL _ _ y2
          replace y3 := tL _ _ y3
          replace hk := tL _ _ hk
          replace k14 := k14.same tL
          replace D14 := D14.same tL
          replace m3d := tL _ _ m3d
          generalize upd H18 L (HO.lst [V.non, V.str "n=v", V.int 5, V.bl true, V.ref q1, V.ref q2, V.ref ky, V.ref q3]) = H19 at y1 y2 y3 yL hk k14 D14 m3d ⊢
          clear tL fL hA14
          refine ⟨d, g, L, _, 900000000 - 1000 * j - 122 - 100 * i - 10, rfl, yL, nL.2, by show 0 < 8; decide, by show 8 ≤ 1000; decide, D14.less (by omega), fun i4 od H20 hx k20 D20 => ?_⟩
          have hod : OddC H20 od := by
            have := List.mem_of_getElem? hx
            simp only [List.mem_cons, List.not_mem_nil, or_false] at this
            rcases this with rfl | rfl | rfl | rfl | rfl | rfl | rfl | rfl
            · exact .inl rfl
            · exact .inr (.inl ⟨_, rfl⟩)
            · exact .inr (.inr (.inl ⟨_, rfl⟩))
            · exact .inr (.inr (.inr (.inl ⟨_, rfl⟩)))
            · exact .inr (.inr (.inr (.inr ⟨_, _, rfl, k20 _ _ y1 n1.1 n1.2, .inr (.inl ⟨_, rfl⟩)⟩)))
            · exact .inr (.inr (.inr (.inr ⟨_, _, rfl, k20 _ _ y2 n2.1 n2.2, .inr (.inr ⟨_, rfl⟩)⟩)))
            · exact .inr (.inr (.inr (.inr ⟨_, _, rfl, k20 _ _ hk nk.1 nk.2, .inl ⟨_, rfl⟩⟩)))
            · exact .inr (.inr (.inr (.inr ⟨_, _, rfl, k20 _ _ y3 n3.1 n3.2, .inl ⟨_, rfl⟩⟩)))
          have nod : ∀ p, od = .ref p → p ≠ d ∧ p ≠ g := fun p z => by
            have := List.mem_of_getElem? hx
            rw [z] at this
            simp only [List.mem_cons, List.not_mem_nil, or_false, V.ref.injEq, reduceCtorEq, false_or] at this
            rcases this with rfl | rfl | rfl | rfl
            · exact n1
            · exact n2
            · exact nk
            · exact n3
          have k20 := k14.trans k20
          have m3e := k20 _ _ m37 (D7.tup m37).1 (D7.tup m37).2
          clear y1 y2 y3 yL hk k14 D14 m3d hx nL n1 n2 n3 nk
          try dsimp only
          refine ⟨_, rfl, _, rfl, .ref rp, od, none, none, rfl, rulV_of m3e (rules27_in hrs).1 (by have := (rules27_in hrs).2.1; omega), .inr ⟨hod.no, rfl⟩, (fun g z => by cases z), fun _ _ H21 s21 => ?_, fun _ c2 hc => by cases hc⟩
          refine ⟨false, false, rfl, rfl, _, rfl, ite_n rfl ?_⟩
          have hod21 := hod.same s21
          have k21 := k20.same s21
          have D21 := D20.same s21
          clear hod k20 D20 m3e s21
          refine ⟨_, rfl, by show 0 ≤ sizeLine; decide, fun q1 f1 => ⟨by show 1 ≤ sizeLine; decide, fun q2 f2 => ⟨by show 3 ≤ sizeLine; decide, fun L fL => ?_⟩⟩⟩
          have t1 := Same.new (o := HO.lst []) f1
          have t2 := Same.new (o := HO.tup [V.str ""]) f2
          have tL := Same.new (o := HO.lst [V.non, V.ref q1, V.ref q2]) fL
          have n1 := D21.new f1
          have n2 := (D21.same t1).new f2
          have nL := ((D21.same t1).same t2).new fL
          have D24 := ((D21.same t1).same t2).same tL
          have k24 := ((k21.same t1).same t2).same tL
          have hod24 := ((hod21.same t1).same t2).same tL
          have y1 := tL _ _ (t2 _ _ (upd_same (H := H21) (a := q1) (o := HO.lst [])))
          have y2 := tL _ _ (upd_same (H := upd H21 q1 (HO.lst [])) (a := q2) (o := HO.tup [V.str ""]))
          have yL := upd_same (H := upd (upd H21 q1 (HO.lst [])) q2 (HO.tup [V.str ""])) (a := L) (o := HO.lst [V.non, V.ref q1, V.ref q2])
          generalize upd (upd (upd H21 q1 (HO.lst [])) q2 (HO.tup [V.str ""])) L (HO.lst [V.non, V.ref q1, V.ref q2]) = H24 at D24 k24 hod24 y1 y2 yL ⊢
          refine ⟨d, g, L, _, 900000000 - 1000 * j - 122 - 100 * i - 11, rfl, yL, nL.2, by show 0 < 3; decide, by show 3 ≤ 1000; decide, D24.less (by omega), fun i5 wr H25 hx k25 D25 => ?_⟩
          obtain ⟨pl, hW⟩ : ∃ pl, RulV K H25 wr (some pl) := by
            have := List.mem_of_getElem? hx
            simp only [List.mem_cons, List.not_mem_nil, or_false] at this
            rcases this with rfl | rfl | rfl
            · exact ⟨_, rul_non⟩
            · exact ⟨_, rul_lst (k25 _ _ y1 n1.1 n1.2)⟩
            · exact ⟨_, rul_no (k25 _ _ y2 n2.1 n2.2)⟩
          have hod25 := hod24.kd nod k25
          refine ⟨_, rfl, wr, od, pl, none, rfl, hW, .inr ⟨hod25.no, rfl⟩, fun H26 s26 => ⟨true, rfl, ite_n rfl ?_⟩⟩
          exact ⟨_, _, _, _, rfl, (k24.trans k25).same s26, (D25.same s26).less (by omega)⟩
      · rintro σ H8 ⟨v5, v6, v7, v8, rfl, k8, D8⟩
        exact ⟨_, _, _, _, _, _, _, rfl, D8.less (by have : ([V.ref a1, V.ref a2] : List V).length = 2 := rfl; omega)⟩
    · rintro σ H2 ⟨v2, v3, v4, v5, v6, v7, v8, rfl, D2⟩
      exact hQ _
end
theorem bd_has_only : ∀ (kV doc pm : Value) (an : Option Addr) (cdv ct : Value) (us : List Value), us.length = (["text", "signs"] : List Str).length → bindArgs (PySem.W.fnOf "has_only" "has_only" (defArgs s_has_only) (defBody s_has_only) (defScope s_has_only) .none kV doc pm an cdv ct) ⟨us, []⟩ = pure ((["text", "signs"] : List Str).zip us) :=
  fun _ _ _ _ _ _ us hl => match us, hl with | [_, _], _ => rfl
theorem bd__is_label : ∀ (kV doc pm : Value) (an : Option Addr) (cdv ct : Value) (us : List Value), us.length = (["text"] : List Str).length → bindArgs (PySem.W.fnOf "_is_label" "_is_label" (defArgs s__is_label) (defBody s__is_label) (defScope s__is_label) .none kV doc pm an cdv ct) ⟨us, []⟩ = pure ((["text"] : List Str).zip us) :=
  fun _ _ _ _ _ _ us hl => match us, hl with | [_], _ => rfl
theorem bd_are_labels : ∀ (kV doc pm : Value) (an : Option Addr) (cdv ct : Value) (us : List Value), us.length = (["texts"] : List Str).length → bindArgs (PySem.W.fnOf "are_labels" "are_labels" (defArgs s_are_labels) (defBody s_are_labels) (defScope s_are_labels) .none kV doc pm an cdv ct) ⟨us, []⟩ = pure ((["texts"] : List Str).zip us) :=
  fun _ _ _ _ _ _ us hl => match us, hl with | [_], _ => rfl
theorem bd__is_rule : ∀ (kV doc pm : Value) (an : Option Addr) (cdv ct : Value) (us : List Value), us.length = (["value"] : List Str).length → bindArgs (PySem.W.fnOf "_is_rule" "_is_rule" (defArgs s__is_rule) (defBody s__is_rule) (defScope s__is_rule) .none kV doc pm an cdv ct) ⟨us, []⟩ = pure ((["value"] : List Str).zip us) :=
  fun _ _ _ _ _ _ us hl => match us, hl with | [_], _ => rfl
theorem bd_need_rules : ∀ (kV doc pm : Value) (an : Option Addr) (cdv ct : Value) (us : List Value), us.length = (["rules"] : List Str).length → bindArgs (PySem.W.fnOf "need_rules" "need_rules" (defArgs s_need_rules) (defBody s_need_rules) (defScope s_need_rules) .none kV doc pm an cdv ct) ⟨us, []⟩ = pure ((["rules"] : List Str).zip us) :=
  fun _ _ _ _ _ _ us hl => match us, hl with | [_], _ => rfl
theorem bd_is_digits : ∀ (kV doc pm : Value) (an : Option Addr) (cdv ct : Value) (us : List Value), us.length = (["text"] : List Str).length → bindArgs (PySem.W.fnOf "is_digits" "is_digits" (defArgs s_is_digits) (defBody s_is_digits) (defScope s_is_digits) .none kV doc pm an cdv ct) ⟨us, []⟩ = pure ((["text"] : List Str).zip us) :=
  fun _ _ _ _ _ _ us hl => match us, hl with | [_], _ => rfl
theorem bd__is_number : ∀ (kV doc pm : Value) (an : Option Addr) (cdv ct : Value) (us : List Value), us.length = (["label"] : List Str).length → bindArgs (PySem.W.fnOf "_is_number" "_is_number" (defArgs s__is_number) (defBody s__is_number) (defScope s__is_number) .none kV doc pm an cdv ct) ⟨us, []⟩ = pure ((["label"] : List Str).zip us) :=
  fun _ _ _ _ _ _ us hl => match us, hl with | [_], _ => rfl
theorem bd__are_four_numbers : ∀ (kV doc pm : Value) (an : Option Addr) (cdv ct : Value) (us : List Value), us.length = (["labels"] : List Str).length → bindArgs (PySem.W.fnOf "_are_four_numbers" "_are_four_numbers" (defArgs s__are_four_numbers) (defBody s__are_four_numbers) (defScope s__are_four_numbers) .none kV doc pm an cdv ct) ⟨us, []⟩ = pure ((["labels"] : List Str).zip us) :=
  fun _ _ _ _ _ _ us hl => match us, hl with | [_], _ => rfl
theorem bd_is_host : ∀ (kV doc pm : Value) (an : Option Addr) (cdv ct : Value) (us : List Value), us.length = (["value"] : List Str).length → bindArgs (PySem.W.fnOf "is_host" "is_host" (defArgs s_is_host) (defBody s_is_host) (defScope s_is_host) .none kV doc pm an cdv ct) ⟨us, []⟩ = pure ((["value"] : List Str).zip us) :=
  fun _ _ _ _ _ _ us hl => match us, hl with | [_], _ => rfl
theorem bd_is_address_host : ∀ (kV doc pm : Value) (an : Option Addr) (cdv ct : Value) (us : List Value), us.length = (["value"] : List Str).length → bindArgs (PySem.W.fnOf "is_address_host" "is_address_host" (defArgs s_is_address_host) (defBody s_is_address_host) (defScope s_is_address_host) .none kV doc pm an cdv ct) ⟨us, []⟩ = pure ((["value"] : List Str).zip us) :=
  fun _ _ _ _ _ _ us hl => match us, hl with | [_], _ => rfl
theorem bd__last_labels : ∀ (kV doc pm : Value) (an : Option Addr) (cdv ct : Value) (us : List Value), us.length = (["host", "many"] : List Str).length → bindArgs (PySem.W.fnOf "_last_labels" "_last_labels" (defArgs s__last_labels) (defBody s__last_labels) (defScope s__last_labels) .none kV doc pm an cdv ct) ⟨us, []⟩ = pure ((["host", "many"] : List Str).zip us) :=
  fun _ _ _ _ _ _ us hl => match us, hl with | [_, _], _ => rfl
theorem bd__size : ∀ (kV doc pm : Value) (an : Option Addr) (cdv ct : Value) (us : List Value), us.length = (["text"] : List Str).length → bindArgs (PySem.W.fnOf "_size" "_size" (defArgs s__size) (defBody s__size) (defScope s__size) .none kV doc pm an cdv ct) ⟨us, []⟩ = pure ((["text"] : List Str).zip us) :=
  fun _ _ _ _ _ _ us hl => match us, hl with | [_], _ => rfl
theorem bd__matches : ∀ (kV doc pm : Value) (an : Option Addr) (cdv ct : Value) (us : List Value), us.length = (["pattern", "host"] : List Str).length → bindArgs (PySem.W.fnOf "_matches" "_matches" (defArgs s__matches) (defBody s__matches) (defScope s__matches) .none kV doc pm an cdv ct) ⟨us, []⟩ = pure ((["pattern", "host"] : List Str).zip us) :=
  fun _ _ _ _ _ _ us hl => match us, hl with | [_, _], _ => rfl
theorem bd__suffix_size : ∀ (kV doc pm : Value) (an : Option Addr) (cdv ct : Value) (us : List Value), us.length = (["rules", "host"] : List Str).length → bindArgs (PySem.W.fnOf "_suffix_size" "_suffix_size" (defArgs s__suffix_size) (defBody s__suffix_size) (defScope s__suffix_size) .none kV doc pm an cdv ct) ⟨us, []⟩ = pure ((["rules", "host"] : List Str).zip us) :=
  fun _ _ _ _ _ _ us hl => match us, hl with | [_, _], _ => rfl
theorem bd_known_suffix : ∀ (kV doc pm : Value) (an : Option Addr) (cdv ct : Value) (us : List Value), us.length = (["rules", "host"] : List Str).length → bindArgs (PySem.W.fnOf "known_suffix" "known_suffix" (defArgs s_known_suffix) (defBody s_known_suffix) (defScope s_known_suffix) .none kV doc pm an cdv ct) ⟨us, []⟩ = pure ((["rules", "host"] : List Str).zip us) :=
  fun _ _ _ _ _ _ us hl => match us, hl with | [_, _], _ => rfl
theorem bd_known_family : ∀ (kV doc pm : Value) (an : Option Addr) (cdv ct : Value) (us : List Value), us.length = (["rules", "host"] : List Str).length → bindArgs (PySem.W.fnOf "known_family" "known_family" (defArgs s_known_family) (defBody s_known_family) (defScope s_known_family) .none kV doc pm an cdv ct) ⟨us, []⟩ = pure ((["rules", "host"] : List Str).zip us) :=
  fun _ _ _ _ _ _ us hl => match us, hl with | [_, _], _ => rfl
theorem bd_is_crumb : ∀ (kV doc pm : Value) (an : Option Addr) (cdv ct : Value) (us : List Value), us.length = (["rules", "value"] : List Str).length → bindArgs (PySem.W.fnOf "is_crumb" "is_crumb" (defArgs s_is_crumb) (defBody s_is_crumb) (defScope s_is_crumb) .none kV doc pm an cdv ct) ⟨us, []⟩ = pure ((["rules", "value"] : List Str).zip us) :=
  fun _ _ _ _ _ _ us hl => match us, hl with | [_, _], _ => rfl
theorem bd__law_begun : ∀ (kV doc pm : Value) (an : Option Addr) (cdv ct : Value) (us : List Value), us.length = (["script"] : List Str).length → bindArgs (PySem.W.fnOf "_law_begun" "_law_begun" (defArgs s__law_begun) (defBody s__law_begun) (defScope s__law_begun) .none kV doc pm an cdv ct) ⟨us, []⟩ = pure ((["script"] : List Str).zip us) :=
  fun _ _ _ _ _ _ us hl => match us, hl with | [_], _ => rfl
theorem bd__law_next : ∀ (kV doc pm : Value) (an : Option Addr) (cdv ct : Value) (us : List Value), us.length = (["draw", "below"] : List Str).length → bindArgs (PySem.W.fnOf "_law_next" "_law_next" (defArgs s__law_next) (defBody s__law_next) (defScope s__law_next) .none kV doc pm an cdv ct) ⟨us, []⟩ = pure ((["draw", "below"] : List Str).zip us) :=
  fun _ _ _ _ _ _ us hl => match us, hl with | [_, _], _ => rfl
theorem bd__law_pick : ∀ (kV doc pm : Value) (an : Option Addr) (cdv ct : Value) (us : List Value), us.length = (["draw", "some"] : List Str).length → bindArgs (PySem.W.fnOf "_law_pick" "_law_pick" (defArgs s__law_pick) (defBody s__law_pick) (defScope s__law_pick) .none kV doc pm an cdv ct) ⟨us, []⟩ = pure ((["draw", "some"] : List Str).zip us) :=
  fun _ _ _ _ _ _ us hl => match us, hl with | [_, _], _ => rfl
theorem bd__law_rules : ∀ (kV doc pm : Value) (an : Option Addr) (cdv ct : Value) (us : List Value), us.length = (["draw"] : List Str).length → bindArgs (PySem.W.fnOf "_law_rules" "_law_rules" (defArgs s__law_rules) (defBody s__law_rules) (defScope s__law_rules) .none kV doc pm an cdv ct) ⟨us, []⟩ = pure ((["draw"] : List Str).zip us) :=
  fun _ _ _ _ _ _ us hl => match us, hl with | [_], _ => rfl
theorem bd__law_is_numbers : ∀ (kV doc pm : Value) (an : Option Addr) (cdv ct : Value) (us : List Value), us.length = (["host"] : List Str).length → bindArgs (PySem.W.fnOf "_law_is_numbers" "_law_is_numbers" (defArgs s__law_is_numbers) (defBody s__law_is_numbers) (defScope s__law_is_numbers) .none kV doc pm an cdv ct) ⟨us, []⟩ = pure ((["host"] : List Str).zip us) :=
  fun _ _ _ _ _ _ us hl => match us, hl with | [_], _ => rfl
theorem bd__law_suffix : ∀ (kV doc pm : Value) (an : Option Addr) (cdv ct : Value) (us : List Value), us.length = (["rules", "host"] : List Str).length → bindArgs (PySem.W.fnOf "_law_suffix" "_law_suffix" (defArgs s__law_suffix) (defBody s__law_suffix) (defScope s__law_suffix) .none kV doc pm an cdv ct) ⟨us, []⟩ = pure ((["rules", "host"] : List Str).zip us) :=
  fun _ _ _ _ _ _ us hl => match us, hl with | [_, _], _ => rfl
theorem bd__law_family : ∀ (kV doc pm : Value) (an : Option Addr) (cdv ct : Value) (us : List Value), us.length = (["rules", "host"] : List Str).length → bindArgs (PySem.W.fnOf "_law_family" "_law_family" (defArgs s__law_family) (defBody s__law_family) (defScope s__law_family) .none kV doc pm an cdv ct) ⟨us, []⟩ = pure ((["rules", "host"] : List Str).zip us) :=
  fun _ _ _ _ _ _ us hl => match us, hl with | [_, _], _ => rfl
theorem bd__law_hosts : ∀ (kV doc pm : Value) (an : Option Addr) (cdv ct : Value) (us : List Value), us.length = ([] : List Str).length → bindArgs (PySem.W.fnOf "_law_hosts" "_law_hosts" (defArgs s__law_hosts) (defBody s__law_hosts) (defScope s__law_hosts) .none kV doc pm an cdv ct) ⟨us, []⟩ = pure (([] : List Str).zip us) :=
  fun _ _ _ _ _ _ us hl => match us, hl with | [], _ => rfl
theorem bd__law_crumb_parts : ∀ (kV doc pm : Value) (an : Option Addr) (cdv ct : Value) (us : List Value), us.length = (["draw", "rules"] : List Str).length → bindArgs (PySem.W.fnOf "_law_crumb_parts" "_law_crumb_parts" (defArgs s__law_crumb_parts) (defBody s__law_crumb_parts) (defScope s__law_crumb_parts) .none kV doc pm an cdv ct) ⟨us, []⟩ = pure ((["draw", "rules"] : List Str).zip us) :=
  fun _ _ _ _ _ _ us hl => match us, hl with | [_, _], _ => rfl
theorem bd_is_integer : ∀ (kV doc pm : Value) (an : Option Addr) (cdv ct : Value) (us : List Value), us.length = (["value"] : List Str).length → bindArgs (PySem.W.fnOf "is_integer" "is_integer" (defArgs s_is_integer) (defBody s_is_integer) (defScope s_is_integer) .none kV doc pm an cdv ct) ⟨us, []⟩ = pure ((["value"] : List Str).zip us) :=
  fun _ _ _ _ _ _ us hl => match us, hl with | [_], _ => rfl
theorem bd_is_tick : ∀ (kV doc pm : Value) (an : Option Addr) (cdv ct : Value) (us : List Value), us.length = (["value"] : List Str).length → bindArgs (PySem.W.fnOf "is_tick" "is_tick" (defArgs s_is_tick) (defBody s_is_tick) (defScope s_is_tick) .none kV doc pm an cdv ct) ⟨us, []⟩ = pure ((["value"] : List Str).zip us) :=
  fun _ _ _ _ _ _ us hl => match us, hl with | [_], _ => rfl
theorem bd__is_path_sign : ∀ (kV doc pm : Value) (an : Option Addr) (cdv ct : Value) (us : List Value), us.length = (["sign"] : List Str).length → bindArgs (PySem.W.fnOf "_is_path_sign" "_is_path_sign" (defArgs s__is_path_sign) (defBody s__is_path_sign) (defScope s__is_path_sign) .none kV doc pm an cdv ct) ⟨us, []⟩ = pure ((["sign"] : List Str).zip us) :=
  fun _ _ _ _ _ _ us hl => match us, hl with | [_], _ => rfl
theorem bd_is_path : ∀ (kV doc pm : Value) (an : Option Addr) (cdv ct : Value) (us : List Value), us.length = (["value"] : List Str).length → bindArgs (PySem.W.fnOf "is_path" "is_path" (defArgs s_is_path) (defBody s_is_path) (defScope s_is_path) .none kV doc pm an cdv ct) ⟨us, []⟩ = pure ((["value"] : List Str).zip us) :=
  fun _ _ _ _ _ _ us hl => match us, hl with | [_], _ => rfl
theorem bd_mark_of : ∀ (kV doc pm : Value) (an : Option Addr) (cdv ct : Value) (us : List Value), us.length = (["name", "value"] : List Str).length → bindArgs (PySem.W.fnOf "mark_of" "mark_of" (defArgs s_mark_of) (defBody s_mark_of) (defScope s_mark_of) .none kV doc pm an cdv ct) ⟨us, []⟩ = pure ((["name", "value"] : List Str).zip us) :=
  fun _ _ _ _ _ _ us hl => match us, hl with | [_, _], _ => rfl
theorem bd_key_of : ∀ (kV doc pm : Value) (an : Option Addr) (cdv ct : Value) (us : List Value), us.length = (["space", "host", "is_exact", "path", "name"] : List Str).length → bindArgs (PySem.W.fnOf "key_of" "key_of" (defArgs s_key_of) (defBody s_key_of) (defScope s_key_of) .none kV doc pm an cdv ct) ⟨us, []⟩ = pure ((["space", "host", "is_exact", "path", "name"] : List Str).zip us) :=
  fun _ _ _ _ _ _ us hl => match us, hl with | [_, _, _, _, _], _ => rfl
theorem bd__need : ∀ (kV doc pm : Value) (an : Option Addr) (cdv ct : Value) (us : List Value), us.length = (["field", "is_right"] : List Str).length → bindArgs (PySem.W.fnOf "_need" "_need" (defArgs s__need) (defBody s__need) (defScope s__need) .none kV doc pm an cdv ct) ⟨us, []⟩ = pure ((["field", "is_right"] : List Str).zip us) :=
  fun _ _ _ _ _ _ us hl => match us, hl with | [_, _], _ => rfl
theorem bd__is_from_0 : ∀ (kV doc pm : Value) (an : Option Addr) (cdv ct : Value) (us : List Value), us.length = (["value", "most"] : List Str).length → bindArgs (PySem.W.fnOf "_is_from_0" "_is_from_0" (defArgs s__is_from_0) (defBody s__is_from_0) (defScope s__is_from_0) .none kV doc pm an cdv ct) ⟨us, []⟩ = pure ((["value", "most"] : List Str).zip us) :=
  fun _ _ _ _ _ _ us hl => match us, hl with | [_, _], _ => rfl
theorem bd_is_trimmed : ∀ (kV doc pm : Value) (an : Option Addr) (cdv ct : Value) (us : List Value), us.length = (["text"] : List Str).length → bindArgs (PySem.W.fnOf "is_trimmed" "is_trimmed" (defArgs s_is_trimmed) (defBody s_is_trimmed) (defScope s_is_trimmed) .none kV doc pm an cdv ct) ⟨us, []⟩ = pure ((["text"] : List Str).zip us) :=
  fun _ _ _ _ _ _ us hl => match us, hl with | [_], _ => rfl
theorem bd__has_control : ∀ (kV doc pm : Value) (an : Option Addr) (cdv ct : Value) (us : List Value), us.length = (["text"] : List Str).length → bindArgs (PySem.W.fnOf "_has_control" "_has_control" (defArgs s__has_control) (defBody s__has_control) (defScope s__has_control) .none kV doc pm an cdv ct) ⟨us, []⟩ = pure ((["text"] : List Str).zip us) :=
  fun _ _ _ _ _ _ us hl => match us, hl with | [_], _ => rfl
theorem bd__is_part : ∀ (kV doc pm : Value) (an : Option Addr) (cdv ct : Value) (us : List Value), us.length = (["value"] : List Str).length → bindArgs (PySem.W.fnOf "_is_part" "_is_part" (defArgs s__is_part) (defBody s__is_part) (defScope s__is_part) .none kV doc pm an cdv ct) ⟨us, []⟩ = pure ((["value"] : List Str).zip us) :=
  fun _ _ _ _ _ _ us hl => match us, hl with | [_], _ => rfl
theorem bd__is_name : ∀ (kV doc pm : Value) (an : Option Addr) (cdv ct : Value) (us : List Value), us.length = (["value"] : List Str).length → bindArgs (PySem.W.fnOf "_is_name" "_is_name" (defArgs s__is_name) (defBody s__is_name) (defScope s__is_name) .none kV doc pm an cdv ct) ⟨us, []⟩ = pure ((["value"] : List Str).zip us) :=
  fun _ _ _ _ _ _ us hl => match us, hl with | [_], _ => rfl
theorem bd__is_value : ∀ (kV doc pm : Value) (an : Option Addr) (cdv ct : Value) (us : List Value), us.length = (["value", "name"] : List Str).length → bindArgs (PySem.W.fnOf "_is_value" "_is_value" (defArgs s__is_value) (defBody s__is_value) (defScope s__is_value) .none kV doc pm an cdv ct) ⟨us, []⟩ = pure ((["value", "name"] : List Str).zip us) :=
  fun _ _ _ _ _ _ us hl => match us, hl with | [_, _], _ => rfl
abbrev kw_Line__init : List (Str × V) := [("expires", .non), ("age", .non), ("domain", .non), ("path", .non), ("is_secure", (.bl false)), ("is_hidden", (.bl false)), ("same", .non), ("is_partitioned", (.bl false)), ("priority", .non)]
theorem bk_Line__init : ∀ (kV doc pm : Value) (an : Option Addr) (cdv ct : Value) (us ws : List Value), us.length = 3 → ws.length = (kw_Line__init).length → bindArgs (PySem.W.fnOf "__init__" "Line.__init__" (defArgs s_Line__init) (defBody s_Line__init) (defScope s_Line__init) .none kV doc pm an cdv ct) ⟨us, ((kw_Line__init).map (·.1)).zip ws⟩ = pure ((["self", "name", "value", "expires", "age", "domain", "path", "is_secure", "is_hidden", "same", "is_partitioned", "priority"] : List Str).zip (us ++ ws)) :=
  fun _ _ _ _ _ _ us ws h1 h2 => match us, ws, h1, h2 with | [_, _, _], [_, _, _, _, _, _, _, _, _], _, _ => rfl
theorem b0_Line__init : ∀ (D : Addr) (doc pm : Value) (an : Option Addr) (cdv ct : Value) (us mv : List Value), us.length = 3 → mv.length = (kw_Line__init).length → KwChain D (((kw_Line__init).map (·.1)).zip mv) (bindArgs (PySem.W.fnOf "__init__" "Line.__init__" (defArgs s_Line__init) (defBody s_Line__init) (defScope s_Line__init) .none (.ref D) doc pm an cdv ct) ⟨us, []⟩) ((["self", "name", "value", "expires", "age", "domain", "path", "is_secure", "is_hidden", "same", "is_partitioned", "priority"] : List Str).zip (us ++ mv)) :=
  fun _ _ _ _ _ _ us mv h1 h2 => match us, mv, h1, h2 with | [_, _, _], [_, _, _, _, _, _, _, _, _], _, _ => ⟨_, _, _, _, _, _, rfl, rfl, ⟨_, _, _, _, _, _, rfl, rfl, ⟨_, _, _, _, _, _, rfl, rfl, ⟨_, _, _, _, _, _, rfl, rfl, ⟨_, _, _, _, _, _, rfl, rfl, ⟨_, _, _, _, _, _, rfl, rfl, ⟨_, _, _, _, _, _, rfl, rfl, ⟨_, _, _, _, _, _, rfl, rfl, ⟨_, _, _, _, _, _, rfl, rfl, rfl⟩⟩⟩⟩⟩⟩⟩⟩⟩
theorem bd__need_name_and_value : ∀ (kV doc pm : Value) (an : Option Addr) (cdv ct : Value) (us : List Value), us.length = (["name", "value"] : List Str).length → bindArgs (PySem.W.fnOf "_need_name_and_value" "_need_name_and_value" (defArgs s__need_name_and_value) (defBody s__need_name_and_value) (defScope s__need_name_and_value) .none kV doc pm an cdv ct) ⟨us, []⟩ = pure ((["name", "value"] : List Str).zip us) :=
  fun _ _ _ _ _ _ us hl => match us, hl with | [_, _], _ => rfl
theorem bd__is_scheme : ∀ (kV doc pm : Value) (an : Option Addr) (cdv ct : Value) (us : List Value), us.length = (["value"] : List Str).length → bindArgs (PySem.W.fnOf "_is_scheme" "_is_scheme" (defArgs s__is_scheme) (defBody s__is_scheme) (defScope s__is_scheme) .none kV doc pm an cdv ct) ⟨us, []⟩ = pure ((["value"] : List Str).zip us) :=
  fun _ _ _ _ _ _ us hl => match us, hl with | [_], _ => rfl
theorem bd_is_origin : ∀ (kV doc pm : Value) (an : Option Addr) (cdv ct : Value) (us : List Value), us.length = (["value"] : List Str).length → bindArgs (PySem.W.fnOf "is_origin" "is_origin" (defArgs s_is_origin) (defBody s_is_origin) (defScope s_is_origin) .none kV doc pm an cdv ct) ⟨us, []⟩ = pure ((["value"] : List Str).zip us) :=
  fun _ _ _ _ _ _ us hl => match us, hl with | [_], _ => rfl
theorem bd__is_partition : ∀ (kV doc pm : Value) (an : Option Addr) (cdv ct : Value) (us : List Value), us.length = (["value"] : List Str).length → bindArgs (PySem.W.fnOf "_is_partition" "_is_partition" (defArgs s__is_partition) (defBody s__is_partition) (defScope s__is_partition) .none kV doc pm an cdv ct) ⟨us, []⟩ = pure ((["value"] : List Str).zip us) :=
  fun _ _ _ _ _ _ us hl => match us, hl with | [_], _ => rfl
theorem bd_need_host : ∀ (kV doc pm : Value) (an : Option Addr) (cdv ct : Value) (us : List Value), us.length = (["host"] : List Str).length → bindArgs (PySem.W.fnOf "need_host" "need_host" (defArgs s_need_host) (defBody s_need_host) (defScope s_need_host) .none kV doc pm an cdv ct) ⟨us, []⟩ = pure ((["host"] : List Str).zip us) :=
  fun _ _ _ _ _ _ us hl => match us, hl with | [_], _ => rfl
theorem bd_host_fits : ∀ (kV doc pm : Value) (an : Option Addr) (cdv ct : Value) (us : List Value), us.length = (["host", "domain"] : List Str).length → bindArgs (PySem.W.fnOf "host_fits" "host_fits" (defArgs s_host_fits) (defBody s_host_fits) (defScope s_host_fits) .none kV doc pm an cdv ct) ⟨us, []⟩ = pure ((["host", "domain"] : List Str).zip us) :=
  fun _ _ _ _ _ _ us hl => match us, hl with | [_, _], _ => rfl
theorem bd_is_safe : ∀ (kV doc pm : Value) (an : Option Addr) (cdv ct : Value) (us : List Value), us.length = (["origin"] : List Str).length → bindArgs (PySem.W.fnOf "is_safe" "is_safe" (defArgs s_is_safe) (defBody s_is_safe) (defScope s_is_safe) .none kV doc pm an cdv ct) ⟨us, []⟩ = pure ((["origin"] : List Str).zip us) :=
  fun _ _ _ _ _ _ us hl => match us, hl with | [_], _ => rfl
theorem bd__can_be_in : ∀ (kV doc pm : Value) (an : Option Addr) (cdv ct : Value) (us : List Value), us.length = (["space", "host", "same"] : List Str).length → bindArgs (PySem.W.fnOf "_can_be_in" "_can_be_in" (defArgs s__can_be_in) (defBody s__can_be_in) (defScope s__can_be_in) .none kV doc pm an cdv ct) ⟨us, []⟩ = pure ((["space", "host", "same"] : List Str).zip us) :=
  fun _ _ _ _ _ _ us hl => match us, hl with | [_, _, _], _ => rfl
theorem bd__is_birth : ∀ (kV doc pm : Value) (an : Option Addr) (cdv ct : Value) (us : List Value), us.length = (["value"] : List Str).length → bindArgs (PySem.W.fnOf "_is_birth" "_is_birth" (defArgs s__is_birth) (defBody s__is_birth) (defScope s__is_birth) .none kV doc pm an cdv ct) ⟨us, []⟩ = pure ((["value"] : List Str).zip us) :=
  fun _ _ _ _ _ _ us hl => match us, hl with | [_], _ => rfl
abbrev kw_Crumb__init (q_born : Addr) : List (Str × V) := [("is_exact", (.bl true)), ("path", (.str "/")), ("is_secure", (.bl false)), ("is_hidden", (.bl false)), ("same", (.str "default")), ("priority", (.int 1)), ("space", .non), ("born", (.ref q_born)), ("seen", (.int 0)), ("ends", .non)]
theorem bk_Crumb__init (q_born : Addr) : ∀ (kV doc pm : Value) (an : Option Addr) (cdv ct : Value) (us ws : List Value), us.length = 4 → ws.length = (kw_Crumb__init q_born).length → bindArgs (PySem.W.fnOf "__init__" "Crumb.__init__" (defArgs s_Crumb__init) (defBody s_Crumb__init) (defScope s_Crumb__init) .none kV doc pm an cdv ct) ⟨us, ((kw_Crumb__init q_born).map (·.1)).zip ws⟩ = pure ((["self", "name", "value", "host", "is_exact", "path", "is_secure", "is_hidden", "same", "priority", "space", "born", "seen", "ends"] : List Str).zip (us ++ ws)) :=
  fun _ _ _ _ _ _ us ws h1 h2 => match us, ws, h1, h2 with | [_, _, _, _], [_, _, _, _, _, _, _, _, _, _], _, _ => rfl
theorem b0_Crumb__init (q_born : Addr) : ∀ (D : Addr) (doc pm : Value) (an : Option Addr) (cdv ct : Value) (us mv : List Value), us.length = 4 → mv.length = (kw_Crumb__init q_born).length → KwChain D (((kw_Crumb__init q_born).map (·.1)).zip mv) (bindArgs (PySem.W.fnOf "__init__" "Crumb.__init__" (defArgs s_Crumb__init) (defBody s_Crumb__init) (defScope s_Crumb__init) .none (.ref D) doc pm an cdv ct) ⟨us, []⟩) ((["self", "name", "value", "host", "is_exact", "path", "is_secure", "is_hidden", "same", "priority", "space", "born", "seen", "ends"] : List Str).zip (us ++ mv)) :=
  fun _ _ _ _ _ _ us mv h1 h2 => match us, mv, h1, h2 with | [_, _, _, _], [_, _, _, _, _, _, _, _, _, _], _, _ => ⟨_, _, _, _, _, _, rfl, rfl, ⟨_, _, _, _, _, _, rfl, rfl, ⟨_, _, _, _, _, _, rfl, rfl, ⟨_, _, _, _, _, _, rfl, rfl, ⟨_, _, _, _, _, _, rfl, rfl, ⟨_, _, _, _, _, _, rfl, rfl, ⟨_, _, _, _, _, _, rfl, rfl, ⟨_, _, _, _, _, _, rfl, rfl, ⟨_, _, _, _, _, _, rfl, rfl, ⟨_, _, _, _, _, _, rfl, rfl, rfl⟩⟩⟩⟩⟩⟩⟩⟩⟩⟩
theorem bd__law_crumb : ∀ (kV doc pm : Value) (an : Option Addr) (cdv ct : Value) (us : List Value), us.length = (["c"] : List Str).length → bindArgs (PySem.W.fnOf "_law_crumb" "_law_crumb" (defArgs s__law_crumb) (defBody s__law_crumb) (defScope s__law_crumb) .none kV doc pm an cdv ct) ⟨us, []⟩ = pure ((["c"] : List Str).zip us) :=
  fun _ _ _ _ _ _ us hl => match us, hl with | [_], _ => rfl
theorem bd__law_can_be : ∀ (kV doc pm : Value) (an : Option Addr) (cdv ct : Value) (us : List Value), us.length = (["rules", "c"] : List Str).length → bindArgs (PySem.W.fnOf "_law_can_be" "_law_can_be" (defArgs s__law_can_be) (defBody s__law_can_be) (defScope s__law_can_be) .none kV doc pm an cdv ct) ⟨us, []⟩ = pure ((["rules", "c"] : List Str).zip us) :=
  fun _ _ _ _ _ _ us hl => match us, hl with | [_, _], _ => rfl
theorem bd__law_bad_rules : ∀ (kV doc pm : Value) (an : Option Addr) (cdv ct : Value) (us : List Value), us.length = (["wrong", "crumb"] : List Str).length → bindArgs (PySem.W.fnOf "_law_bad_rules" "_law_bad_rules" (defArgs s__law_bad_rules) (defBody s__law_bad_rules) (defScope s__law_bad_rules) .none kV doc pm an cdv ct) ⟨us, []⟩ = pure ((["wrong", "crumb"] : List Str).zip us) :=
  fun _ _ _ _ _ _ us hl => match us, hl with | [_, _], _ => rfl
theorem bd_need_tick : ∀ (kV doc pm : Value) (an : Option Addr) (cdv ct : Value) (us : List Value), us.length = (["value"] : List Str).length → bindArgs (PySem.W.fnOf "need_tick" "need_tick" (defArgs s_need_tick) (defBody s_need_tick) (defScope s_need_tick) .none kV doc pm an cdv ct) ⟨us, []⟩ = pure ((["value"] : List Str).zip us) :=
  fun _ _ _ _ _ _ us hl => match us, hl with | [_], _ => rfl
theorem bd_has_ended : ∀ (kV doc pm : Value) (an : Option Addr) (cdv ct : Value) (us : List Value), us.length = (["crumb", "tick"] : List Str).length → bindArgs (PySem.W.fnOf "has_ended" "has_ended" (defArgs s_has_ended) (defBody s_has_ended) (defScope s_has_ended) .none kV doc pm an cdv ct) ⟨us, []⟩ = pure ((["crumb", "tick"] : List Str).zip us) :=
  fun _ _ _ _ _ _ us hl => match us, hl with | [_, _], _ => rfl
theorem bd__law_ends_right : ∀ (kV doc pm : Value) (an : Option Addr) (cdv ct : Value) (us : List Value), us.length = (["c", "crumb"] : List Str).length → bindArgs (PySem.W.fnOf "_law_ends_right" "_law_ends_right" (defArgs s__law_ends_right) (defBody s__law_ends_right) (defScope s__law_ends_right) .none kV doc pm an cdv ct) ⟨us, []⟩ = pure ((["c", "crumb"] : List Str).zip us) :=
  fun _ _ _ _ _ _ us hl => match us, hl with | [_, _], _ => rfl
theorem bd__law_own_space : ∀ (kV doc pm : Value) (an : Option Addr) (cdv ct : Value) (us : List Value), us.length = (["draw", "c"] : List Str).length → bindArgs (PySem.W.fnOf "_law_own_space" "_law_own_space" (defArgs s__law_own_space) (defBody s__law_own_space) (defScope s__law_own_space) .none kV doc pm an cdv ct) ⟨us, []⟩ = pure ((["draw", "c"] : List Str).zip us) :=
  fun _ _ _ _ _ _ us hl => match us, hl with | [_, _], _ => rfl
theorem bd_law : ∀ (kV doc pm : Value) (an : Option Addr) (cdv ct : Value) (us : List Value), us.length = (["script"] : List Str).length → bindArgs (PySem.W.fnOf "law" "law" (defArgs s_law) (defBody s_law) (defScope s_law) .none kV doc pm an cdv ct) ⟨us, []⟩ = pure ((["script"] : List Str).zip us) :=
  fun _ _ _ _ _ _ us hl => match us, hl with | [_], _ => rfl
theorem fin_mk {l : PySem.W.OpenLaw} {w : World} {K : PySem.W.Frag} {mg : Str → Option Value} {fa : Addr} (hfa : mg "law" = some (.ref fa)) (D : Df K mg "law" s_law ["script"]) (T : Txt K mg) :
    ∃ fd : FuncData, (∀ (s : Shared) (v : Value), BindsTo s fd ⟨[v], []⟩ [("script", v)]) ∧ ∀ base : Heap, K.In base → base.Ns PySem.mainGlobals mg → FnG l.prog w K mg base CX0 12 fa fd ["script"] (sp_law K) := by
  obtain ⟨f, fd, F, m, b⟩ := D
  cases hfa.symm.trans m
  exact ⟨fd, fun s v => .of_eq (b [v] rfl), fun base _ _ => ok_law F T⟩
theorem walk {l : PySem.W.OpenLaw} {q : Program} {loose : List Str} {XP : (Str → Option Value) → Heap → Prop} {YP : World → Heap → Prop} {d : DefRec} {K : Params → PySem.W.Frag} (hn : l.most = some 63) (hdf : d.params.defaults = [])
    (hY : ∀ (w : World) (h : Heap), YP w h → (K w.params).In h)
    (F : ∀ (w : World) (mg : Str → Option Value) (fa : Addr) (h : Heap), (K w.params).In h → h.Ns PySem.mainGlobals mg → mg d.name = some (.ref fa) →
      ∃ fd : FuncData, (∀ (s : Shared) (u : Value), BindsTo s fd ⟨[u], []⟩ [("script", u)]) ∧ ∀ base : Heap, (K w.params).In base → base.Ns PySem.mainGlobals mg → FnG l.prog w (K w.params) mg base CX0 12 fa fd ["script"] (sp_law (K w.params))) :
    PySem.W.WalkO q loose XP YP l.row.toRowW d [] (fun f vs => PySem.call f vs) :=
  Kb.walkG (n := 63) (k := 12) (x := "script") (CX := fun _ => CX0) (sp := fun w => sp_law (K w.params)) hn (by decide) hdf ⟨rfl, by decide, by decide⟩ hY F (fun _ _ a ns hl _ hS => ⟨a, ns, rfl, hS, hl, fun _ => rfl⟩) fun _ _ _ _ _ z => z
end Pf
open PySem PySem.W PyProof.Rows
set_option maxRecDepth 100000 in
set_option maxHeartbeats 0 in
theorem PySem.Challenge.cw_crumbjar_k31_crumbs_under_rules_holds : PySem.Challenge.rw_crumbjar_k31_crumbs_under_rules.Holds := by
  w_on; o_law; k_head; (case hw => w_witness2)
  k_fill
  refine Pf.walk (l := PySem.Challenge.rw_crumbjar_k31_crumbs_under_rules) rfl rfl (fun w h Y => PySem.W.kIn_of Y) ?F
  case F =>
    intro w mg fa h KX G hmg
    refine' Pf.fin_mk hmg (Kb.Df.mk KX G Pf.bd_law ?a57 ?l57 ?c57 ?k57) ⟨(PySem.W.mg_none_of KX G ?z0),
      (PySem.W.mg_none_of KX G ?z1),
      (PySem.W.mg_none_of KX G ?z2),
      (PySem.W.mg_none_of KX G ?z3),
      (PySem.W.mg_none_of KX G ?z4),
      (PySem.W.mg_none_of KX G ?z5),
      (PySem.W.mg_none_of KX G ?z6),
      (PySem.W.mg_none_of KX G ?z7),
      (PySem.W.mg_none_of KX G ?z8),
      (PySem.W.mg_none_of KX G ?z9),
      (PySem.W.mg_none_of KX G ?z10),
      (PySem.W.mg_none_of KX G ?z11),
      (PySem.W.mg_none_of KX G ?z12),
      ⟨_, PySem.W.mg_of KX G ?x0, ?r0⟩,
      ⟨_, PySem.W.mg_of KX G ?x1, ?r1⟩,
      ⟨_, PySem.W.mg_of KX G ?x2, ?r2⟩,
      ⟨_, PySem.W.mg_of KX G ?x3, ?r3⟩,
      ⟨_, PySem.W.mg_of KX G ?x4, ?r4⟩,
      ⟨_, PySem.W.mg_of KX G ?x5, ?r5⟩,
      ⟨_, PySem.W.mg_of KX G ?x6, ?r6⟩,
      ⟨_, PySem.W.mg_of KX G ?x7, Kb.sqT_of_lookup ?y7 ?u7 ?v7⟩,
      ⟨_, PySem.W.mg_of KX G ?x8, ?r8⟩,
      ⟨_, PySem.W.mg_of KX G ?x9, ?r9⟩,
      ⟨_, PySem.W.mg_of KX G ?x10, ?r10⟩,
      ⟨_, PySem.W.mg_of KX G ?x11, Kb.sqT_of_lookup ?y11 ?u11 ?v11⟩,
      ⟨_, PySem.W.mg_of KX G ?x12, Kb.sqT_of_lookup ?y12 ?u12 ?v12⟩,
      ⟨_, PySem.W.mg_of KX G ?x13, ?r13⟩,
      ⟨_, PySem.W.mg_of KX G ?x14, ?r14⟩,
      ⟨_, PySem.W.mg_of KX G ?x15, ?r15⟩,
      ⟨_, PySem.W.mg_of KX G ?x16, ?r16⟩,
      ⟨_, PySem.W.mg_of KX G ?x17, ?r17⟩,
      ⟨_, PySem.W.mg_of KX G ?x18, ?r18⟩,
      ⟨_, PySem.W.mg_of KX G ?x19, ?r19⟩,
      ⟨_, PySem.W.mg_of KX G ?x20, ?r20⟩,
      ⟨_, PySem.W.mg_of KX G ?x21, ?r21⟩,
      ⟨_, Kb.Err.toH (Kb.Err.mk' KX G Pf.bi_BadCrumb (fun P w base F => Pf.oki_BadCrumb P w base F) ?aC0E ?xL0E ?rv0E ?sa0E ?ga0E ?gg0E ?nb0E ?a10E ?t10E ?l10E ?c10E ?k10E ?kC0E ?eC0E ?tC0E ?hC0E ?iC0E ?sC0E) ?a10E ?t10E (.all (Pf.bi_BadCrumb _ _ _ _ _ _)) (L2.fun_mk ?l10E ?c10E ?k10E) (fun P w base F => Pf.okh_BadCrumb P w base F)⟩,
      ⟨_, Kb.Err.toH (Kb.Err.mk' KX G Pf.bi_BadLine (fun P w base F => Pf.oki_BadLine P w base F) ?aC1E ?xL1E ?rv1E ?sa1E ?ga1E ?gg1E ?nb1E ?a11E ?t11E ?l11E ?c11E ?k11E ?kC1E ?eC1E ?tC1E ?hC1E ?iC1E ?sC1E) ?a11E ?t11E (.all (Pf.bi_BadLine _ _ _ _ _ _)) (L2.fun_mk ?l11E ?c11E ?k11E) (fun P w base F => Pf.okh_BadLine P w base F)⟩,
      ⟨_, Kb.Err.toH (Kb.Err.mk' KX G Pf.bi_BadRules (fun P w base F => Pf.oki_BadRules P w base F) ?aC2E ?xL2E ?rv2E ?sa2E ?ga2E ?gg2E ?nb2E ?a12E ?t12E ?l12E ?c12E ?k12E ?kC2E ?eC2E ?tC2E ?hC2E ?iC2E ?sC2E) ?a12E ?t12E (.all (Pf.bi_BadRules _ _ _ _ _ _)) (L2.fun_mk ?l12E ?c12E ?k12E) (fun P w base F => Pf.okh_BadRules P w base F)⟩,
      (Kb.OwnC.ex KX G ?oa0O ?ob0O ?oc0O ?od0O ?oe0O ?of0O ?og0O ?oh0O ?oi0O ?oj0O ?ok0O ?oty0O ?oic0O ⟨?on0_0O, ⟨?on0_1O, ⟨?on0_2O, ⟨?on0_3O, ⟨?on0_4O, ⟨?on0_5O, ⟨?on0_6O, ⟨?on0_7O, ⟨?on0_8O, ⟨?on0_9O, ⟨?on0_10O, ⟨?on0_11O, ⟨?on0_12O, ⟨?on0_13O, True.intro⟩⟩⟩⟩⟩⟩⟩⟩⟩⟩⟩⟩⟩⟩),
      (Kb.OwnC.ex KX G ?oa1O ?ob1O ?oc1O ?od1O ?oe1O ?of1O ?og1O ?oh1O ?oi1O ?oj1O ?ok1O ?oty1O ?oic1O ⟨?on1_0O, ⟨?on1_1O, ⟨?on1_2O, ⟨?on1_3O, ⟨?on1_4O, ⟨?on1_5O, ⟨?on1_6O, ⟨?on1_7O, ⟨?on1_8O, ⟨?on1_9O, ⟨?on1_10O, True.intro⟩⟩⟩⟩⟩⟩⟩⟩⟩⟩⟩),
      (Kb.ExF.mk KX G ?fa0F ?fb0F ?fc0F ?fd0F ?fe0F ?ff0F ?fg0F ?fh0F ?fi0F ?fj0F ?fk0F ?fl0F ?fm0F ?fn0F ?fo0F ?fp0F ?fq0F ?fr0F ?fs0F ?ft0F (Kb.KitAll.own KX G ?ga0_0 (Kb.KitAll.not KX G ?ga0_1 ?gb0_1 ?gc0_1 ?gd0_1 ?ge0_1 True.intro))),
      (Kb.Df.mk KX G Pf.bd_has_only ?a0 ?l0 ?c0 ?k0),
      (Kb.Df.mk KX G Pf.bd__is_label ?a1 ?l1 ?c1 ?k1),
      (Kb.Df.mk KX G Pf.bd_are_labels ?a2 ?l2 ?c2 ?k2),
      (Kb.Df.mk KX G Pf.bd__is_rule ?a3 ?l3 ?c3 ?k3),
      (Kb.Df.mk KX G Pf.bd_need_rules ?a4 ?l4 ?c4 ?k4),
      (Kb.Df.mk KX G Pf.bd_is_digits ?a5 ?l5 ?c5 ?k5),
      (Kb.Df.mk KX G Pf.bd__is_number ?a6 ?l6 ?c6 ?k6),
      (Kb.Df.mk KX G Pf.bd__are_four_numbers ?a7 ?l7 ?c7 ?k7),
      (Kb.Df.mk KX G Pf.bd_is_host ?a8 ?l8 ?c8 ?k8),
      (Kb.Df.mk KX G Pf.bd_is_address_host ?a9 ?l9 ?c9 ?k9),
      (Kb.Df.mk KX G Pf.bd__last_labels ?a10 ?l10 ?c10 ?k10),
      (Kb.Df.mk KX G Pf.bd__size ?a11 ?l11 ?c11 ?k11),
      (Kb.Df.mk KX G Pf.bd__matches ?a12 ?l12 ?c12 ?k12),
      (Kb.Df.mk KX G Pf.bd__suffix_size ?a13 ?l13 ?c13 ?k13),
      (Kb.Df.mk KX G Pf.bd_known_suffix ?a14 ?l14 ?c14 ?k14),
      (Kb.Df.mk KX G Pf.bd_known_family ?a15 ?l15 ?c15 ?k15),
      (Kb.Df.mk KX G Pf.bd_is_crumb ?a16 ?l16 ?c16 ?k16),
      (Kb.Df.mk KX G Pf.bd__law_begun ?a17 ?l17 ?c17 ?k17),
      (Kb.Df.mk KX G Pf.bd__law_next ?a18 ?l18 ?c18 ?k18),
      (Kb.Df.mk KX G Pf.bd__law_pick ?a19 ?l19 ?c19 ?k19),
      (Kb.Df.mk KX G Pf.bd__law_rules ?a20 ?l20 ?c20 ?k20),
      (Kb.Df.mk KX G Pf.bd__law_is_numbers ?a21 ?l21 ?c21 ?k21),
      (Kb.Df.mk KX G Pf.bd__law_suffix ?a22 ?l22 ?c22 ?k22),
      (Kb.Df.mk KX G Pf.bd__law_family ?a23 ?l23 ?c23 ?k23),
      (Kb.Df.mk KX G Pf.bd__law_hosts ?a24 ?l24 ?c24 ?k24),
      (Kb.Df.mk KX G Pf.bd__law_crumb_parts ?a25 ?l25 ?c25 ?k25),
      (Kb.Df.mk KX G Pf.bd_is_integer ?a26 ?l26 ?c26 ?k26),
      (Kb.Df.mk KX G Pf.bd_is_tick ?a27 ?l27 ?c27 ?k27),
      (Kb.Df.mk KX G Pf.bd__is_path_sign ?a28 ?l28 ?c28 ?k28),
      (Kb.Df.mk KX G Pf.bd_is_path ?a29 ?l29 ?c29 ?k29),
      (Kb.Df.mk KX G Pf.bd_mark_of ?a30 ?l30 ?c30 ?k30),
      (Kb.Df.mk KX G Pf.bd_key_of ?a31 ?l31 ?c31 ?k31),
      (Kb.Df.mk KX G Pf.bd__need ?a32 ?l32 ?c32 ?k32),
      (Kb.Df.mk KX G Pf.bd__is_from_0 ?a33 ?l33 ?c33 ?k33),
      (Kb.Df.mk KX G Pf.bd_is_trimmed ?a34 ?l34 ?c34 ?k34),
      (Kb.Df.mk KX G Pf.bd__has_control ?a35 ?l35 ?c35 ?k35),
      (Kb.Df.mk KX G Pf.bd__is_part ?a36 ?l36 ?c36 ?k36),
      (Kb.Df.mk KX G Pf.bd__is_name ?a37 ?l37 ?c37 ?k37),
      (Kb.Df.mk KX G Pf.bd__is_value ?a38 ?l38 ?c38 ?k38),
      (Kb.MthK.mk KX G (by simp) Pf.bk_Line__init Pf.b0_Line__init ?a39 ?mi39 ?mn39 ?l39 ?c39 ?k39 (Kb.KwAll.cons ?kw39_0 ?kr39_0 (Kb.KwAll.cons ?kw39_1 ?kr39_1 (Kb.KwAll.cons ?kw39_2 ?kr39_2 (Kb.KwAll.cons ?kw39_3 ?kr39_3 (Kb.KwAll.cons ?kw39_4 ?kr39_4 (Kb.KwAll.cons ?kw39_5 ?kr39_5 (Kb.KwAll.cons ?kw39_6 ?kr39_6 (Kb.KwAll.cons ?kw39_7 ?kr39_7 (Kb.KwAll.cons ?kw39_8 ?kr39_8 True.intro)))))))))),
      (Kb.Df.mk KX G Pf.bd__need_name_and_value ?a40 ?l40 ?c40 ?k40),
      (Kb.Df.mk KX G Pf.bd__is_scheme ?a41 ?l41 ?c41 ?k41),
      (Kb.Df.mk KX G Pf.bd_is_origin ?a42 ?l42 ?c42 ?k42),
      (Kb.Df.mk KX G Pf.bd__is_partition ?a43 ?l43 ?c43 ?k43),
      (Kb.Df.mk KX G Pf.bd_need_host ?a44 ?l44 ?c44 ?k44),
      (Kb.Df.mk KX G Pf.bd_host_fits ?a45 ?l45 ?c45 ?k45),
      (Kb.Df.mk KX G Pf.bd_is_safe ?a46 ?l46 ?c46 ?k46),
      (Kb.Df.mk KX G Pf.bd__can_be_in ?a47 ?l47 ?c47 ?k47),
      (Kb.Df.mk KX G Pf.bd__is_birth ?a48 ?l48 ?c48 ?k48),
      (Kb.MthQ.mk (Kb.MthK.mk KX G (List.cons_ne_nil _ _) (Pf.bk_Crumb__init _) (Pf.b0_Crumb__init _) ?a49 ?mi49 ?mn49 ?l49 ?c49 ?k49 (Kb.KwAll.cons ?kw49_0 ?kr49_0 (Kb.KwAll.cons ?kw49_1 ?kr49_1 (Kb.KwAll.cons ?kw49_2 ?kr49_2 (Kb.KwAll.cons ?kw49_3 ?kr49_3 (Kb.KwAll.cons ?kw49_4 ?kr49_4 (Kb.KwAll.cons ?kw49_5 ?kr49_5 (Kb.KwAll.cons ?kw49_6 ?kr49_6 (Kb.KwAll.cons ?kw49_7 ?kr49_7 (Kb.KwAll.cons ?kw49_8 ?kr49_8 (Kb.KwAll.cons ?kw49_9 ?kr49_9 True.intro))))))))))) rfl),
      (Kb.Df.mk KX G Pf.bd__law_crumb ?a50 ?l50 ?c50 ?k50),
      (Kb.Df.mk KX G Pf.bd__law_can_be ?a51 ?l51 ?c51 ?k51),
      (Kb.Df.mk KX G Pf.bd__law_bad_rules ?a52 ?l52 ?c52 ?k52),
      (Kb.Df.mk KX G Pf.bd_need_tick ?a53 ?l53 ?c53 ?k53),
      (Kb.Df.mk KX G Pf.bd_has_ended ?a54 ?l54 ?c54 ?k54),
      (Kb.Df.mk KX G Pf.bd__law_ends_right ?a55 ?l55 ?c55 ?k55),
      (Kb.Df.mk KX G Pf.bd__law_own_space ?a56 ?l56 ?c56 ?k56)⟩
    (case z0 => k_is)
    (case z1 => k_is)
    (case z2 => k_is)
    (case z3 => k_is)
    (case z4 => k_is)
    (case z5 => k_is)
    (case z6 => k_is)
    (case z7 => k_is)
    (case z8 => k_is)
    (case z9 => k_is)
    (case z10 => k_is)
    (case z11 => k_is)
    (case z12 => k_is)
    (case x0 => k_is)
    (case r0 => first | exact ⟨_, rfl⟩ | rfl)
    (case x1 => k_is)
    (case r1 => first | exact ⟨_, rfl⟩ | rfl)
    (case x2 => k_is)
    (case r2 => first | exact ⟨_, rfl⟩ | rfl)
    (case x3 => k_is)
    (case r3 => first | exact ⟨_, rfl⟩ | rfl)
    (case x4 => k_is)
    (case r4 => first | exact ⟨_, rfl⟩ | rfl)
    (case x5 => k_is)
    (case r5 => first | exact ⟨_, rfl⟩ | rfl)
    (case x6 => k_is)
    (case r6 => first | exact ⟨_, rfl⟩ | rfl)
    (case x7 => k_is)
    (case y7 => k_is)
    (case u7 => show _ ≤ _; decide)
    (case v7 => exact .cons ⟨_, rfl⟩ (.cons ⟨_, rfl⟩ (.nil)))
    (case x8 => k_is)
    (case r8 => first | exact ⟨_, rfl⟩ | rfl)
    (case x9 => k_is)
    (case r9 => first | exact ⟨_, rfl⟩ | rfl)
    (case x10 => k_is)
    (case r10 => first | exact ⟨_, rfl⟩ | rfl)
    (case x11 => k_is)
    (case y11 => k_is)
    (case u11 => show _ ≤ _; decide)
    (case v11 => exact .cons ⟨_, rfl⟩ (.cons ⟨_, rfl⟩ (.cons ⟨_, rfl⟩ (.nil))))
    (case x12 => k_is)
    (case y12 => k_is)
    (case u12 => show _ ≤ _; decide)
    (case v12 => exact .cons ⟨_, rfl⟩ (.cons ⟨_, rfl⟩ (.cons ⟨_, rfl⟩ (.nil))))
    (case x13 => k_is)
    (case r13 => first | exact ⟨_, rfl⟩ | rfl)
    (case x14 => k_is)
    (case r14 => first | exact ⟨_, rfl⟩ | rfl)
    (case x15 => k_is)
    (case r15 => first | exact ⟨_, rfl⟩ | rfl)
    (case x16 => k_is)
    (case r16 => first | exact ⟨_, rfl⟩ | rfl)
    (case x17 => k_is)
    (case r17 => first | exact ⟨_, rfl⟩ | rfl)
    (case x18 => k_is)
    (case r18 => first | exact ⟨_, rfl⟩ | rfl)
    (case x19 => k_is)
    (case r19 => first | exact ⟨_, rfl⟩ | rfl)
    (case x20 => k_is)
    (case r20 => first | exact ⟨_, rfl⟩ | rfl)
    (case x21 => k_is)
    (case r21 => first | exact ⟨_, rfl⟩ | rfl)
    (case aC0E => k_is)
    (case xL0E => k_is)
    (case rv0E => first | decide +kernel | rfl)
    (case sa0E => k_is)
    (case ga0E => k_is)
    (case gg0E => k_is)
    (case nb0E => k_is)
    (case a10E => k_is)
    (case t10E => k_is)
    (case l10E => k_is)
    (case c10E => k_is)
    (case k10E => k_is)
    (case kC0E => k_is)
    (case eC0E => k_is)
    (case tC0E => k_is)
    (case hC0E => k_is)
    (case iC0E => k_is)
    (case sC0E => first | rfl | k_is)
    (case aC1E => k_is)
    (case xL1E => k_is)
    (case rv1E => first | decide +kernel | rfl)
    (case sa1E => k_is)
    (case ga1E => k_is)
    (case gg1E => k_is)
    (case nb1E => k_is)
    (case a11E => k_is)
    (case t11E => k_is)
    (case l11E => k_is)
    (case c11E => k_is)
    (case k11E => k_is)
    (case kC1E => k_is)
    (case eC1E => k_is)
    (case tC1E => k_is)
    (case hC1E => k_is)
    (case iC1E => k_is)
    (case sC1E => first | rfl | k_is)
    (case aC2E => k_is)
    (case xL2E => k_is)
    (case rv2E => first | decide +kernel | rfl)
    (case sa2E => k_is)
    (case ga2E => k_is)
    (case gg2E => k_is)
    (case nb2E => k_is)
    (case a12E => k_is)
    (case t12E => k_is)
    (case l12E => k_is)
    (case c12E => k_is)
    (case k12E => k_is)
    (case kC2E => k_is)
    (case eC2E => k_is)
    (case tC2E => k_is)
    (case hC2E => k_is)
    (case iC2E => k_is)
    (case sC2E => first | rfl | k_is)
    (case oa0O => k_is)
    (case ob0O => k_is)
    (case oc0O => k_is)
    (case od0O => k_is)
    (case oe0O => k_is)
    (case of0O => k_is)
    (case og0O => k_is)
    (case oh0O => k_is)
    (case oi0O => k_is)
    (case oj0O => k_is)
    (case ok0O => k_is)
    (case oty0O => k_is)
    (case oic0O => k_is)
    (case on0_0O => (show PySem.W.findIn _ _ _ = some none); k_is)
    (case on0_1O => (show PySem.W.findIn _ _ _ = some none); k_is)
    (case on0_2O => (show PySem.W.findIn _ _ _ = some none); k_is)
    (case on0_3O => (show PySem.W.findIn _ _ _ = some none); k_is)
    (case on0_4O => (show PySem.W.findIn _ _ _ = some none); k_is)
    (case on0_5O => (show PySem.W.findIn _ _ _ = some none); k_is)
    (case on0_6O => (show PySem.W.findIn _ _ _ = some none); k_is)
    (case on0_7O => (show PySem.W.findIn _ _ _ = some none); k_is)
    (case on0_8O => (show PySem.W.findIn _ _ _ = some none); k_is)
    (case on0_9O => (show PySem.W.findIn _ _ _ = some none); k_is)
    (case on0_10O => (show PySem.W.findIn _ _ _ = some none); k_is)
    (case on0_11O => (show PySem.W.findIn _ _ _ = some none); k_is)
    (case on0_12O => (show PySem.W.findIn _ _ _ = some none); k_is)
    (case on0_13O => (show PySem.W.findIn _ _ _ = some none); k_is)
    (case oa1O => k_is)
    (case ob1O => k_is)
    (case oc1O => k_is)
    (case od1O => k_is)
    (case oe1O => k_is)
    (case of1O => k_is)
    (case og1O => k_is)
    (case oh1O => k_is)
    (case oi1O => k_is)
    (case oj1O => k_is)
    (case ok1O => k_is)
    (case oty1O => k_is)
    (case oic1O => k_is)
    (case on1_0O => (show PySem.W.findIn _ _ _ = some none); k_is)
    (case on1_1O => (show PySem.W.findIn _ _ _ = some none); k_is)
    (case on1_2O => (show PySem.W.findIn _ _ _ = some none); k_is)
    (case on1_3O => (show PySem.W.findIn _ _ _ = some none); k_is)
    (case on1_4O => (show PySem.W.findIn _ _ _ = some none); k_is)
    (case on1_5O => (show PySem.W.findIn _ _ _ = some none); k_is)
    (case on1_6O => (show PySem.W.findIn _ _ _ = some none); k_is)
    (case on1_7O => (show PySem.W.findIn _ _ _ = some none); k_is)
    (case on1_8O => (show PySem.W.findIn _ _ _ = some none); k_is)
    (case on1_9O => (show PySem.W.findIn _ _ _ = some none); k_is)
    (case on1_10O => (show PySem.W.findIn _ _ _ = some none); k_is)
    (case fa0F => k_is)
    (case fb0F => k_is)
    (case fc0F => k_is)
    (case fd0F => k_is)
    (case fe0F => k_is)
    (case ff0F => k_is)
    (case fg0F => k_is)
    (case fh0F => k_is)
    (case fi0F => k_is)
    (case fj0F => k_is)
    (case fk0F => k_is)
    (case fl0F => rfl)
    (case fm0F => first | rfl | k_is)
    (case fn0F => first | rfl | k_is)
    (case fo0F => first | rfl | k_is)
    (case fp0F => first | rfl | k_is)
    (case fq0F => first | rfl | k_is)
    (case fr0F => first | rfl | k_is)
    (case fs0F => first | rfl | k_is)
    (case ft0F => first | rfl | k_is)
    (case ga0_1 => k_is)
    (case gb0_1 => k_is)
    (case gc0_1 => k_is)
    (case gd0_1 => k_is)
    (case ge0_1 => decide)
    (case ga0_0 => k_is)
    (case a0 => k_is)
    (case l0 => k_is)
    (case c0 => k_is)
    (case k0 => k_is)
    (case a1 => k_is)
    (case l1 => k_is)
    (case c1 => k_is)
    (case k1 => k_is)
    (case a2 => k_is)
    (case l2 => k_is)
    (case c2 => k_is)
    (case k2 => k_is)
    (case a3 => k_is)
    (case l3 => k_is)
    (case c3 => k_is)
    (case k3 => k_is)
    (case a4 => k_is)
    (case l4 => k_is)
    (case c4 => k_is)
    (case k4 => k_is)
    (case a5 => k_is)
    (case l5 => k_is)
    (case c5 => k_is)
    (case k5 => k_is)
    (case a6 => k_is)
    (case l6 => k_is)
    (case c6 => k_is)
    (case k6 => k_is)
    (case a7 => k_is)
    (case l7 => k_is)
    (case c7 => k_is)
    (case k7 => k_is)
    (case a8 => k_is)
    (case l8 => k_is)
    (case c8 => k_is)
    (case k8 => k_is)
    (case a9 => k_is)
    (case l9 => k_is)
    (case c9 => k_is)
    (case k9 => k_is)
    (case a10 => k_is)
    (case l10 => k_is)
    (case c10 => k_is)
    (case k10 => k_is)
    (case a11 => k_is)
    (case l11 => k_is)
    (case c11 => k_is)
    (case k11 => k_is)
    (case a12 => k_is)
    (case l12 => k_is)
    (case c12 => k_is)
    (case k12 => k_is)
    (case a13 => k_is)
    (case l13 => k_is)
    (case c13 => k_is)
    (case k13 => k_is)
    (case a14 => k_is)
    (case l14 => k_is)
    (case c14 => k_is)
    (case k14 => k_is)
    (case a15 => k_is)
    (case l15 => k_is)
    (case c15 => k_is)
    (case k15 => k_is)
    (case a16 => k_is)
    (case l16 => k_is)
    (case c16 => k_is)
    (case k16 => k_is)
    (case a17 => k_is)
    (case l17 => k_is)
    (case c17 => k_is)
    (case k17 => k_is)
    (case a18 => k_is)
    (case l18 => k_is)
    (case c18 => k_is)
    (case k18 => k_is)
    (case a19 => k_is)
    (case l19 => k_is)
    (case c19 => k_is)
    (case k19 => k_is)
    (case a20 => k_is)
    (case l20 => k_is)
    (case c20 => k_is)
    (case k20 => k_is)
    (case a21 => k_is)
    (case l21 => k_is)
    (case c21 => k_is)
    (case k21 => k_is)
    (case a22 => k_is)
    (case l22 => k_is)
    (case c22 => k_is)
    (case k22 => k_is)
    (case a23 => k_is)
    (case l23 => k_is)
    (case c23 => k_is)
    (case k23 => k_is)
    (case a24 => k_is)
    (case l24 => k_is)
    (case c24 => k_is)
    (case k24 => k_is)
    (case a25 => k_is)
    (case l25 => k_is)
    (case c25 => k_is)
    (case k25 => k_is)
    (case a26 => k_is)
    (case l26 => k_is)
    (case c26 => k_is)
    (case k26 => k_is)
    (case a27 => k_is)
    (case l27 => k_is)
    (case c27 => k_is)
    (case k27 => k_is)
    (case a28 => k_is)
    (case l28 => k_is)
    (case c28 => k_is)
    (case k28 => k_is)
    (case a29 => k_is)
    (case l29 => k_is)
    (case c29 => k_is)
    (case k29 => k_is)
    (case a30 => k_is)
    (case l30 => k_is)
    (case c30 => k_is)
    (case k30 => k_is)
    (case a31 => k_is)
    (case l31 => k_is)
    (case c31 => k_is)
    (case k31 => k_is)
    (case a32 => k_is)
    (case l32 => k_is)
    (case c32 => k_is)
    (case k32 => k_is)
    (case a33 => k_is)
    (case l33 => k_is)
    (case c33 => k_is)
    (case k33 => k_is)
    (case a34 => k_is)
    (case l34 => k_is)
    (case c34 => k_is)
    (case k34 => k_is)
    (case a35 => k_is)
    (case l35 => k_is)
    (case c35 => k_is)
    (case k35 => k_is)
    (case a36 => k_is)
    (case l36 => k_is)
    (case c36 => k_is)
    (case k36 => k_is)
    (case a37 => k_is)
    (case l37 => k_is)
    (case c37 => k_is)
    (case k37 => k_is)
    (case a38 => k_is)
    (case l38 => k_is)
    (case c38 => k_is)
    (case k38 => k_is)
    (case a39 => k_is)
    (case mi39 => k_is)
    (case mn39 => k_is)
    (case l39 => k_is)
    (case c39 => k_is)
    (case k39 => k_is)
    (case kw39_0 => k_is)
    (case kr39_0 => first | exact ⟨_, rfl⟩ | rfl)
    (case kw39_1 => k_is)
    (case kr39_1 => first | exact ⟨_, rfl⟩ | rfl)
    (case kw39_2 => k_is)
    (case kr39_2 => first | exact ⟨_, rfl⟩ | rfl)
    (case kw39_3 => k_is)
    (case kr39_3 => first | exact ⟨_, rfl⟩ | rfl)
    (case kw39_4 => k_is)
    (case kr39_4 => first | exact ⟨_, rfl⟩ | rfl)
    (case kw39_5 => k_is)
    (case kr39_5 => first | exact ⟨_, rfl⟩ | rfl)
    (case kw39_6 => k_is)
    (case kr39_6 => first | exact ⟨_, rfl⟩ | rfl)
    (case kw39_7 => k_is)
    (case kr39_7 => first | exact ⟨_, rfl⟩ | rfl)
    (case kw39_8 => k_is)
    (case kr39_8 => first | exact ⟨_, rfl⟩ | rfl)
    (case a40 => k_is)
    (case l40 => k_is)
    (case c40 => k_is)
    (case k40 => k_is)
    (case a41 => k_is)
    (case l41 => k_is)
    (case c41 => k_is)
    (case k41 => k_is)
    (case a42 => k_is)
    (case l42 => k_is)
    (case c42 => k_is)
    (case k42 => k_is)
    (case a43 => k_is)
    (case l43 => k_is)
    (case c43 => k_is)
    (case k43 => k_is)
    (case a44 => k_is)
    (case l44 => k_is)
    (case c44 => k_is)
    (case k44 => k_is)
    (case a45 => k_is)
    (case l45 => k_is)
    (case c45 => k_is)
    (case k45 => k_is)
    (case a46 => k_is)
    (case l46 => k_is)
    (case c46 => k_is)
    (case k46 => k_is)
    (case a47 => k_is)
    (case l47 => k_is)
    (case c47 => k_is)
    (case k47 => k_is)
    (case a48 => k_is)
    (case l48 => k_is)
    (case c48 => k_is)
    (case k48 => k_is)
    (case a49 => k_is)
    (case mi49 => k_is)
    (case mn49 => k_is)
    (case l49 => k_is)
    (case c49 => k_is)
    (case k49 => k_is)
    (case kw49_0 => k_is)
    (case kr49_0 => first | exact ⟨_, rfl⟩ | rfl)
    (case kw49_1 => k_is)
    (case kr49_1 => first | exact ⟨_, rfl⟩ | rfl)
    (case kw49_2 => k_is)
    (case kr49_2 => first | exact ⟨_, rfl⟩ | rfl)
    (case kw49_3 => k_is)
    (case kr49_3 => first | exact ⟨_, rfl⟩ | rfl)
    (case kw49_4 => k_is)
    (case kr49_4 => first | exact ⟨_, rfl⟩ | rfl)
    (case kw49_5 => k_is)
    (case kr49_5 => first | exact ⟨_, rfl⟩ | rfl)
    (case kw49_6 => k_is)
    (case kr49_6 => first | exact ⟨_, rfl⟩ | rfl)
    (case kw49_7 => k_is)
    (case kr49_7 => first | exact ⟨_, rfl⟩ | rfl)
    (case kw49_8 => k_is)
    (case kr49_8 => first | exact ⟨_, rfl⟩ | rfl)
    (case kw49_9 => k_is)
    (case kr49_9 => first | exact ⟨_, rfl⟩ | rfl)
    (case a50 => k_is)
    (case l50 => k_is)
    (case c50 => k_is)
    (case k50 => k_is)
    (case a51 => k_is)
    (case l51 => k_is)
    (case c51 => k_is)
    (case k51 => k_is)
    (case a52 => k_is)
    (case l52 => k_is)
    (case c52 => k_is)
    (case k52 => k_is)
    (case a53 => k_is)
    (case l53 => k_is)
    (case c53 => k_is)
    (case k53 => k_is)
    (case a54 => k_is)
    (case l54 => k_is)
    (case c54 => k_is)
    (case k54 => k_is)
    (case a55 => k_is)
    (case l55 => k_is)
    (case c55 => k_is)
    (case k55 => k_is)
    (case a56 => k_is)
    (case l56 => k_is)
    (case c56 => k_is)
    (case k56 => k_is)
    (case a57 => k_is)
    (case l57 => k_is)
    (case c57 => k_is)
    (case k57 => k_is)
#print axioms PySem.Challenge.cw_crumbjar_k31_crumbs_under_rules_holds
