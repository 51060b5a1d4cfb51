import PyProof.Rows.All
import Wide.All
import OpenK.AllK
import Wide.FinOn
import HandS.Base
import HandS.Call
import HandS.List
import HandS.Comp
import HandS.Ends
import HandS.Dict
import HandS.Iter
import HandS.Text
import HandS.Words
import PyProof.Rows.StrNews2
import PyProof.StrLawsLast
import HandS.Wide
import HandS.Walk
import HandS.IsInst
import HandS.Style
import HandS.Exc
import HandS.ExcOwn
import HandS.ExcInit
import HandS.ExcField
import HandS.WordsExc
import PyProof.ReprReads
import PyProof.ReprRoads
import KE.KDflt
import HandS.Lambda
import HandS.EndTab
import HandS.EndOwn
import HandS.TryMany
import KE.GoesEnum
import KE.GoesEnumKw
import HandS.TryOnly
import HandS.ExcValue
import KE.KUnpackStar
import KE.IntTextLaws
import HandS.TupMul
import HandS.StrMore
import HandS.TupAny
import PyProof.Rows.StrFirst
import PyProof.Rows.RegReprOcc
import KE.KIntText
import PyProof.Rows.Digits
import HandS.More
import HandS.Strs
import KE.KxStill
import PyProof.Rows.StrCase
import PyProof.StrLawsRepr
import PyProof.Rows.StrJoinMade
import PyProof.ReprBulk
import HandS.WordsDict
import HandS.MakeKwOnly
import HandS.SlotsOwn
import HandS.ExcIs
import KE.KExcIs
import KE.KTryMore
import HandS.Nested
import HandS.DictComp
import PyProof.Rows.StrIntSpec
import HandS.RaiseMore
import HandS.FStr
import KE.KxField
import KE.DataCmp
import HandS.Replace
import HandS.ReplaceDef
import HandS.ReplaceLit
import HandS.ReplaceList
import PyProof.Rows.StrStrike
import KE.KRevSl
import HandS.DictSubView
import HandS.Conv
import KE.KDictSum
import HandS.Codes
import HandS.Flow
import HandS.Evl
import HandS.Small
import HandS.MapJoin
import HandS.Star
import HandS.Deep
import HandS.Zip
import HandS.DictTup
import PySem.Challenge.RW_crumbjar_k28_whole_requests_and_sites
set_option Elab.async false
set_option linter.all false
set_option maxRecDepth 100000
set_option maxHeartbeats 4000000
namespace Kb
open PySem PySem.Spec PyProof.Rows L2
/-! ### a def of the text, a def that may be called -/
def Df (K : PySem.W.Frag) (mg : Str → Option Value) (x : Str) (st : Stmt) (ps : List Str) : Prop :=
  ∃ (f : Addr) (fd : FuncData), Fun K x x st f fd ∧ mg x = some (.ref f) ∧ ∀ us : List Value, us.length = ps.length → bindArgs fd ⟨us, []⟩ = pure (ps.zip us)
theorem Df.mk {K : PySem.W.Frag} {mg : Str → Option Value} {h : Heap} {x : Str} {st : Stmt} {ps : List Str} {f : Addr} {oc : Value} {od an : Option Addr} {sl : Array (Option Value)} {kV doc pm cd ct : Value} (X : K.In h) (G : h.Ns PySem.mainGlobals mg)
    (b : ∀ (kV doc pm : Value) (an : Option Addr) (cdv ct : Value) (us : List Value), us.length = ps.length → bindArgs (PySem.W.fnOf x x (defArgs st) (defBody st) (defScope st) .none kV doc pm an cdv ct) ⟨us, []⟩ = pure (ps.zip us))
    (a : PySem.W.nsIn K PySem.mainGlobals x = some (some (.ref f)))
    (l : K.lookup f = some ⟨oc, od, .func (PySem.W.fnOf x x (defArgs st) (defBody st) (defScope st) .none kV doc pm an cd ct), sl⟩)
    (c : PySem.W.codeIn K cd x = true) (k : PySem.W.keepIn K (.ref f) = true) : Df K mg x st ps :=
  ⟨f, _, fun_mk l c k, PySem.W.mg_of X G a, b kV doc pm an cd ct⟩
def Cal (P : Program) (w : World) (K : PySem.W.Frag) (mg : Str → Option Value) (base : Heap) (CX : CXT) (k : Nat) (x : Str) (ps : List Str) (sp : Sp) : Prop :=
  ∃ (f : Addr) (fd : FuncData), FnOk P w K mg base CX k f fd ps sp ∧ mg x = some (.ref f) ∧ PySem.W.keepIn K (.ref f) = true ∧ Binds K fd ps []
section
variable {P : Program} {w : World} {K : PySem.W.Frag} {mg : Str → Option Value} {base : Heap}
theorem Df.ok0 {x : Str} {st : Stmt} {N ps : List Str} {k : Nat} {sp : Sp} (D : Df K mg x st ps) (S : FnScope N ps (defScope st)) (len : ∀ vs H Q E, sp vs H Q E → vs.length = ps.length)
    (hbody : ∀ (f : Addr) (cdv : Value) (A : Around) (outer : List Env) (s : Shared) (H : Hp) (vs : List V) (Q : VK) (E : XK), Room k (A.deeper (envOfC x (defScope st) s.heap.objs.size f cdv)) → sp vs H Q E →
      ∃ t, PSs (cxOf CX0 P w K mg base N x (defScope st) f cdv A outer s H E).nox (defBody st) t ∧ t { nx := fun _ H' => Q .non H', rt := Q } (start N vs) H) : Cal P w K mg base CX0 (k + 1) x ps sp := by
  obtain ⟨f, fd, F, m, b⟩ := D
  exact ⟨f, fd, F.ok S len (hbody f), m, F.kp, .all b⟩
end
theorem pe_c {X : Cx} {CX : CXT} {j k : Nat} {x : Str} {ps : List Str} {sp : Sp} {E : XK} {p pos : Pos} {e : Expr} {es : List Expr} {t : TA} (c : Cal X.prog X.w X.K X.mg X.base CX j x ps sp) (hr : Room k X.A) (hjk : j ≤ k) (hg : Gl X x) (hx : Passes CX X E)
    (ha : PA X (e :: es) t) (hdb : (x == ("__debug__" : Str)) = false := by decide) (he : starEach (e :: es) X.env = (false, eval e X.env) :: starEach es X.env := by rfl) (hpl : (backTo pos (starEach es X.env)).any (·.1) = false := by rfl) :
    PE X (.Call (.Name x p) (e :: es) [] pos) (tCall sp [] E t) := by
  obtain ⟨f, fd, F, m, kp, b⟩ := c
  exact pe_call F (hr.mono hjk) hg m kp b .nil hx ha hdb he hpl
end Kb

namespace Kb
open PySem PySem.Spec PyProof.Rows L2 TL PySem.StrLaws Builtin.Str
/-! ### lists of signs: parts between one sign -/
def sp1 (c : Nat) : List Nat → List (List Nat)
  | [] => [[]]
  | x :: l => if x = c then [] :: sp1 c l else match sp1 c l with
    | [] => [[x]]
    | h :: t => (x :: h) :: t
theorem sp1_ne (c : Nat) : ∀ l, sp1 c l ≠ []
  | [] => by simp [sp1]
  | x :: l => by
    unfold sp1
    split
    · simp
    · cases h : sp1 c l <;> simp
theorem sp1_hit (c : Nat) (l : List Nat) : sp1 c (c :: l) = [] :: sp1 c l := by simp [sp1]
theorem sp1_miss {c x : Nat} (h : x ≠ c) {l p : List Nat} {r : List (List Nat)} (e : sp1 c l = p :: r) : sp1 c (x :: l) = (x :: p) :: r := by
  simp only [sp1, if_neg h, e]
theorem sp1_cons (c : Nat) (l : List Nat) : ∃ p r, sp1 c l = p :: r := by
  cases h : sp1 c l with
  | nil => exact absurd h (sp1_ne c l)
  | cons p r => exact ⟨p, r, rfl⟩
theorem spl_sp1 (c : Nat) : ∀ (l acc : List Nat) (p : List Nat) (r : List (List Nat)), sp1 c l = p :: r → spl [c] 0 acc l = (acc ++ p) :: r
  | [], acc, p, r, h => by
    simp only [sp1, List.cons.injEq] at h
    obtain ⟨rfl, rfl⟩ := h
    simp [spl_nil]
  | x :: l, acc, p, r, h => by
    obtain ⟨q, s, e⟩ := sp1_cons c l
    by_cases hx : x = c
    · subst hx
      rw [sp1_hit] at h
      simp only [List.cons.injEq] at h
      obtain ⟨rfl, rfl⟩ := h
      rw [spl_hit (by simp [pre])]
      rw [show [x].length - 1 = 0 from rfl, spl_sp1 x l [] q s e, e]
      simp
    · rw [sp1_miss hx e] at h
      simp only [List.cons.injEq] at h
      obtain ⟨rfl, rfl⟩ := h
      rw [spl_miss (by simp [pre, hx]), spl_sp1 c l _ q s e]
      simp
theorem split_sp1 (x : Str) {c : Nat} (hc : c < 256) : (Txt.split x ⟨#[c]⟩).map tl = sp1 c (tl x) := by
  rw [split_spl x ⟨#[c]⟩ (by simp [tl]) (kind_ok (by simp [hc]))]
  obtain ⟨p, r, e⟩ := sp1_cons c (tl x)
  show spl [c] 0 [] (tl x) = _
  rw [spl_sp1 c _ [] p r e, e]
  rfl
theorem joinL_sp1 (c : Nat) : ∀ l, joinL [c] (sp1 c l) = l
  | [] => rfl
  | x :: l => by
    obtain ⟨q, s, e⟩ := sp1_cons c l
    have ih := joinL_sp1 c l
    by_cases hx : x = c
    · subst hx
      rw [sp1_hit, e]
      rw [e] at ih
      show [] ++ ([x] ++ joinL [x] (q :: s)) = _
      rw [ih]; rfl
    · rw [sp1_miss hx e]
      rw [e] at ih
      cases s with
      | nil => exact congrArg (x :: ·) ih
      | cons a b => exact congrArg (x :: ·) ih
theorem sp1_free (c : Nat) : ∀ l, ∀ p ∈ sp1 c l, c ∉ p
  | [], p, h => by simp only [sp1, List.mem_singleton] at h; subst h; simp
  | x :: l, p, h => by
    obtain ⟨q, s, e⟩ := sp1_cons c l
    have ih := sp1_free c l
    by_cases hx : x = c
    · subst hx
      rw [sp1_hit] at h
      rcases List.mem_cons.mp h with rfl | h
      · simp
      · exact ih p h
    · rw [sp1_miss hx e] at h
      rw [e] at ih
      rcases List.mem_cons.mp h with rfl | h
      · intro hm
        rcases List.mem_cons.mp hm with r | r
        · exact hx r.symm
        · exact ih q (List.mem_cons_self ..) r
      · exact ih p (List.mem_cons_of_mem _ h)
theorem sp1_of_free {c : Nat} : ∀ {l : List Nat}, c ∉ l → sp1 c l = [l]
  | [], _ => rfl
  | x :: l, h => by
    have hx : x ≠ c := fun e => h (e ▸ List.mem_cons_self ..)
    rw [sp1_miss hx (sp1_of_free fun m => h (List.mem_cons_of_mem _ m))]
theorem sp1_app (c : Nat) : ∀ (a b : List Nat), sp1 c (a ++ c :: b) = sp1 c a ++ sp1 c b
  | [], b => by rw [List.nil_append, sp1_hit]; rfl
  | x :: a, b => by
    obtain ⟨q, s, e⟩ := sp1_cons c a
    have ih := sp1_app c a b
    rw [e] at ih
    by_cases hx : x = c
    · subst hx
      rw [List.cons_append, sp1_hit, sp1_hit, ih, e]; rfl
    · rw [List.cons_append, sp1_miss hx ih, sp1_miss hx e]; rfl
/-- r and the sign stand at the head exactly if r's parts are the first ones, with one more behind -/
theorem sp1_prefix (c : Nat) : ∀ (r p : List Nat), ((sp1 c r).length < (sp1 c p).length ∧ (sp1 c p).take (sp1 c r).length = sp1 c r) ↔ (r ++ [c]) <+: p
  | [], p => by
    show (1 < _ ∧ List.take 1 _ = [[]]) ↔ [c] <+: p
    cases p with
    | nil => simp [sp1]
    | cons x p =>
      obtain ⟨q, s, e⟩ := sp1_cons c p
      by_cases hx : x = c
      · subst hx
        simp [sp1_hit, e]
      · rw [sp1_miss hx e]
        simp [List.cons_prefix_cons, Ne.symm hx]
  | y :: r, p => by
    obtain ⟨q, s, e⟩ := sp1_cons c r
    cases p with
    | nil =>
      have h1 : 0 < (sp1 c (y :: r)).length := List.length_pos_iff.mpr (sp1_ne c _)
      constructor
      · rintro ⟨h, _⟩
        simp only [sp1, List.length_cons, List.length_nil] at h
        exact absurd h (by have : (sp1 c (y :: r)).length = (sp1 c (y :: r)).length := rfl; simp only [sp1] at h1; omega)
      · intro h; simp at h
    | cons x p =>
      obtain ⟨q', s', e'⟩ := sp1_cons c p
      have ih := sp1_prefix c r p
      rw [List.cons_append, List.cons_prefix_cons]
      by_cases hy : y = c
      · subst hy
        rw [sp1_hit]
        by_cases hx : x = y
        · subst hx
          rw [sp1_hit]
          simp only [List.length_cons, List.take_succ_cons, List.cons.injEq, true_and, Nat.add_lt_add_iff_right]
          exact ih
        · rw [sp1_miss hx e']
          simp [Ne.symm hx]
      · rw [sp1_miss hy e]
        by_cases hx : x = c
        · subst hx
          rw [sp1_hit]
          simp [Ne.symm hy, hy]
        · rw [sp1_miss hx e']
          rw [e, e'] at ih
          simp only [List.length_cons, List.take_succ_cons, List.cons.injEq] at ih ⊢
          constructor
          · rintro ⟨h1, ⟨h2, h3⟩, h4⟩
            exact ⟨h2.symm, ih.mp ⟨h1, h3, h4⟩⟩
          · rintro ⟨h2, h⟩
            obtain ⟨h1, h3, h4⟩ := ih.mpr h
            exact ⟨h1, ⟨h2.symm, h3⟩, h4⟩
/-- the last part -/
theorem last_cut {c : Nat} : ∀ {l : List Nat}, c ∈ l → ∃ a b, l = a ++ c :: b ∧ c ∉ b
  | [], h => by cases h
  | x :: l, h => by
    by_cases hm : c ∈ l
    · obtain ⟨a, b, e, hb⟩ := last_cut hm
      exact ⟨x :: a, b, by rw [e]; rfl, hb⟩
    · have hx : c = x := by
        rcases List.mem_cons.mp h with e | e
        · exact e
        · exact absurd e hm
      exact ⟨[], l, by rw [hx]; rfl, hm⟩
/-! ### the model's words as list functions -/
theorem startswith_tl (x y : Str) : Txt.startswith x y = (tl y).isPrefixOf (tl x) := by
  unfold Txt.startswith
  rw [subAt_eq, List.drop_zero, len_tl, len_tl, Nat.zero_add]
  rw [Bool.eq_iff_iff]
  simp only [Bool.and_eq_true, decide_eq_true_eq, beq_iff_eq, List.isPrefixOf_iff_prefix]
  constructor
  · rintro ⟨_, h⟩
    have h : List.take (tl y).length (tl x) = tl y := h
    exact h ▸ List.take_prefix _ _
  · intro h
    exact ⟨h.length_le, (List.prefix_iff_eq_take.mp h).symm⟩
theorem endswith_tl (x y : Str) : Txt.endswith x y = (tl y).isSuffixOf (tl x) := by
  unfold Txt.endswith
  rw [subAt_eq, len_tl, len_tl, Nat.zero_add]
  rw [Bool.eq_iff_iff]
  simp only [Bool.and_eq_true, decide_eq_true_eq, beq_iff_eq, List.isSuffixOf_iff_suffix]
  constructor
  · rintro ⟨h1, h⟩
    have h : List.take (tl y).length (List.drop ((tl x).length - (tl y).length) (tl x)) = tl y := h
    rw [List.take_of_length_le (by rw [List.length_drop]; omega)] at h
    exact h ▸ List.drop_suffix _ _
  · intro h
    have hl := h.length_le
    refine ⟨hl, ?_⟩
    show List.take (tl y).length (List.drop ((tl x).length - (tl y).length) (tl x)) = tl y
    rw [List.take_of_length_le (by rw [List.length_drop]; omega)]
    exact (List.suffix_iff_eq_drop.mp h).symm
theorem rpartition_hit {x : Str} {c : Nat} {a b : List Nat} (e : tl x = a ++ c :: b) (hb : c ∉ b) : tl (Txt.rpartition x ⟨#[c]⟩).1 = a := by
  have hy : tl (⟨#[c]⟩ : Str) ≠ [] := by simp [tl]
  have at' : ∀ i, At x ⟨#[c]⟩ x.length i ↔ (tl x)[i]? = some c := fun i => by
    rw [at_iff hy]
    show (((tl x).drop i).take 1 == [c]) = true ↔ _
    exact take1_drop
  have hit : At x ⟨#[c]⟩ x.length a.length := (at' _).mpr (by rw [e]; simp)
  unfold Txt.rpartition
  rcases last_spec x ⟨#[c]⟩ with ⟨e1, h⟩ | ⟨i, e1, h1, h2⟩
  · exact absurd hit (h _)
  · rw [e1]
    show tl (strSub x 0 i) = a
    have hi : i = a.length := by
      rcases Nat.lt_trichotomy i a.length with q | q | q
      · exact absurd hit (h2 _ q)
      · exact q
      · have g := (at' i).mp h1
        rw [e, List.getElem?_append_right (by omega)] at g
        obtain ⟨k, hk⟩ : ∃ k, i - a.length = k + 1 := ⟨i - a.length - 1, by omega⟩
        rw [hk, List.getElem?_cons_succ] at g
        exact absurd (List.mem_of_getElem? g) hb
    rw [tl_strSub, hi, e]
    simp
theorem tl_S (l : List Nat) : tl ⟨l.toArray⟩ = l := rfl
theorem str_eq_iff {x y : Str} : x = y ↔ tl x = tl y := ⟨fun e => by rw [e], ext_tl⟩
end Kb
namespace Kb
open PySem PySem.Spec PyProof.Rows L2 TL PySem.StrLaws Builtin.Str
theorem cutS_to (z : Str) {i : Int} (h : 0 ≤ i) : tl (cutS z none (some i)) = (tl z).take i.toNat := by
  obtain ⟨k, rfl⟩ : ∃ k : Nat, i = (k : Int) := ⟨i.toNat, by omega⟩
  show ((tl z).drop (HT.sIx z.length 0 none)).take (HT.sIx z.length z.length (some (k : Int)) - HT.sIx z.length 0 none) = _
  rw [HT.sIx_none, HT.sIx_nat, List.drop_zero, Nat.sub_zero, Int.toNat_natCast, len_tl, ← List.take_take, List.take_of_length_le (Nat.le_refl _)]
end Kb
namespace Kb
open PySem PySem.Spec PyProof.Rows L2 TL PySem.StrLaws Builtin.Str
theorem cutV_to (xs : List V) {i : Int} (h : 0 ≤ i) : cutV xs none (some i) = xs.take i.toNat := by
  obtain ⟨k, rfl⟩ : ∃ k : Nat, i = (k : Int) := ⟨i.toNat, by omega⟩
  show (xs.drop (HT.sIx xs.length 0 none)).take (HT.sIx xs.length xs.length (some (k : Int)) - HT.sIx xs.length 0 none) = _
  rw [HT.sIx_none, HT.sIx_nat, List.drop_zero, Nat.sub_zero, Int.toNat_natCast, ← List.take_take, List.take_of_length_le (Nat.le_refl _)]
theorem cutV_m1 (xs : List V) : cutV xs none (some (-1)) = xs.dropLast := by
  show (xs.drop (HT.sIx xs.length 0 none)).take (HT.sIx xs.length xs.length (some (-1)) - HT.sIx xs.length 0 none) = _
  rw [HT.sIx_none, List.drop_zero, Nat.sub_zero, List.dropLast_eq_take]
  have e : HT.sIx xs.length xs.length (some (-1)) = xs.length - 1 := by
    show (if (-1 : Int) < 0 then ((-1 : Int) + (xs.length : Int)).toNat else min (-1 : Int).toNat xs.length) = _
    rw [if_pos (by decide)]
    omega
  rw [e]
theorem sp1_mem {c s : Nat} : ∀ {l p : List Nat}, p ∈ sp1 c l → s ∈ p → s ∈ l
  | [], p, h, hs => by simp only [sp1, List.mem_singleton] at h; subst h; exact hs
  | x :: l, p, h, hs => by
    obtain ⟨q, r, e⟩ := sp1_cons c l
    have ih := fun p => sp1_mem (c := c) (s := s) (l := l) (p := p)
    by_cases hx : x = c
    · subst hx
      rw [sp1_hit] at h
      rcases List.mem_cons.mp h with rfl | h
      · cases hs
      · exact List.mem_cons_of_mem _ (ih p h hs)
    · rw [sp1_miss hx e] at h
      rw [e] at ih
      rcases List.mem_cons.mp h with rfl | h
      · rcases List.mem_cons.mp hs with rfl | hs
        · exact List.mem_cons_self ..
        · exact List.mem_cons_of_mem _ (ih q (List.mem_cons_self ..) hs)
      · exact List.mem_cons_of_mem _ (ih p (List.mem_cons_of_mem _ h) hs)
theorem split_mem {x p : Str} {c : Nat} (hc : c < 256) (h : p ∈ Txt.split x ⟨#[c]⟩) : ∀ s ∈ tl p, s ∈ tl x := fun s hs =>
  sp1_mem (c := c) (by rw [← split_sp1 x hc]; exact List.mem_map.mpr ⟨p, h, rfl⟩) hs
theorem split_strOk {x : Str} {c : Nat} (hc : c < 256) (hx : ∀ s ∈ tl x, s < 1114112) : ∀ p ∈ Txt.split x ⟨#[c]⟩, PyData.canLay0 (.str p) = true := fun p hp => by
  rw [PyData.canLay0]
  show p.cps.all _ = true
  rw [Array.all_eq_true_iff_forall_mem]
  intro s hs
  exact decide_eq_true (hx s (split_mem hc hp s (Array.mem_toList_iff.mpr hs)))
theorem prefix_snoc {q p : List Nat} {c : Nat} : (q ++ [c]) <+: p ↔ q <+: p ∧ p[q.length]? = some c := by
  constructor
  · rintro ⟨r, e⟩
    refine ⟨⟨c :: r, by rw [← e]; simp⟩, ?_⟩
    rw [← e]; simp
  · rintro ⟨⟨r, e⟩, h⟩
    rw [← e, List.getElem?_append_right (Nat.le_refl _), Nat.sub_self] at h
    cases r with
    | nil => cases h
    | cons a r =>
      cases h
      exact ⟨r, by rw [← e]; simp⟩
theorem snoc_of_ne {l : List Nat} (h : l ≠ []) : ∃ r c, l = r ++ [c] := ⟨l.dropLast, l.getLast h, (List.dropLast_concat_getLast h).symm⟩
theorem sp1_length {c : Nat} : ∀ l : List Nat, (sp1 c l).length ≤ l.length + 1
  | [] => by simp [sp1]
  | x :: l => by
    obtain ⟨q, r, e⟩ := sp1_cons c l
    have ih := sp1_length (c := c) l
    by_cases hx : x = c
    · subst hx; rw [sp1_hit]; simp; omega
    · rw [sp1_miss hx e]; rw [e] at ih; simp at ih ⊢; omega
theorem split_length (x : Str) {c : Nat} (hc : c < 256) : (Txt.split x ⟨#[c]⟩).length ≤ x.length + 1 := by
  have := sp1_length (c := c) (tl x)
  rw [← split_sp1 x hc, List.length_map] at this
  rw [len_tl]; exact this
end Kb
namespace Kb
open PySem PySem.Spec PyProof.Rows L2 TL PySem.StrLaws Builtin.Str
theorem sp1_mem_len {c : Nat} : ∀ {l p : List Nat}, p ∈ sp1 c l → p.length ≤ l.length
  | [], p, h => by simp only [sp1, List.mem_singleton] at h; subst h; simp
  | x :: l, p, h => by
    obtain ⟨q, r, e⟩ := sp1_cons c l
    have ih := fun p => sp1_mem_len (c := c) (l := l) (p := p)
    by_cases hx : x = c
    · subst hx
      rw [sp1_hit] at h
      rcases List.mem_cons.mp h with rfl | h
      · simp
      · have := ih p h; simp; omega
    · rw [sp1_miss hx e] at h
      rw [e] at ih
      rcases List.mem_cons.mp h with rfl | h
      · have := ih q (List.mem_cons_self ..); simp; omega
      · have := ih p (List.mem_cons_of_mem _ h); simp; omega
theorem split_mem_len {x p : Str} {c : Nat} (hc : c < 256) (h : p ∈ Txt.split x ⟨#[c]⟩) : p.length ≤ x.length := by
  rw [len_tl, len_tl]
  exact sp1_mem_len (c := c) (by rw [← split_sp1 x hc]; exact List.mem_map.mpr ⟨p, h, rfl⟩)
theorem joinL_nil {c : Nat} : ∀ {L : List (List Nat)}, joinL [c] L = [] → L = [] ∨ L = [[]]
  | [], _ => .inl rfl
  | [p], h => .inr (by rw [show p = [] from h])
  | p :: q :: r, h => by
    have : p ++ ([c] ++ joinL [c] (q :: r)) = [] := h
    simp at this
theorem join_tl (y : Str) (parts : List Str) : tl (Txt.join y parts) = joinL (tl y) (parts.map tl) := by rw [join_eq, tl_join]
end Kb
namespace Kb
open PySem PySem.Spec PyProof.Rows L2 TL PySem.StrLaws Builtin.Str
theorem cutV_from (xs : List V) {i : Int} (h : 0 ≤ i) : cutV xs (some i) none = xs.drop i.toNat := by
  obtain ⟨k, rfl⟩ : ∃ k : Nat, i = (k : Int) := ⟨i.toNat, by omega⟩
  show (xs.drop (HT.sIx xs.length 0 (some (k : Int)))).take (HT.sIx xs.length xs.length none - HT.sIx xs.length 0 (some (k : Int))) = _
  rw [HT.sIx_none, HT.sIx_nat, Int.toNat_natCast]
  rcases Nat.le_total k xs.length with q | q
  · rw [Nat.min_eq_left q, List.take_of_length_le (by rw [List.length_drop]; omega)]
  · rw [Nat.min_eq_right q, List.drop_length, List.drop_eq_nil_of_le q, List.take_nil]
end Kb

namespace Kb
open PySem PySem.Spec PyProof.Rows L2
section
variable {X : Cx}
theorem pe_gc {x : Str} {pos : Pos} {v : V} (hg : Gl X x) (h : ∃ u, X.mg x = some u ∧ RelV v u) (hd : (x == ("__debug__" : Str)) = false := by decide) : PE X (.Name x pos) (tC v) := by
  obtain ⟨u, hm, r⟩ := h
  exact pe_glob hg hm r hd
theorem mt_rpartition : MtR X "str.rpartition" (fun x xs H Q => ∃ a b, x = .str a ∧ xs = [.str b] ∧ (b.length == 0) = false ∧ a.length ≤ sizeLine ∧
    ∀ p, H p = none → Q (.ref p) (upd H p (.tup [.str (Txt.rpartition a b).1, .str (Txt.rpartition a b).2.1, .str (Txt.rpartition a b).2.2]))) := by
  intro pins s σ H x xs v us Q I rx rs h
  obtain ⟨a, b, rfl, rfl, hb, hz, h⟩ := h
  obtain ⟨t, rfl⟩ := rx
  cases rs with
  | cons r1 rs =>
    cases rs
    obtain ⟨u, rfl⟩ := r1
    refine call_meets F.slot_str_rpartition (typeIs_str _ _ _) F.entry_str_rpartition (F.args_str_rpartition_2 _ _) (meets_str_rpartition a b t u hb hz) ?_
    unfold Txt.rpartition at h
    revert h
    cases Builtin.Str.lastOccurrence a b 0 a.length with
    | none => intro h; exact laid_parts I h
    | some i => intro h; exact laid_parts I h
end
/-! ### frames -/
/-- all that was tracked is as it was, but for d -/
def Keep (d : Addr) (H H' : Hp) : Prop := ∀ b o, H b = some o → b ≠ d → H' b = some o
theorem Keep.refl {d : Addr} {H : Hp} : Keep d H H := fun _ _ h _ => h
theorem Keep.trans {d : Addr} {H H1 H2 : Hp} (a : Keep d H H1) (b : Keep d H1 H2) : Keep d H H2 := fun c o h n => b c o (a c o h n) n
theorem Same.keep {d : Addr} {H H' : Hp} (a : Same H H') : Keep d H H' := fun c o h _ => a c o h
theorem Same.new {H : Hp} {p : Addr} {o : HO} (h : H p = none) : Same H (upd H p o) := fun b u e => by
  rw [upd_ne (ne_of_none e h)]
  exact e
theorem Keep.upd {d : Addr} {H H' : Hp} {o : HO} (a : Keep d H H') : Keep d H (upd H' d o) := fun c u h n => by
  rw [upd_ne n]
  exact a c u h n
theorem Keep.same {d : Addr} {H H1 H2 : Hp} (a : Keep d H H1) (b : Same H1 H2) : Keep d H H2 := fun c o h n => b c o (a c o h n)
theorem Same.then {d : Addr} {H H1 H2 : Hp} (a : Same H H1) (b : Keep d H1 H2) : Keep d H H2 := fun c o h n => b c o (a c o h) n
theorem Keep.seqL {K : PySem.W.Frag} {d a : Addr} {H H' : Hp} {xs : List V} (k : Keep d H H') (n : a ≠ d) (h : SqL K H a xs) : SqL K H' a xs := by
  rcases h with (h | ⟨o, h⟩) | h
  · exact .inl (.inl (k _ _ h n))
  · exact .inl (.inr ⟨o, k _ _ h n⟩)
  · exact .inr h
/-- an object that is new behind d's own changes -/
theorem Keep.fresh {d : Addr} {H H' : Hp} {l : Addr} (k : Keep d H H') (hd : H d = none) (h : H' l = none) : H l = none := by
  cases q : H l with
  | none => rfl
  | some o =>
    have : l ≠ d := fun e => by rw [e, hd] at q; cases q
    rw [k l o q this] at h
    cases h
/-- what is new since H stays new in Same's way -/
theorem Keep.toSame {d : Addr} {H H' : Hp} (k : Keep d H H') (hd : H d = none) : Same H H' := fun b o h => k b o h (ne_of_none h hd)
/-! ### a menu at an index in bounds -/
theorem menu {xs : List V} {i : Int} (h0 : 0 ≤ i) (h1 : i < (xs.length : Int)) : ∃ v, v ∈ xs ∧ atI xs i = some v := by
  obtain ⟨n, rfl⟩ : ∃ n : Nat, i = (n : Int) := ⟨i.toNat, by omega⟩
  have hn : n < xs.length := by omega
  exact ⟨xs[n], List.getElem_mem hn, atI_nat (List.getElem?_eq_getElem hn)⟩
theorem iteB {b : Bool} {A B : Prop} (h1 : b = true → A) (h2 : b = false → B) : if b = true then A else B := by
  cases b
  · rw [if_neg Bool.false_ne_true]; exact h2 rfl
  · rw [if_pos rfl]; exact h1 rfl
/-! ### the draw -/
def kLeft : Key := Sum.inr "left"
def kCell : Key := Sum.inr "cell"
def kTurns : Key := Sum.inr "turns"
def dkv (l c t : Int) : List (Key × V) := [(Sum.inr "left", .int l), (Sum.inr "cell", .int c), (Sum.inr "turns", .int t)]
theorem kne1 : ¬ (("left" : Str) = "cell") := by decide +kernel
theorem kne2 : ¬ (("left" : Str) = "turns") := by decide +kernel
theorem kne3 : ¬ (("cell" : Str) = "turns") := by decide +kernel
theorem dkv_left (l c t : Int) : valV (dkv l c t) (Sum.inr "left" : Key) = some (.int l) := by
  simp [valV, dkv]
theorem dkv_cell (l c t : Int) : valV (dkv l c t) (Sum.inr "cell" : Key) = some (.int c) := by
  simp [valV, dkv, kne1]
theorem dkv_turns (l c t : Int) : valV (dkv l c t) (Sum.inr "turns" : Key) = some (.int t) := by
  simp [valV, dkv, kne2, kne3]
theorem dkv_putL (l c t x : Int) : putK (dkv l c t) (Sum.inr "left" : Key) (.int x) = dkv x c t := by
  simp [putK, dkv, Ne.symm kne1, Ne.symm kne2]
theorem dkv_putT (l c t x : Int) : putK (dkv l c t) (Sum.inr "turns" : Key) (.int x) = dkv l c x := by
  simp [putK, dkv, kne2, kne3]
def DrawAt (H : Hp) (d : Addr) (n : Nat) : Prop := ∃ l c t : Int, H d = some (.dK (dkv l c t)) ∧ 0 ≤ l ∧ 0 ≤ t ∧ t + 4 * (n : Int) ≤ 1000000000
theorem DrawAt.less {H : Hp} {d : Addr} {n m : Nat} (h : DrawAt H d n) (e : m ≤ n) : DrawAt H d m := by
  obtain ⟨l, c, t, h1, h2, h3, h4⟩ := h
  exact ⟨l, c, t, h1, h2, h3, by omega⟩
theorem DrawAt.same {H H' : Hp} {d : Addr} {n : Nat} (h : DrawAt H d n) (s : Same H H') : DrawAt H' d n := by
  obtain ⟨l, c, t, h1, h2⟩ := h
  exact ⟨l, c, t, s _ _ h1, h2⟩
theorem DrawAt.keep {H H' : Hp} {d e : Addr} {n : Nat} (h : DrawAt H d n) (s : Keep e H H') (x : d ≠ e) : DrawAt H' d n := by
  obtain ⟨l, c, t, h1, h2⟩ := h
  exact ⟨l, c, t, s _ _ h1 x, h2⟩
end Kb
namespace Kb
open PySem PySem.Spec PyProof.Rows L2
theorem dget_left {H : Hp} {d : Addr} {l c t : Int} (h : H d = some (.dK (dkv l c t))) : DGet H d (.str "left") (some (.int l)) := by
  have e := DGet.k (k := (Sum.inr "left" : Key)) h
  rw [dkv_left] at e
  exact e
theorem dget_cell {H : Hp} {d : Addr} {l c t : Int} (h : H d = some (.dK (dkv l c t))) : DGet H d (.str "cell") (some (.int c)) := by
  have e := DGet.k (k := (Sum.inr "cell" : Key)) h
  rw [dkv_cell] at e
  exact e
theorem dget_turns {H : Hp} {d : Addr} {l c t : Int} (h : H d = some (.dK (dkv l c t))) : DGet H d (.str "turns") (some (.int t)) := by
  have e := DGet.k (k := (Sum.inr "turns" : Key)) h
  rw [dkv_turns] at e
  exact e
theorem dput_left {H : Hp} {d : Addr} {l c t : Int} (x : Int) (h : H d = some (.dK (dkv l c t))) : DPut H d (.str "left") (.int x) (upd H d (.dK (dkv x c t))) := by
  have e := DPut.k (k := (Sum.inr "left" : Key)) (v := .int x) h (Nat.lt_of_lt_of_le (by show 3 < 10; decide) (by decide))
  rw [dkv_putL] at e
  exact e
theorem dput_turns {H : Hp} {d : Addr} {l c t : Int} (x : Int) (h : H d = some (.dK (dkv l c t))) : DPut H d (.str "turns") (.int x) (upd H d (.dK (dkv l c x))) := by
  have e := DPut.k (k := (Sum.inr "turns" : Key)) (v := .int x) h (Nat.lt_of_lt_of_le (by show 3 < 10; decide) (by decide))
  rw [dkv_putT] at e
  exact e
end Kb
namespace Kb
open PySem PySem.Spec PyProof.Rows L2 TL
section
variable {K : PySem.W.Frag} {a : Addr} {xs : List V} {g : TG} {tb : TS} {D : Ends} {σ : L2.St} {H : Hp}
theorem for_str {z : Str} (Pv : Nat → L2.St → Hp → Prop) (h0 : Pv 0 σ H)
    (hs : ∀ i c σ H, (tl z)[i]? = some c → Pv i σ H → g (.str ⟨#[c]⟩) σ H fun σ2 H2 => tb { D with nx := Pv (i + 1), ct := Pv (i + 1), bk := D.nx } σ2 H2) (hd : ∀ σ H, Pv (tl z).length σ H → D.nx σ H) :
    ∃ W : Nat → Nat → L2.St → Hp → Prop, (∃ m, W 0 m σ H) ∧ ∀ i m σ H, W i m σ H →
      ((Its z).stop i H ∧ D.nx σ H) ∨ ((Its z).go i H ∧ ∃ N : L2.St → Hp → Prop, (∀ σ' H', N σ' H' → ∃ m', m' < m ∧ W (i + 1) m' σ' H') ∧ ∀ x H', (Its z).yld i H x H' → g x σ H' fun σ2 H2 => tb { D with nx := N, ct := N, bk := D.nx } σ2 H2) := by
  refine for_it walk_str Pv h0 (fun _ _ _ _ _ => trivial) (fun i x σ H H' hi p y => ?_) (fun σ H p => hd σ H (by rw [show (tl z).length = z.cps.size by simp [tl]]; exact p))
  obtain ⟨rfl, c, hc, rfl⟩ := y
  exact hs i c σ _ (by rw [← hc]; simp [tl]) p
theorem for_enum (Pv : Nat → L2.St → Hp → Prop) (h0 : Pv 0 σ H) (hG : ∀ i σ H, i ≤ xs.length → Pv i σ H → SqL K H a xs)
    (hs : ∀ i x T σ H, xs[i]? = some x → Pv i σ H → H T = none → g (.ref T) σ (upd H T (.tup [.int (i : Nat), x])) fun σ2 H2 => tb { D with nx := Pv (i + 1), ct := Pv (i + 1), bk := D.nx } σ2 H2) (hd : ∀ σ H, Pv xs.length σ H → D.nx σ H) :
    ∃ W : Nat → Nat → L2.St → Hp → Prop, (∃ m, W 0 m σ H) ∧ ∀ i m σ H, W i m σ H →
      ((Ite K a).stop i H ∧ D.nx σ H) ∨ ((Ite K a).go i H ∧ ∃ N : L2.St → Hp → Prop, (∀ σ' H', N σ' H' → ∃ m', m' < m ∧ W (i + 1) m' σ' H') ∧ ∀ x H', (Ite K a).yld i H x H' → g x σ H' fun σ2 H2 => tb { D with nx := N, ct := N, bk := D.nx } σ2 H2) := by
  refine for_it walk_enum Pv h0 hG (fun i x σ H H' hi p y => ?_) hd
  obtain ⟨T, x, y, rfl, hT, rfl, h1, h2⟩ := y
  cases h1
  exact hs i y T σ H h2 p hT
end
end Kb
namespace Kb
open PySem PySem.Spec PyProof.Rows L2 TL
/-! ### == of lists of texts -/
theorem dpAll_strs {K : PySem.W.Frag} {H : Hp} : ∀ ys : List Str, DpAll K H (ys.map V.str) (ys.map PyData.str)
  | [] => .nil
  | y :: ys => .cons (.str y) (dpAll_strs ys)
theorem dp_strs {K : PySem.W.Frag} {H : Hp} {p : Addr} {ys : List Str} (h : SqL K H p (ys.map V.str)) : Dp K H (.ref p) (.list (ys.map PyData.str)) := .lst h (dpAll_strs ys)
theorem dp_strsT {K : PySem.W.Frag} {H : Hp} {p : Addr} {ys : List Str} (h : SqT K H p (ys.map V.str)) : Dp K H (.ref p) (.tuple (ys.map PyData.str)) := .tup h (dpAll_strs ys)
theorem eqvAll_strs : ∀ ys zs : List Str, PyData.eqvAll (ys.map PyData.str) (zs.map PyData.str) = decide (ys = zs)
  | [], [] => by simp [PyData.eqvAll]
  | [], z :: zs => by simp [PyData.eqvAll]
  | y :: ys, [] => by simp [PyData.eqvAll]
  | y :: ys, z :: zs => by
    rw [List.map_cons, List.map_cons, PyData.eqvAll, eqvAll_strs ys zs]
    rw [show PyData.eqv (.str y) (.str z) = (y == z) by simp [PyData.eqv]]
    rw [Bool.eq_iff_iff]
    simp
theorem canLay_strs : ∀ ys : List Str, (∀ y ∈ ys, PyData.canLay0 (.str y) = true) → PyData.canLayAll0 (ys.map PyData.str) = true
  | [], _ => by simp [PyData.canLayAll0]
  | y :: ys, h => by
    rw [List.map_cons, PyData.canLayAll0, h y (List.mem_cons_self ..), canLay_strs ys fun z hz => h z (List.mem_cons_of_mem _ hz)]; rfl
theorem depth_strs : ∀ ys : List Str, PyData.depthAll (ys.map PyData.str) = 0
  | [] => by simp [PyData.depthAll]
  | y :: ys => by
    rw [List.map_cons, PyData.depthAll, depth_strs ys]
    simp [PyData.depth]
theorem shaped_strs {ys : List Str} (h : ∀ y ∈ ys, PyData.canLay0 (.str y) = true) : SeqAt.shaped (.list (ys.map PyData.str)) = true := by
  unfold SeqAt.shaped
  rw [PyData.canLay0, canLay_strs ys h, PyData.depth, depth_strs]; rfl
end Kb
namespace Kb
open PySem PySem.Spec PyProof.Rows L2 TL
/-! ### rules with the written part named -/
def rLenQ (K : PySem.W.Frag) : List V → Hp → VK → Prop := fun xs H Q => ∃ p ys, xs = [.ref p] ∧ (SqL K H p ys ∨ SqT K H p ys) ∧ Q (.int ys.length) H
def rJoinQ (K : PySem.W.Frag) : V → List V → Hp → VK → Prop := fun x xs H Q => ∃ a p, ∃ ys : List Str, x = .str a ∧ xs = [.ref p] ∧ (SqL K H p (ys.map V.str) ∨ SqT K H p (ys.map V.str)) ∧ (ys.map (·.length)).sum + ys.length * a.length ≤ 16777216 ∧ Q (.str (Txt.join a ys)) H
end Kb
namespace Kb
open PySem PySem.Spec PyProof.Rows L2 TL
theorem DrawAt.upd {H : Hp} {d L : Addr} {n : Nat} {o : HO} (h : DrawAt H d n) (x : d ≠ L) : DrawAt (L2.upd H L o) d n := by
  obtain ⟨l, c, t, h1, h2⟩ := h
  exact ⟨l, c, t, by rw [upd_ne x]; exact h1, h2⟩
theorem DrawAt.ne {H : Hp} {d L : Addr} {n : Nat} (h : DrawAt H d n) (x : H L = none) : L ≠ d := fun e => by
  obtain ⟨_, _, _, q, _⟩ := h
  rw [e, q] at x; cases x
theorem Keep.updN {d L : Addr} {H H' : Hp} {o : HO} (k : Keep d H H') (h : H L = none) : Keep d H (L2.upd H' L o) := fun b q e n => by
  rw [upd_ne (ne_of_none e h)]
  exact k b q e n
end Kb
namespace Kb
open PySem PySem.Spec PyProof.Rows L2 TL
theorem all_at {p : Nat → Bool} {l : List Nat} {i : Nat} {c : Nat} (h : l[i]? = some c) : (l.take (i + 1)).all p = ((l.take i).all p && p c) := by
  rw [List.take_add_one, h, List.all_append]; simp
theorem allS_at {p : List Nat → Bool} {l : List Str} {i : Nat} {c : Str} (h : l[i]? = some c) : ((l.take (i + 1)).map tl).all p = (((l.take i).map tl).all p && p (tl c)) := by
  rw [List.take_add_one, h, List.map_append, List.all_append]; simp
theorem strAt {xs : List Str} {i : Nat} {v : V} (h : (xs.map V.str)[i]? = some v) : ∃ x, xs[i]? = some x ∧ v = .str x := by
  rw [List.getElem?_map] at h
  cases e : xs[i]? with
  | none => rw [e] at h; cases h
  | some x => rw [e] at h; exact ⟨x, rfl, (Option.some.inj h).symm⟩
/-- a text with f, or a value that is no text -/
def TxV (f : List Nat → Bool) (K : PySem.W.Frag) (H : Hp) (v : V) (b : Bool) : Prop :=
  (∃ x : Str, v = .str x ∧ x.length ≤ 1000000 ∧ b = f (tl x)) ∨ (∃ t : Value, TyX K H v t ∧ PySem.W.kitOne K t (.type "str") = some false ∧ b = false)
theorem kit_str (K : PySem.W.Frag) : PySem.W.kitOne K (.type "str") (.type "str") = some true := kit_ty (by decide +kernel)
theorem TxV.of {f : List Nat → Bool} {K : PySem.W.Frag} {H : Hp} {x : Str} (h : x.length ≤ 1000000) : TxV f K H (.str x) (f (tl x)) := .inl ⟨x, rfl, h, rfl⟩
end Kb

namespace Kb
open PySem PySem.Spec PyProof.Rows L2
/-! ### own errors with one field -/
def spInit (K : PySem.W.Frag) (C : Addr) (f : Str) : Sp := fun vs H Q _ => ∃ (a : Addr) (v : V), vs = [.ref a, v] ∧ H a = some (exo a C none) ∧ OexC K C ∧ PySem.W.findIn K (.ref C) f = some none ∧
  ∀ dx, H dx = none → dx ≠ a → Q .non (L2.upd (L2.upd H dx (exd dx [(f, v)])) a (exo a C (some dx)))
/-- what the top has written of such a class -/
structure Err (K : PySem.W.Frag) (mg : Str → Option Value) (cn f : Str) (C : Addr) : Prop where
  T : OexC K C
  X : XfC K C
  g : mg cn = some (.ref C)
  no : PySem.W.findIn K (.ref C) f = some none
  te : PySem.W.exmOne K (.ref C) (.ref C) = some true
  ini : ∃ (fI : Addr) (fd : FuncData), PySem.W.findIn K (.ref C) "__init__" = some (some (.ref fI)) ∧ PySem.W.typeIn K (.ref fI) = some (.type "function") ∧ Binds K fd ["self", f] [] ∧
    ∀ (P : Program) (w : World) (base : Heap), FnOk P w K mg base CX0 1 fI fd ["self", f] (spInit K C f)
/-- C(e) -/
def tErr (C : Addr) (f : Str) (ta : TA) : L2.St → Hp → XK → Prop := fun σ H Q => ta σ H fun vs H1 => ∃ v, vs = [v] ∧ ∀ d, H1 d = none → Q (.ref C) (some d) (L2.upd H1 d (.xd [(f, v)]))
def taMono (t : TA) : TA := fun σ H Q => ∃ Q0 : List V → Hp → Prop, t σ H Q0 ∧ ∀ x H1, Q0 x H1 → Q x H1
theorem pa_mono {X : Cx} {es : List Expr} {t : TA} (h : PA X es t) : PA X es (taMono t) :=
  ⟨fun pos pins s σ H Q I ⟨Q0, h0, m⟩ => thn (h.run pos pins s σ H Q0 I h0) fun us s1 ⟨vs, H1, I1, r1, q1⟩ => ⟨vs, H1, I1, r1, m _ _ q1⟩⟩
theorem upd_del {H : Hp} {a d : Addr} {o1 o2 o3 o4 : HO} (ha : H a = none) (hd : d ≠ a) : L2.upd (del (L2.upd (L2.upd (L2.upd H a o1) d o2) a o3) a) d o4 = L2.upd H d o4 := by
  funext b
  by_cases h1 : b = d
  · subst h1; rw [upd_same, upd_same]
  · rw [upd_ne h1, upd_ne h1]
    by_cases h2 : b = a
    · subst h2; rw [del_same, ha]
    · rw [del_ne h2, upd_ne h2, upd_ne h1, upd_ne h2]
section
variable {X : Cx}
theorem pmk_err {cn f : Str} {C : Addr} {e : Expr} {ta : TA} {p pos : Pos} {k : Nat} (T : Err X.K X.mg cn f C) (hr : Room k X.A) (hk : 2 ≤ k) (hx : Passes CX0 X (fun _ _ _ => False)) (ha : PA X [e] ta) (hg : Gl X cn)
    (hdb : (cn == ("__debug__" : Str)) = false := by decide) (he : starEach (e :: []) X.env = (false, eval e X.env) :: starEach [] X.env := by rfl) (hpl : (backTo pos (starEach [] X.env)).any (·.1) = false := by rfl) :
    PMk X (.Call (.Name cn p) [e] [] pos) (tErr C f ta) := by
  intro pins s σ H Q I h
  obtain ⟨fI, fd, iC, tI, hb, F⟩ := T.ini
  refine pmk_oex (dvs := []) (ds := []) T.T iC tI (F X.prog X.w X.base) (hr.mono hk) hb .nil hx hg T.g (pa_mono ha) hdb he hpl pins s σ H Q I ?_
  refine ⟨_, h, ?_⟩
  rintro vs H1 ⟨v, rfl, hq⟩
  refine ⟨by show 1 ≤ 1000; decide, fun a hn => ⟨a, v, rfl, upd_same, T.T, T.no, fun dx hdx hne => ⟨rfl, dx, [(f, v)], upd_same, ?_, ?_, ?_⟩⟩⟩
  · rw [upd_ne hne, upd_same]
  · rw [upd_ne hne] at hdx; exact hdx
  · rw [upd_ne hne] at hdx
    rw [upd_del hn hne]
    exact hq dx hdx
/-- raise C(e) -/
def tRaise (C : Addr) (f : Str) (W : WX) (ta : TA) : TS := fun _ σ H => tErr C f ta σ H fun cls d H' => W cls d σ H'
theorem ps_raiseE {cn f : Str} {C : Addr} {e : Expr} {ta : TA} {W : WX} {p pos pos2 : Pos} {k : Nat} (hc : X.calm = true) (T : Err X.K X.mg cn f C) (hr : Room k X.A) (hk : 2 ≤ k) (hx : Passes CX0 X (fun _ _ _ => False)) (tk : Takes X W) (ha : PA X [e] ta) (hg : Gl X cn)
    (hdb : (cn == ("__debug__" : Str)) = false := by decide) (he : starEach (e :: []) X.env = (false, eval e X.env) :: starEach [] X.env := by rfl) (hpl : (backTo pos (starEach [] X.env)).any (·.1) = false := by rfl) :
    PS X (.Raise (some (.Call (.Name cn p) [e] [] pos)) none pos2) (tRaise C f W ta) := ps_raise hc tk (pmk_err T hr hk hx ha hg hdb he hpl)
theorem pe_cX {W : WX} {j k : Nat} {x : Str} {ps : List Str} {sp : Sp} {p pos : Pos} {e : Expr} {es : List Expr} {t : TA} (c : Cal X.prog X.w X.K X.mg X.base (L2.CX X.prog X.w) j x ps sp) (hr : Room k X.A) (hjk : j ≤ k) (hg : Gl X x) (tk : Takes X W)
    (ha : PA X (e :: es) t) (hdb : (x == ("__debug__" : Str)) = false := by decide) (he : starEach (e :: es) X.env = (false, eval e X.env) :: starEach es X.env := by rfl) (hpl : (backTo pos (starEach es X.env)).any (·.1) = false := by rfl) :
    PE X (.Call (.Name x p) (e :: es) [] pos) (tCallS sp (WE W) t) := by
  obtain ⟨f, fd, F, m, kp, b⟩ := c
  exact pe_callS F (hr.mono hjk) hg m kp b (fun σ => passAt tk σ) ha hdb he hpl
end
section
variable {P : Program} {w : World} {K : PySem.W.Frag} {mg : Str → Option Value} {base : Heap}
theorem Df.okX {x : Str} {st : Stmt} {N ps : List Str} {k : Nat} {sp : Sp} (D : Df K mg x st ps) (S : FnScope N ps (defScope st)) (len : ∀ vs H Q E, sp vs H Q E → vs.length = ps.length)
    (hbody : ∀ (f : Addr) (cdv : Value) (A : Around) (outer : List Env) (s : Shared) (H : Hp) (vs : List V) (Q : VK) (E : XK), Room k (A.deeper (envOfC x (defScope st) s.heap.objs.size f cdv)) → sp vs H Q E →
      ∃ t, PSs (cxOf (L2.CX P w) P w K mg base N x (defScope st) f cdv A outer s H E) (defBody st) t ∧ t { nx := fun _ H' => Q .non H', rt := Q } (start N vs) H) : Cal P w K mg base (L2.CX P w) (k + 1) x ps sp := by
  obtain ⟨f, fd, F, m, b⟩ := D
  exact ⟨f, fd, F.okX S len (hbody f), m, F.kp, .all b⟩
end
/-! ### such a class, from the written part -/
theorem exm_own {K : PySem.W.Frag} {S : Addr} (h1 : PySem.W.subIn K (.ref S) (.type "BaseException") = some true) (h2 : PySem.W.isClsIn K S = true) (h3 : PySem.W.typeIn K (.ref S) = some (.type "type")) (h4 : PySem.W.subIn K (.ref S) (.ref S) = some true) :
    PySem.W.exmOne K (.ref S) (.ref S) = some true := by
  unfold PySem.W.isClsIn at h2
  unfold PySem.W.exmOne
  simp only [h1, h2, h3, h4]
  unfold PySem.W.kitCls
  simp [h2, h3, h4]
theorem Err.mk' {K : PySem.W.Frag} {mg : Str → Option Value} {h : Heap} {cn f q0 : Str} {C fI : Addr} {st : Stmt} {nm q : Str} {N : Addr} {bs bm : List Value} {sn : List Str} {sub : List Value} {ab : Bool} {col : Option Bool} {dd : Option Addr} {m0 m1 m2 m3 m5 : Option Value}
    {oc : Value} {od an : Option Addr} {sl : Array (Option Value)} {kV doc pm cd ct : Value} (X : K.In h) (G : h.Ns PySem.mainGlobals mg)
    (b : ∀ (kV doc pm : Value) (an : Option Addr) (cdv ct : Value) (us : List Value), us.length = (["self", f] : List Str).length → bindArgs (PySem.W.fnOf "__init__" q0 (defArgs st) (defBody st) (defScope st) .none kV doc pm an cdv ct) ⟨us, []⟩ = pure ((["self", f] : List Str).zip us))
    (ok : ∀ {fI : Addr} {fd : FuncData} (P : Program) (w : World) (base : Heap), Fun K "__init__" q0 st fI fd → FnOk P w K mg base CX0 1 fI fd ["self", f] (spInit K C f))
    (aC : PySem.W.nsIn K PySem.mainGlobals cn = some (some (.ref C)))
    (xL : K.lookup C = some (excClassObj nm q C N bs bm true sn sub ab col dd m0 m1 m2 m3 m5 "ValueError.__new__")) (rv : PySem.HandSPX.refsVE bm = true)
    (sa : PySem.W.findIn K (.ref C) "__setattr__" = some (some (.builtin "object.__setattr__"))) (ga : PySem.W.findIn K (.ref C) "__getattribute__" = some (some (.builtin "BaseException.__getattribute__"))) (gg : PySem.W.findIn K (.ref C) "__getattr__" = some none) (nb : PySem.W.findIn K (.ref C) f = some none)
    (a1 : PySem.W.findIn K (.ref C) "__init__" = some (some (.ref fI))) (t1 : PySem.W.typeIn K (.ref fI) = some (.type "function"))
    (l1 : K.lookup fI = some ⟨oc, od, .func (PySem.W.fnOf "__init__" q0 (defArgs st) (defBody st) (defScope st) .none kV doc pm an cd ct), sl⟩) (c1 : PySem.W.codeIn K cd q0 = true) (k1 : PySem.W.keepIn K (.ref fI) = true)
    (kC : PySem.W.keepIn K (.ref C) = true) (eC : PySem.W.subIn K (.ref C) (.type "BaseException") = some true) (tC : PySem.W.typeIn K (.ref C) = some (.type "type")) (hC : PySem.W.hasDictIn K C = true) (iC : PySem.W.isClsIn K C = true) (sC : PySem.W.subIn K (.ref C) (.ref C) = some true) : Err K mg cn f C where
  T := ⟨⟨nm, q, N, bs, bm, sn, sub, ab, col, dd, m0, m1, m2, m3, m5, xL, rv⟩, sa, eC, tC, kC⟩
  X := ⟨ga, gg, eC, hC⟩
  g := PySem.W.mg_of X G aC
  no := nb
  te := exm_own eC iC tC sC
  ini := ⟨fI, _, a1, t1, .all (b kV doc pm an cd ct), fun P w base => ok P w base (fun_mk l1 c1 k1)⟩
end Kb
namespace Kb
open PySem PySem.Spec PyProof.Rows L2
/-- nothing is let out -/
theorem passF {P : Program} {w : World} {X : Cx} : Passes (L2.CX P w) X (fun _ _ _ => False) := fun _ _ _ _ _ _ _ h => by
  obtain ⟨_, _, _, _, _, _, _, _, _, _, _, _, q⟩ := h
  exact q.elim
end Kb
namespace Kb
open PySem PySem.Spec PyProof.Rows L2
/-- a tuple of the written part -/
theorem sqT_of_lookup {K : PySem.W.Frag} {a : Addr} {dd : Option Addr} {its : Array Value} {n : Nat} {sl : Array (Option Value)} {xs : List V} (l : K.lookup a = some ⟨.type "tuple", dd, .seq its n, sl⟩) (z : its.size ≤ sizeLine) (v : Vals xs its.toList) : ∀ H : Hp, SqT K H a xs :=
  fun _ => .inr ⟨_, its, n, l, rfl, rfl, z, v⟩
theorem pe_gt {X : Cx} {x : Str} {pos : Pos} {a : Addr} (hg : Gl X x) (h : X.mg x = some (.ref a)) (hd : (x == ("__debug__" : Str)) = false := by decide) : PE X (.Name x pos) (tC (.ref a)) := pe_glob hg h rfl hd
end Kb

namespace Kb
open PySem PySem.Spec PyProof.Rows L2
/-! ### defs that are called while no repr is under way -/
structure FnG (P : Program) (w : World) (K : PySem.W.Frag) (mg : Str → Option Value) (base : Heap) (CX : CXT) (k : Nat) (f : Addr) (fd : FuncData) (ps : List Str) (sp : Sp) : Prop where
  len : ∀ vs H Q E, sp vs H Q E → vs.length = ps.length
  run : ∀ (A : Around) (outer : List Env) (s : Shared) (H : Hp) (args : Args) (us : List Value) (vs : List V) (Q : VK) (E : XK), A.guards = some [] → Room k A → Env0 P w K mg base A outer s H → BindsTo s fd args (ps.zip us) → Vals vs us → sp vs H Q E →
    codeAny (model P w) A (.call (.ref f) args) (CR CX outer P w H s Q E) s
section
variable {P : Program} {w : World} {K : PySem.W.Frag} {mg : Str → Option Value} {base : Heap} {CX : CXT}
theorem FnG.mono {j k : Nat} {f : Addr} {fd : FuncData} {ps : List Str} {sp : Sp} (F : FnG P w K mg base CX j f fd ps sp) (h : j ≤ k) : FnG P w K mg base CX k f fd ps sp :=
  ⟨F.len, fun A outer s H args us vs Q E hg hr => F.run A outer s H args us vs Q E hg (hr.mono h)⟩
theorem fnG_of {k : Nat} {f : Addr} {x qual : Str} {st : Stmt} {fd : FuncData} {N ps : List Str} {sp : Sp} (F : Fun K x qual st f fd) (S : FnScope N ps (defScope st)) (len : ∀ vs H Q E, sp vs H Q E → vs.length = ps.length)
    (hbody : ∀ (cdv : Value) (A : Around) (outer : List Env) (s : Shared) (H : Hp) (vs : List V) (Q : VK) (E : XK), A.guards = some [] → Room k (A.deeper (envOfC qual (defScope st) s.heap.objs.size f cdv)) → sp vs H Q E →
      ∃ t, PSs (cxOf CX P w K mg base N qual (defScope st) f cdv A outer s H E) (defBody st) t ∧ t { nx := fun _ H' => Q .non H', rt := Q } (start N vs) H) : FnG P w K mg base CX (k + 1) f fd ps sp := by
  obtain ⟨oc, od, kV, doc, pm, an, cdv, ct, osl, rfl, lk, hcd⟩ := F.ex
  refine ⟨len, fun A outer s H args us vs Q E hgd hr e0 hb r hsp => ?_⟩
  have KX : K.In s.heap := e0.mod.kin.keeps fun b o e => (e0.bs b o e).1
  have hkind : ∀ y ∈ ps.zip us, (defScope st).names.lookup y.1 = some .local ∨ ((defScope st).names.lookup y.1 = some .cell ∧ ((cellsFrom (s.heap.objs.size + 1) (defScope st).names []).lookup y.1).isSome = true) := fun ⟨n, v⟩ hy =>
    (S.par n (List.of_mem_zip hy).1).elim .inl fun q => .inr ⟨q, PySem.W.cellsFrom_some _ _ _ (.inl q)⟩
  refine codeAny_call_function hr.depth (KX _ _ lk) rfl S.co S.gen rfl (PySem.W.codeRec_of KX hcd) (hb _ _ _ _ (wpAny_newFunctionEnv_cells S.kind hkind fun env he s1 x => ?_))
  subst he
  refine ⟨(e0.mod.nolimit.keeps fun b o e => (e0.bs b o e).1).keeps x.toInCall.keep, codeAny_func ?_⟩
  obtain ⟨t, ht, hq⟩ := hbody cdv A outer s H vs Q E hgd (hr.deeper _) hsp
  refine wpAny_mono (ht.run [] s1 (start N vs) H _ (inv_start S hr.hd e0 (len _ _ _ _ hsp) r x) hq) (fun fl s' hs => ?_) fun e s' hs => hs
  cases fl with
  | ret u => obtain ⟨v, σ', H', J, rv, q⟩ := hs; exact ⟨v, H', J.os, J.bare, J.base, J.hok, rv, q⟩
  | next => obtain ⟨σ', H', J, q⟩ := hs; exact ⟨V.non, H', J.os, J.bare, J.base, J.hok, rfl, q⟩
  | brk => obtain ⟨_, _, _, q⟩ := hs; exact q.elim
  | cont => obtain ⟨_, _, _, q⟩ := hs; exact q.elim
end
/-! ### repr -/
section
variable {X : Cx}
/-- repr of what is no dict -/
def rRepr (K : PySem.W.Frag) : List V → Hp → VK → Prop := fun xs H Q => ∃ x d, xs = [x] ∧ Dp K H x d ∧ d.showable = true ∧ d.hasDict = false ∧ d.shown.length ≤ sizeLine ∧ d.depth ≤ 64 ∧ Q (.str d.shown) H
theorem call_reprD (hu : X.A.units + 65 < cLine) (hg : X.A.guards = some []) : CallR X (.builtin "repr") (rRepr X.K) := by
  intro pins s σ H xs us Q I r h
  obtain ⟨x, d, rfl, hd, hs, hn, hz, hp, q⟩ := h
  obtain ⟨u, rfl, r1⟩ := vals1 r
  obtain ⟨as, rd⟩ := Dp.reads I d x u hd r1
  have ref : ∀ a : Addr, u = .ref a → wpAny (model X.prog X.w) X.A (call (Value.builtin "repr") [u]) (EP X pins σ Q) X.xe s := fun a e => by
    subst e
    exact repr_of_reads' rd hs (fun q => by rw [hn] at q; cases q) hg (by omega) (fun _ _ e => e) (fun h' t tk k => ⟨.str d.shown, H, I.kept (t' := tk) k, ⟨t, rfl⟩, q⟩) hz
  cases rd with
  | none => simp only [PyData.shown] at q; exact PySem.P.repr_of_none ⟨.str "None", H, I.tok _, ⟨_, rfl⟩, q⟩
  | bool b => simp only [PyData.shown] at q; exact PySem.P.repr_of_bool ⟨.str (if b then "True" else "False"), H, I.tok _, ⟨_, rfl⟩, q⟩
  | int i t => simp only [PyData.shown] at q; exact PySem.P.repr_of_int (by simpa [PyData.showable] using hs) ⟨.str (toString i), H, I.tok _, ⟨_, rfl⟩, q⟩
  | str y t => simp only [PyData.shown] at q; exact PySem.P.repr_of_str ⟨.str (reprText y), H, I.tok _, ⟨_, rfl⟩, q⟩ (by simpa only [PyData.shown] using hz)
  | list h1 h2 h3 h4 => exact ref _ rfl
  | tuple h1 h2 h3 h4 => exact ref _ rfl
  | dict h1 h2 h3 h4 h5 => exact ref _ rfl
end
end Kb
namespace Kb
open PySem PySem.Spec PyProof.Rows L2
/-! ### the law's call, by such a promise: nothing but the script is tracked -/
theorem law_callG {P : Program} {w : World} {K : PySem.W.Frag} {mg mb : Str → Option Value} {CX : CXT} {k : Nat} {fa a : Addr} {fd : FuncData} {x : Str} {sp : Sp} {s₁ : Shared} {vs : List Value} {ns : List Int}
    (KX : K.In s₁.heap) (hns : s₁.heap.Ns PySem.mainGlobals mg) (hb : s₁.heap.Ns builtinsNs mb) (hbb : ∀ x : Str, x ≠ "__name__" → mb x = bootBuiltins x) (hlim : s₁.heap.NoLimit) (hg : s₁.gens = #[])
    (ha : s₁.heap.get? a = some { cls := .type "list", data := .seq vs.toArray }) (hi : IntsAre vs ns) (hl : ns.length ≤ sizeLine) (hr : Room k callerA)
    (F : ∀ base : Heap, K.In base → base.Ns PySem.mainGlobals mg → FnG P w K mg base CX k fa fd [x] sp) (hbind : ∀ (s : Shared) (u : Value), BindsTo s fd ⟨[u], []⟩ [(x, u)])
    (hsp : ∀ H : Hp, Only H → SqL K H a (ns.map V.int) → sp [.ref a] H (fun v _ => v = .bl true) fun _ _ _ => False)
    (hCX : ∀ H e s', CX [] H s₁ (fun _ _ _ => False) e s' → False) :
    codeAny (model P w) callerA (.call (.ref fa) ⟨[.ref a], []⟩) (fun r s' => r = .ok (.ret (.bool true)) ∧ OldK s₁.heap s'.heap ∧ s'.os = s₁.os ∧ AllBare s'.gens) s₁ := by
  have rv := vals_ints hi
  have core : ∀ H : Hp, Only H → SqL K H a (ns.map V.int) → HOk P w H s₁.heap → (∀ b, H b ≠ none → b = a) → (H a ≠ none → K.lookup a = none) →
      codeAny (model P w) callerA (.call (.ref fa) ⟨[.ref a], []⟩) (fun r s' => r = .ok (.ret (.bool true)) ∧ OldK s₁.heap s'.heap ∧ s'.os = s₁.os ∧ AllBare s'.gens) s₁ := by
    intro H hO hS hok hA hK
    have one : ∀ b, b ≠ a → H b = none := fun b n => Classical.byContradiction fun q => n (hA b q)
    have dicts : ∀ {b : Addr} {o : Obj} {es : Array DictEntry} {ep : Nat}, s₁.heap.get? b = some o → o.data = .dict es ep → b ≠ a := fun {b o es ep} e d q => by
      subst q
      rw [ha] at e
      cases e
      cases (show Data.seq vs.toArray _ = Data.dict es ep from d)
    have spaces : ∀ {b : Addr} {m : Str → Option Value}, s₁.heap.Ns b m → (hidT s₁.heap H).Ns b m := fun ⟨o, es, ep, e, d, r⟩ => ⟨o, es, ep, hidT_get e (one _ (dicts e d)), d, r⟩
    have kin : K.In (hidT s₁.heap H) := fun b o e => hidT_get (KX b o e) (Classical.byContradiction fun q => by
      have e2 : b = a := hA b q
      subst e2
      rw [hK q] at e
      cases e)
    obtain ⟨mc, l1, l2⟩ := hlim
    refine codeAny_mono ((F _ kin (spaces hns)).run callerA [] s₁ H ⟨[.ref a], []⟩ [.ref a] [.ref a] _ _ rfl hr
      ⟨rfl, ⟨kin, spaces hns, ⟨mb, spaces hb, hbb⟩, ⟨mc, spaces l1, l2⟩⟩, fun b o e => of_hidT e, Nat.le_of_eq (hidT_size _ _), trivial, fun b hb => absurd (show b ∈ ([] : List Addr) from hb) (by simp), hok, .of_eq hg⟩
      (hbind s₁ (.ref a)) (.cons rfl .nil) (hsp H hO hS)) fun r s' h => ?_
    match r, h with
    | .error e, h => exact (hCX H e s' h).elim
    | .ok (.ret u), ⟨v, H', os, bare, un, hok', r', q⟩ =>
      cases (show v = .bl true from q)
      cases (show u = Value.bool true from r')
      refine ⟨rfl, OldK.of_keep fun b o e => ?_, os, bare⟩
      rcases hO b with z | ⟨ob, xs, z⟩
      · exact un.keep b o e z (fun y => absurd (show b ∈ ([] : List Addr) from y) (by simp)) (by simp)
      · obtain ⟨e1, _⟩ := hok b _ z
        obtain ⟨e2, _⟩ := hok' b _ (un.frzs b ob _ z)
        rw [e] at e1
        cases e1
        exact e2
  cases hk : K.lookup a with
  | some o =>
    have e := KX a o hk
    rw [ha] at e
    cases e
    exact core (fun _ => none) (fun _ => .inl rfl) (.inr ⟨_, vs.toArray, _, hk, rfl, rfl, rfl, by rw [List.size_toArray, hi.length]; exact hl, by simpa using rv⟩) (fun b u z => nomatch (show (none : Option HO) = some u from z)) (fun b z => absurd rfl z) fun z => absurd rfl z
  | none =>
    have at' : ∀ b, b ≠ a → (if b = a then some (HO.frz { cls := .type "list", data := .seq vs.toArray } (.lst (ns.map V.int))) else none) = none := fun b n => if_neg n
    refine core (fun b => if b = a then some (.frz { cls := .type "list", data := .seq vs.toArray } (.lst (ns.map V.int))) else none) (fun b => ?_) (.inl (.inr ⟨{ cls := .type "list", data := .seq vs.toArray }, if_pos rfl⟩)) (fun b u z => ?_) (fun b z => Classical.byContradiction fun n => z (at' b n)) fun _ => hk
    · by_cases hb : b = a
      · exact .inr ⟨_, _, if_pos hb⟩
      · exact .inl (at' b hb)
    · by_cases hb : b = a
      · subst hb
        cases (if_pos rfl).symm.trans z
        exact ⟨ha, by rw [List.length_map]; exact hl, vs, _, rv, ha⟩
      · cases (at' b hb).symm.trans z
theorem walkG {l : PySem.W.OpenLaw} {n k : Nat} {q : Program} {loose : List Str} {XP : (Str → Option Value) → Heap → Prop} {YP : World → Heap → Prop} {d : DefRec} {K : Params → PySem.W.Frag} {CX : World → CXT} {sp : World → Sp} {x : Str}
    (hn : l.most = some n) (hn2 : n ≤ sizeLine) (hdf : d.params.defaults = []) (hr : Room k callerA) (hY : ∀ (w : World) (h : Heap), YP w h → (K w.params).In h)
    (F : ∀ (w : World) (mg : Str → Option Value) (fa : Addr) (h : Heap), (K w.params).In h → h.Ns PySem.mainGlobals mg → mg d.name = some (.ref fa) →
      ∃ fd : FuncData, (∀ (s : Shared) (u : Value), BindsTo s fd ⟨[u], []⟩ [(x, u)]) ∧
        ∀ base : Heap, (K w.params).In base → base.Ns PySem.mainGlobals mg → FnG l.prog w (K w.params) mg base (CX w) k fa fd [x] (sp w))
    (hsp : ∀ (w : World) (H : Hp) (a : Addr) (ns : List Int), ns.length ≤ n → Only H → SqL (K w.params) H a (ns.map V.int) → sp w [.ref a] H (fun v _ => v = .bl true) fun _ _ _ => False)
    (hCX : ∀ (w : World) (H : Hp) (s : Shared) (e : Value) (s' : Shared), CX w [] H s (fun _ _ _ => False) e s' → False) :
    PySem.W.WalkO q loose XP YP l.row.toRowW d [] (fun f vs => PySem.call f vs) := by
  refine Att.attach_call hn hdf fun w s₀ s₁ mg mb fa o pm cd doc a vs ns G Y ho hd hcd hmg hobj hints hlen hg => ?_
  have KX := hY w _ Y
  obtain ⟨fd, hb, hF⟩ := F w mg fa _ KX G.T.g hmg
  exact law_callG KX G.T.g G.T.b G.T.builtins G.T.nolimit hg hobj hints (Nat.le_trans hlen hn2) hr hF hb (fun H hO hS => hsp w H a ns hlen hO hS) fun H e s' => hCX w H s₁ e s'
end Kb
namespace Kb
open PySem PySem.Spec PyProof.Rows L2
theorem repr_u {k : Nat} {A : Around} (hr : Room k A) : A.units + 65 < cLine := by have := hr.un; omega
theorem Fun.okG {P : Program} {w : World} {K : PySem.W.Frag} {mg : Str → Option Value} {base : Heap} {k : Nat} {f : Addr} {x qual : Str} {st : Stmt} {fd : FuncData} {N ps : List Str} {sp : Sp} (F : Fun K x qual st f fd) (S : FnScope N ps (defScope st)) (len : ∀ vs H Q E, sp vs H Q E → vs.length = ps.length)
    (hbody : ∀ (cdv : Value) (A : Around) (outer : List Env) (s : Shared) (H : Hp) (vs : List V) (Q : VK) (E : XK), A.guards = some [] → Room k (A.deeper (envOfC qual (defScope st) s.heap.objs.size f cdv)) → sp vs H Q E →
      ∃ t, PSs (cxOf CX0 P w K mg base N qual (defScope st) f cdv A outer s H E).nox (defBody st) t ∧ t { nx := fun _ H' => Q .non H', rt := Q } (start N vs) H) : FnG P w K mg base CX0 (k + 1) f fd ps sp :=
  fnG_of F S len fun cdv A outer s H vs Q E hg hr h => let ⟨t, a, q⟩ := hbody cdv A outer s H vs Q E hg hr h; ⟨t, a.nox, q⟩
end Kb
namespace Kb
open PySem PySem.Spec PyProof.Rows L2 TL
/-! ### a text times a number -/
def rMulS : R2 := fun x y H Q => ∃ (a : Str) (n : Int), x = .str a ∧ y = .int n ∧ n ≤ 4000 ∧ 0 ≤ n ∧ a.length ≤ 4000 ∧ ∀ z : Str, tl z = (List.replicate n.toNat (tl a)).flatten → Q (.str z) H
theorem foldl_app (c : Array Nat) : ∀ (m : Nat) (acc : Array Nat), ((List.replicate m c).foldl (· ++ ·) acc).toList = acc.toList ++ (List.replicate m c.toList).flatten
  | 0, acc => by simp
  | m + 1, acc => by
    rw [List.replicate_succ, List.foldl_cons, foldl_app c m, List.replicate_succ, List.flatten_cons, Array.toList_append, List.append_assoc]
theorem op_mulS {X : Cx} : OpR X (binaryOp .Mult) rMulS := by
  intro pins s σ H x y v u Q I rx ry h
  obtain ⟨a, n, rfl, rfl, h1, h2, h3, q⟩ := h
  obtain ⟨t, rfl⟩ := rx
  obtain ⟨t2, rfl⟩ := ry
  have hz : a.length * n.toNat ≤ 4000 * 4000 := Nat.mul_le_mul h3 (by omega)
  have hline : sizeLine = 16777216 := sizeLine_eq
  refine PySem.P.mul_str (by rw [decide_eq_false (by omega), decide_eq_false (by omega)]; rfl) (fun h4 _ h5 => ?_) (fun _ _ => ?_) ?_
  · have h6 : (4000 : Int) ≤ (2 ^ 63 - 1) / n := Int.le_ediv_of_mul_le (by omega) (by omega)
    omega
  · unfold Builtin.Str.tooLong
    rw [hline]
    exact decide_eq_false (by omega)
  · by_cases hn : n < 1
    · rw [if_pos hn]
      have e : n = 0 := by omega
      subst e
      exact ⟨by decide, .str Str.empty, H, I.tok _, ⟨_, rfl⟩, q Str.empty rfl⟩
    · rw [if_neg hn]
      by_cases h5 : (n == 1 || a.length == 0) = true
      · rw [if_pos h5]
        refine ⟨.str a, H, I, ⟨_, rfl⟩, q a ?_⟩
        rw [Bool.or_eq_true, beq_iff_eq, beq_iff_eq] at h5
        rcases h5 with rfl | h5
        · simp
        · rw [len_tl] at h5
          rw [List.eq_nil_of_length_eq_zero h5]; simp
      · rw [if_neg h5]
        refine ⟨?_, .str ⟨(List.replicate n.toNat a.cps).foldl (· ++ ·) #[]⟩, H, I.tok _, ⟨_, rfl⟩, q _ ?_⟩
        · rw [hline, len_tl]
          show (((List.replicate n.toNat a.cps).foldl (· ++ ·) #[]).toList).length ≤ _
          rw [foldl_app]
          have : ((List.replicate n.toNat a.cps.toList).flatten).length = n.toNat * a.length := by
            rw [PyProof.Rows.lm_len_rep_flat]; rfl
          simp only [Array.toList_empty, List.nil_append]
          rw [this, Nat.mul_comm]
          omega
        · show (((List.replicate n.toNat a.cps).foldl (· ++ ·) #[]).toList) = _
          rw [foldl_app]
          rfl
end Kb

namespace Kb
open PySem PySem.Spec PyProof.Rows L2 LamX
/-! ### lambdas whose parameters all have defaults, handed to a def -/
/-- the defaults' object -/
def Dfl (H : Hp) (ds : List V) (dV : Value) : Prop := (ds = [] ∧ dV = .none) ∨ ∃ t : Addr, ds ≠ [] ∧ dV = .ref t ∧ H t = some (.tup ds)
abbrev lamO (q : Str) (params : Arguments) (body : Expr) (scope : Scope) (cl : List (Str × Addr)) (dV doc pm : Value) (c' : Addr) (ctv : Value) : Obj :=
  PySem.W.kdv_obj "<lambda>" q params (.expr body) scope cl dV doc pm c' ctv
/-- how it binds where nothing is handed in -/
def LamB (params : Arguments) (body : Expr) (scope : Scope) (ps : List Str) (ds : List V) : Prop :=
  (ds = [] ∧ ps = [] ∧ ∀ (q : Str) (cl : List (Str × Addr)) (doc pm cv ctv : Value), bindArgs (PySem.W.kdv_fn "<lambda>" q params (.expr body) scope cl .none doc pm cv ctv) ⟨[], []⟩ = pure []) ∨
  (ds.length = ps.length ∧ ds ≠ [] ∧ ∀ (q : Str) (cl : List (Str × Addr)) (t : Addr) (doc pm cv ctv : Value) (its : List Value), its.length = ds.length →
    ∃ k, bindArgs (PySem.W.kdv_fn "<lambda>" q params (.expr body) scope cl (.ref t) doc pm cv ctv) ⟨[], []⟩ = seqItems? (.ref t) >>= k ∧ k (some its.toArray) = pure (ps.zip its))
/-- its names: own parameters (none of them a name of the maker), captured ones, globals -/
structure LamP (N : List Str) (sc scope : Scope) (ps : List Str) : Prop where
  kind : scope.kind = .function
  co : scope.isCoroutine = false
  gen : scope.isGenerator = false
  own : ∀ y ∈ scope.names, y.2 ≠ .cell
  loc : ∀ y ∈ scope.names, y.2 = .local → y.1 ∉ N
  par : ∀ x ∈ ps, scope.names.lookup x = some .local
  free : ∀ y ∈ scope.names, y.2 = .free → sc.names.lookup y.1 = some .cell ∨ sc.names.lookup y.1 = some .free
def lamPB (N : List Str) (sc scope : Scope) (ps : List Str) : Bool :=
  decide (scope.kind = .function) && (!scope.isCoroutine && (!scope.isGenerator && ((scope.names.all fun y => !decide (y.2 = .cell)) && ((scope.names.all fun y => !decide (y.2 = .local) || !decide (y.1 ∈ N)) &&
    ((ps.all fun x => decide (scope.names.lookup x = some .local)) && (scope.names.all fun y => !decide (y.2 = .free) || (decide (sc.names.lookup y.1 = some .cell) || decide (sc.names.lookup y.1 = some .free))))))))
theorem lamP_by {N : List Str} {sc scope : Scope} {ps : List Str} (h : lamPB N sc scope ps = true) : LamP N sc scope ps := by
  unfold lamPB at h
  simp only [Bool.and_eq_true, Bool.or_eq_true, Bool.not_eq_true', decide_eq_true_eq, decide_eq_false_iff_not, List.all_eq_true] at h
  obtain ⟨g1, g2, g3, g4, g5, g6, g7⟩ := h
  refine ⟨g1, g2, g3, fun y hy => g4 y hy, fun y hy e => (g5 y hy).elim (fun z => absurd e z) id, g6, fun y hy e => ?_⟩
  rcases g7 y hy with z | z
  · exact absurd e z
  · exact z
theorem LamP.has {X : Cx} {N : List Str} {scope : Scope} {ps : List Str} (L : LamP N X.env.scope scope ps) (ok : X.Ok) : ∀ y ∈ scope.names, y.2 = .free → ∃ c, X.env.cells.lookup y.1 = some c :=
  fun y hy e => ok.has _ (L.free y hy e)
section
variable {X : Cx} {pins : List (Addr × Obj)} {σ : L2.St} {H : Hp} {s : Shared}
/-- made, its defaults at dV -/
theorem lam_tail {T : List (Addr × Str)} {c P : Addr} {params : Arguments} {body : Expr} {scope : Scope} {pos : Pos} {E Q : Value → Shared → Prop} {dV : Value} (I : Inv X pins σ H s) (TB : TabB X.base X.mg c P) (hcode : X.env.code = .ref c)
    (hm : (P, X.env.qual ++ "<lambda>") ∈ T) (hu : ∀ p ∈ T, p.1 = P → p.2 = X.env.qual ++ "<lambda>") (hT : Tabs T H) (hfree : ∀ y ∈ scope.names, y.2 = .free → ∃ c, X.env.cells.lookup y.1 = some c)
    (h : ∀ (f c' : Addr) (doc pm ctv : Value) (H1 : Hp) (s' : Shared), Inv X pins σ H1 s' → ExtN H H1 → Tabs T H1 → s'.heap.get? f = some (lamO (X.env.qual ++ "<lambda>") params body scope (cloFrom X.env.cells scope.names []) dV doc pm c' ctv) →
      H1 f = none → f ∉ frs X.stack → H1 c' = some (CodeO c' (X.env.qual ++ "<lambda>")) → Q (.ref f) s') :
    wpAny (model X.prog X.w) X.A (makeTail "<lambda>" (X.env.qual ++ "<lambda>") params (.expr body) scope X.env dV .none none pos pos.line) Q E s := by
  generalize hq : X.env.qual ++ "<lambda>" = q at *
  obtain ⟨ps, hP, ht, ha⟩ := hT _ hm
  have bP := TB.bm.keeps I.bk
  have gP : s.heap.get? P = some (PySem.W.tabObj ps) := I.hok P _ hP
  have out : ∀ f, s.heap.objs.size ≤ f → f ∉ frs X.stack := fun f hf z => (List.mem_cons.mp (I.stkSub _ z)).elim (fun e => by
    have lt := I.lt
    rw [← e] at lt
    exact Nat.lt_irrefl _ (Nat.lt_of_lt_of_le lt hf)) fun e => I.nofs hf e
  cases hc : codeAmong pos ps.toList with
  | some cv =>
    obtain ⟨c', rfl, hco⟩ := ha pos cv hc
    refine PySem.W.kdv_makeTailHit (closure_ok hfree) I.ok.glob (I.mod.glob.keeps I.bk) hcode (TB.code.keeps I.bk) gP ht hc bP fun ctv doc h' tk hx hsz => ?_
    exact h h'.objs.size c' doc _ ctv H _ (I.kept fun b o e => Heap.get?_push_of_some _ (hx b o e)) (ExtN.refl H) hT (Heap.get?_push_size _ rfl) (I.hok.fresh hsz) (out _ hsz) hco
  | none =>
    refine PySem.W.kdv_makeTail (closure_ok hfree) I.ok.glob (I.mod.glob.keeps I.bk) hcode (TB.code.keeps I.bk) gP ht hc TB.gP bP fun c' ctv doc h' tk hx hge hlt hrec htb => ?_
    obtain ⟨c2, oc, vs, t, e2, hoc, hd, hv⟩ := hrec
    cases e2
    have hsz := Nat.le_trans hge (Nat.le_of_lt hlt)
    have nC : H c' = none := I.hok.fresh hge
    have I1 := inv_table (q := q) (t' := tk) (more := #[rawInt pos.line, rawInt pos.col, .ref c']) (h' := h'.push (lamO q params body scope (cloFrom X.env.cells scope.names []) dV doc ((X.mg "__name__").getD .none) c' ctv)) I hP
      (fun b o hb e => Heap.get?_push_of_some _ (hx b o hb e)) (Heap.get?_push_of_some _ htb) hge ⟨oc, vs, t, Heap.get?_push_of_some _ hoc, hd, hv⟩
    have hE : ExtN H (upd (upd H P (.tbl (ps ++ #[rawInt pos.line, rawInt pos.col, .ref c']))) c' (CodeO c' q)) := fun b o e n => by
      have n1 := ne_of_none e nC
      have n2 : b ≠ P := fun z => n ps (by rw [z, hP] at e; exact (Option.some.inj e).symm)
      rw [upd_ne n1, upd_ne n2, e]
    have more : (ps ++ #[rawInt pos.line, rawInt pos.col, .ref c']).toList = ps.toList ++ [rawInt pos.line, rawInt pos.col, .ref c'] := by simp
    refine h h'.objs.size c' doc _ ctv _ _ I1 hE (fun p hp => ?_) (Heap.get?_push_size _ rfl) ?_ (out _ hsz) upd_same
    · by_cases hb : p.1 = P
      · rw [hu p hp hb, hb]
        refine ⟨_, (upd_ne (ne_of_none hP nC)).trans upd_same, ?_, fun p' cv hcv => ?_⟩
        · rw [more]; exact PySem.TriplesOk_snoc _ _ _ _ ht
        · rw [more] at hcv
          rcases among_app _ ht hcv with z | z
          · obtain ⟨c0, e1, e2⟩ := ha p' cv z
            exact ⟨c0, e1, hE _ _ e2 codeO_ne⟩
          · exact ⟨c', z, upd_same⟩
      · obtain ⟨qs, a1, a2, a3⟩ := hT p hp
        refine ⟨qs, (upd_ne (ne_of_none a1 nC)).trans ((upd_ne hb).trans a1), a2, fun p' cv hcv => ?_⟩
        obtain ⟨c0, e1, e2⟩ := a3 p' cv hcv
        exact ⟨c0, e1, hE _ _ e2 codeO_ne⟩
    · have n2 : h'.objs.size ≠ P := Nat.ne_of_gt (Nat.lt_of_lt_of_le (Heap.lt_size gP) hsz)
      rw [upd_ne (Nat.ne_of_gt hlt), upd_ne n2]
      exact I.hok.fresh hsz
/-- what stands in the place of the defaults: nothing, or one number -/
def DefE (es : List Expr) (ds : List V) : Prop := (es = [] ∧ ds = []) ∨ ∃ (z : Int) (j : Nat) (p : Pos), es = [.Constant (.int z) j p] ∧ ds = [.int z]
theorem lam_new {T : List (Addr × Str)} {c P : Addr} {params : Arguments} {body : Expr} {scope : Scope} {pos : Pos} {E Q : Value → Shared → Prop} {ds : List V} (I : Inv X pins σ H s) (TB : TabB X.base X.mg c P) (hcode : X.env.code = .ref c)
    (hm : (P, X.env.qual ++ "<lambda>") ∈ T) (hu : ∀ p ∈ T, p.1 = P → p.2 = X.env.qual ++ "<lambda>") (hT : Tabs T H) (hfree : ∀ y ∈ scope.names, y.2 = .free → ∃ c, X.env.cells.lookup y.1 = some c) (hk0 : params.kw_defaults = []) (hde : DefE params.defaults ds) (hE : E = X.xe)
    (h : ∀ (f c' : Addr) (dV doc pm ctv : Value) (H1 : Hp) (s' : Shared), Inv X pins σ H1 s' → ExtN H H1 → Tabs T H1 → s'.heap.get? f = some (lamO (X.env.qual ++ "<lambda>") params body scope (cloFrom X.env.cells scope.names []) dV doc pm c' ctv) →
      H1 f = none → f ∉ frs X.stack → H1 c' = some (CodeO c' (X.env.qual ++ "<lambda>")) → Dfl H1 ds dV → Q (.ref f) s') :
    wpAny (model X.prog X.w) X.A (eval (.Lambda params body scope pos) X.env) Q E s := by
  rcases hde with ⟨he, rfl⟩ | ⟨z, j, p, he, rfl⟩
  · refine PySem.W.kla_eval (by rw [defaultsOf_eq, he, hk0]; rfl) ?_
    rw [makeFunction_eq]
    simp only [List.zip_nil_right, List.filterMap_nil, List.isEmpty_nil, if_true, pure_bind]
    exact lam_tail I TB hcode hm hu hT hfree fun f c' doc pm ctv H1 s' I1 e1 T1 h1 h2 h3 h4 => h f c' .none doc pm ctv H1 s' I1 e1 T1 h1 h2 h3 h4 (.inl ⟨rfl, rfl⟩)
  · refine PySem.W.kdv_lam (by rw [he]; rfl) hk0 ?_
    rw [he]
    refine PySem.W.kdv_all1 ?_
    subst hE
    refine thn ((pe_int (X := X) (i := z)).run pins s σ H (fun v H1 => v = .int z ∧ H1 = H) I ⟨rfl, rfl⟩) fun u s1 ⟨v, H1, I1, r1, q1, q2⟩ => PySem.W.kdv_all0 ?_
    subst q1 q2
    rw [makeFunction_eq]
    simp only [List.zip_nil_right, List.filterMap_nil, List.isEmpty_nil, if_true, pure_bind, List.isEmpty_cons, Bool.false_eq_true, if_false]
    refine wpAny_bind (wpAny_newTextTuple ?_)
    have nt : H1 s1.heap.objs.size = none := I1.hok.fresh (Nat.le_refl _)
    have I2 : Inv X pins σ (upd H1 s1.heap.objs.size (.tup [.int z])) { s1 with heap := s1.heap.push { cls := .type "tuple", data := .seq [u].toArray } } :=
      I1.laid (t' := s1.toks) (fun b o e => Heap.get?_push_of_some _ e) (Nat.le_refl _) (show ObjOk X.prog X.w _ _ _ (.tup [.int z]) from ⟨by show 1 ≤ _; decide, [u], .cons r1 .nil, IsTup.new _ _⟩)
    have ex : ∀ b o, H1 b = some o → (upd H1 s1.heap.objs.size (.tup [.int z])) b = some o := fun b o e => by rw [upd_ne (ne_of_none e nt)]; exact e
    exact lam_tail I2 TB hcode hm hu (hT.ext ex) hfree fun f c' doc pm ctv H3 s' I3 e3 T3 h1 h2 h3 h4 => h f c' _ doc pm ctv H3 s' I3 ((ExtN.of ex).trans e3) T3 h1 h2 h3 h4 (.inr ⟨_, by simp, rfl, e3 _ _ upd_same fun qs z => by cases z⟩)
end
end Kb
namespace Kb
open PySem PySem.Spec PyProof.Rows L2 LamX
section
variable {X : Cx} {pins : List (Addr × Obj)} {σ : L2.St} {H HZ : Hp} {s s1 : Shared}
/-- its body is entered -/
theorem lam_enter {A : Around} {outer : List Env} {E : XK} {scope : Scope} {f c' : Addr} {h₁ : Heap} {tk : Nat} {ps : List Str} {m : Str → Option Value} (I : Inv X pins σ H s) (L : LamP X.N X.env.scope scope ps) (e0 : Env0 X.prog X.w X.K X.mg X.base A outer s1 HZ) (hd : A.handled = none)
    (un : Un (frs X.stack) [] H HZ s.heap s1.heap) (hns : h₁.Ns s1.heap.objs.size m) (kp : ∀ b o, s1.heap.get? b = some o → h₁.get? b = some o) :
    Inv (lamCx X A outer s1 HZ E scope f c') [] σ HZ { s1 with heap := h₁, toks := tk } := by
  have cells : ∀ {y c}, (cloFrom X.env.cells scope.names []).lookup y = some c → X.env.cells.lookup y = some c := fun {y c} e => by
    rcases cloFrom_mem (PySem.mem_of_lookup e) with z | ⟨h1, h2⟩
    · cases z
    · obtain ⟨c1, hc⟩ := L.has I.ok _ h1 rfl
      have hc : X.env.cells.lookup y = some c1 := hc
      rw [hc]
      have : c = c1 := by rw [h2, hc]; rfl
      rw [this]
  have look : ∀ {y}, scope.names.lookup y = some .free → ∃ c, (cloFrom X.env.cells scope.names []).lookup y = some c := fun {y} hl =>
    mem_lookup (cloFrom_has (cells := X.env.cells) (acc := []) (PySem.mem_of_lookup hl : (y, NameKind.free) ∈ scope.names))
  have keepC : ∀ {c : Addr} {v : Option Value}, H c = none → s.heap.IsCell c v → h₁.IsCell c v := fun {c v} n ⟨o, ho, hd⟩ => by
    obtain ⟨sl, q⟩ := un.any ho n (by simp)
    exact ⟨_, kp _ _ q, hd⟩
  have nex : ∀ b : Addr, b ∉ (lamCx X A outer s1 HZ E scope f c').ex := fun b z => nomatch (show b ∈ ([] : List Addr) from z)
  have okC : (lamCx X A outer s1 HZ E scope f c').Ok := by
    refine ⟨e0.mod, L.kind, rfl, rfl, Nat.le_refl _, fun y z c e1 e2 => I.ok.inj y z c (cells e1) (cells e2), fun y hy => ?_, fun y c z _ => ?_, fun _ => hd, Around.frames_deeper e0.frames, .inr ⟨rfl, rfl⟩, fun b z => absurd z (nex b),
      e0.bs, e0.bsz, fun b _ _ => nex b, fun b z => absurd z (nex b), e0.funs, e0.frf⟩
    · have hy : scope.names.lookup y = some .cell ∨ scope.names.lookup y = some .free := hy
      rcases hy with hy | hy
      · exact absurd rfl (L.own _ (PySem.mem_of_lookup hy))
      · exact look hy
    · cases (show false = true from z)
  refine ⟨okC, rfl, e0.bare, Un.kept kp, ⟨_, hns, fun i y v e1 e2 e3 => ?_⟩, fun y c e => ?_, e0.hok.fresh (Nat.le_refl _), fun y c e => ?_, fun q hq => (nomatch (show q ∈ ([] : List (Addr × Obj)) ++ [] from hq)), e0.hok.kept kp, I.len⟩
  · have e3 : Vis scope y := e3
    rcases e3 with k | k | k
    · exact absurd (List.mem_of_getElem? (show X.N[i]? = some y from e1)) (L.loc _ (PySem.mem_of_lookup k) rfl)
    · exact absurd rfl (L.own _ (PySem.mem_of_lookup k))
    · obtain ⟨m, hn, hl⟩ := I.loc
      have vis : Vis X.env.scope y := by
        rcases L.free _ (PySem.mem_of_lookup k) rfl with k | k
        · exact .inr (.inl k)
        · exact .inr (.inr k)
      obtain ⟨w', r, q⟩ := hl i y v e1 e2 vis
      obtain ⟨c2, h2⟩ := look k
      have c1 := cells h2
      refine ⟨w', r, .inr ⟨.inr k, c2, h2, ?_⟩⟩
      rcases q with ⟨k', _⟩ | ⟨_, c3, e', z⟩
      · have k' : X.env.scope.names.lookup y = some .local := k'
        exact (L.free _ (PySem.mem_of_lookup k) rfl).elim (fun k2 => by have k2 : X.env.scope.names.lookup y = some .cell := k2; rw [k'] at k2; cases k2) fun k2 => by have k2 : X.env.scope.names.lookup y = some .free := k2; rw [k'] at k2; cases k2
      · rw [c1] at e'
        cases e'
        exact keepC (I.freeC y _ c1) z
  · obtain ⟨w', z⟩ := I.cell y c (cells e)
    exact ⟨w', keepC (I.freeC y c (cells e)) z⟩
  · obtain ⟨v, o, ho, hd⟩ := I.cell y c (cells e)
    exact un.free c o ho (I.freeC y c (cells e)) (by simp)
/-- what a reading says of a lambda: what may be raised, the heap, what is wanted -/
abbrev LT := XK → Hp → VK → Prop
/-- the lambda is called: E holds what it raises -/
def tAct (f : Addr) (ok : Hp → Prop) (tl : LT) (W : WX) : TE := fun σ H Q => σ[0]? = some (some (.ref f)) ∧ ok H ∧ ∃ (E : XK) (Q0 : VK), (∀ cls d H', E cls d H' → W cls d σ H') ∧ (∀ v H', Q0 v H' → Q v H') ∧ tl E H Q0
/-- the frame of a def that calls what it got -/
abbrev gCx (P : Program) (w : World) (K : PySem.W.Frag) (mg : Str → Option Value) (base : Heap) (N : List Str) (x : Str) (sg : Scope) (g : Addr) (cdg : Value) (A : Around) (outer : List Env) (s : Shared) (H : Hp) : Cx :=
  cxOf CX0 P w K mg base N x sg g cdg A outer s H fun _ _ _ => False
theorem lam_act {Ng : List Str} {qg : Str} {sg : Scope} {g f c' : Addr} {cdg dV doc pm ctv : Value} {params : Arguments} {body : Expr} {scope : Scope} {k : Nat} {a : Str} {pn : List (Addr × Obj)} {xe : Value → Shared → Prop} {W : WX} {tb : XK → TE} {p1 p2 : Pos} {ps : List Str} {ds : List V}
    (I : Inv X pins σ H s) (L : LamP X.N X.env.scope scope ps) (B : LamB params body scope ps ds) (hf : s.heap.get? f = some (lamO (X.env.qual ++ "<lambda>") params body scope (cloFrom X.env.cells scope.names []) dV doc pm c' ctv)) (hfn : H f = none) (hfr : f ∉ frs X.stack)
    (hc0 : H c' = some (CodeO c' (X.env.qual ++ "<lambda>")))
    (tk : Takes ((gCx X.prog X.w X.K X.mg X.base Ng qg sg g cdg X.A X.stack s H).tr pn xe) W) (hr : Room (k + 1) (X.A.deeper (envOfC qg sg s.heap.objs.size g cdg)))
    (hbody : ∀ (A : Around) (outer : List Env) (s : Shared) (H : Hp) (E : XK), A.guards = X.A.guards → Room k (A.deeper (lamEnv X scope s.heap.objs.size f c')) → PE (lamCx X A outer s H E scope f c') body (tb E))
    (hN : Ng[0]? = some a) (hv : Vis sg a) (hd : (a == ("__debug__" : Str)) = false := by decide) (hcd : (a == ("__classdict__" : Str)) = false := by decide) :
    PE ((gCx X.prog X.w X.K X.mg X.base Ng qg sg g cdg X.A X.stack s H).tr pn xe) (.Call (.Name a p1) [] [] p2)
      (tAct f (fun HZ => HZ c' = some (CodeO c' (X.env.qual ++ "<lambda>")) ∧ Dfl HZ ds dV) (fun E H' Q' => tb E σ H' Q') W) := by
  refine ⟨fun pinsZ sZ σZ HZ Q IZ ⟨hs, ⟨hc, hD⟩, E, Q0, hW, hQ, ht⟩ => ?_⟩
  refine wpAny_Call_Name_kw (thn ((pe_var (pos := p1) (i := 0) hN hv hd hcd).run pinsZ sZ σZ HZ (fun v H1 => v = .ref f ∧ H1 = HZ) IZ ⟨.ref f, hs, rfl, rfl⟩) fun u s1 ⟨v, H1, I1, r1, q1, q2⟩ => ?_)
  subst q1 q2
  obtain rfl : u = Value.ref f := r1
  have of1 := I1.base.keep f _ hf hfn hfr (fun z => nomatch (show f ∈ ([] : List Addr) from z))
  refine PySem.W.callWith_F0 ⟨_, _, _, _, of1⟩ ?_
  have un : Un (frs X.stack) [] H H1 s.heap s1.heap := I1.base
  obtain ⟨⟨oc, vs, t, hoc, hdc, hvc⟩, _, _⟩ := I1.hok c' _ hc
  obtain ⟨us, hb, hloc⟩ : ∃ us : List Value, BindsTo s1 (PySem.W.kdv_fn "<lambda>" (X.env.qual ++ "<lambda>") params (.expr body) scope (cloFrom X.env.cells scope.names []) dV doc pm (.ref c') ctv) ⟨[], []⟩ (ps.zip us) ∧ ∀ y ∈ ps.zip us, scope.names.lookup y.1 = some .local := by
    rcases B with ⟨e1, e2, e3⟩ | ⟨l1, n1, e3⟩
    · subst e1 e2
      have hdv : dV = .none := by
        rcases hD with ⟨_, z⟩ | ⟨t, z, _⟩
        · exact z
        · exact absurd rfl z
      subst hdv
      exact ⟨[], .of_eq (e3 _ _ _ _ _ _), fun y hy => nomatch hy⟩
    · rcases hD with ⟨z, _⟩ | ⟨t, _, rfl, hz⟩
      · exact absurd z n1
      · obtain ⟨_, its, hv, o, ho, _, n, hdat⟩ := I1.hok t _ hz
        obtain ⟨k, k1, k2⟩ := e3 (X.env.qual ++ "<lambda>") (cloFrom X.env.cells scope.names []) t doc pm (.ref c') ctv its hv.length.symm
        exact ⟨its, BindsTo.of_defaults rfl ho hdat k1 k2, fun y hy => L.par _ (List.of_mem_zip hy).1⟩
  have rc : codeAny (model X.prog X.w) (X.A.deeper (envOfC qg sg s.heap.objs.size g cdg)) (.call (.ref f) ⟨[], []⟩) (CR (L2.CX X.prog X.w) (envOfC qg sg s.heap.objs.size g cdg :: X.stack) X.prog X.w H1 s1 Q0 E) s1 := by
    refine PySem.W.kla_callFunE hr.depth of1 rfl L.co L.gen rfl ⟨c', oc, vs, t, rfl, hoc, hdc, hvc⟩ (hb _ _ _ _ (wpAny_newFunctionEnv L.own hloc (fun h₁ hns hsb => ⟨I1.nolimit.fresh _ hsb, ?_⟩) L.kind))
    show codeAny _ _ (.expr body (lamEnv X scope s1.heap.objs.size f c')) _ _
    have J := lam_enter (E := E) (f := f) (c' := c') (tk := s1.toks + (ps.zip us).length) I L I1.env0 hr.hd un hns fun b o e => hsb.extBut b o (Nat.ne_of_lt (Heap.lt_size e)) (Heap.get?_push_of_some _ e)
    refine PySem.W.kla_codeExpr (wpAny_mono ((hbody (X.A.deeper (envOfC qg sg s.heap.objs.size g cdg)) _ s1 H1 E rfl (hr.deeper _)).run [] _ _ H1 Q0 J ht) (fun v s' ⟨w', H', J', rv, q⟩ => ?_) fun e s' hq => hq)
    exact ⟨w', H', J'.os, J'.bare, J'.base, J'.hok, rv, q⟩
  refine wpAny_call (codeAny_mono rc fun r s' hq => ?_)
  match r, hq with
  | .error e, hq => exact tk e s' (XE.of_call I1 (fun cls d H' z => hW cls d H' z) hq)
  | .ok (.ret u), ⟨v, H', a1, a2, a3, a4, a5, a6⟩ => exact I1.after ⟨v, H', a1, a2, a3, a4, a5, hQ _ _ a6⟩
end
end Kb
namespace Kb
open PySem PySem.Spec PyProof.Rows L2 LamX
/-- what a def does that calls what it got: TT of the lambda's reading -/
def GivesL (P : Program) (w : World) (K : PySem.W.Frag) (mg : Str → Option Value) (base : Heap) (N : List Str) (x : Str) (sg : Scope) (bg : List Stmt) (a : Str) (k : Nat) (TT : LT → Hp → VK → Prop) : Prop :=
  ∀ (g : Addr) (cdg : Value) (A : Around) (outer : List Env) (f : Addr) (s : Shared) (H : Hp) (Q : VK) (ok : Hp → Prop) (tl : LT), A.guards = some [] → Room k (A.deeper (envOfC x sg s.heap.objs.size g cdg)) →
    (∀ (W : WX) (pn : List (Addr × Obj)) (xe : Value → Shared → Prop) (p1 p2 : Pos), Takes ((gCx P w K mg base N x sg g cdg A outer s H).tr pn xe) W → PE ((gCx P w K mg base N x sg g cdg A outer s H).tr pn xe) (.Call (.Name a p1) [] [] p2) (tAct f ok tl W)) →
    ok H → TT tl H Q → ∃ t, PSs (gCx P w K mg base N x sg g cdg A outer s H).nox bg t ∧ t { nx := fun _ H' => Q .non H', rt := Q } (L2.start N [.ref f]) H
/-- x(lambda: body): the tables, what is asked of the heap behind the making -/
def tLamL (P : Addr) (q : Str) (TT : LT → Hp → VK → Prop) (t : XK → TE) : TE := fun σ H Q => TabS H P q ∧ ∀ H1, ExtN H H1 → TabS H1 P q → TT (fun E H' Q' => t E σ H' Q') H1 Q
section
variable {X : Cx}
theorem pe_lamL {TT : LT → Hp → VK → Prop} {x a : Str} {st : Stmt} {N : List Str} {c P : Addr} {j k : Nat} {params : Arguments} {body : Expr} {scope : Scope} {t : XK → TE} {p lpos pos : Pos} {ps : List Str} {ds : List V} (hg : Gl X x) (D : Df X.K X.mg x st [a]) (S : FnScope N [a] (defScope st))
    (h0 : N[0]? = some a) (hva : Vis (defScope st) a) (G : GivesL X.prog X.w X.K X.mg X.base N x (defScope st) (defBody st) a (j + 1) TT) (hgd : X.A.guards = some []) (TB : TabB X.base X.mg c P) (hcode : X.env.code = .ref c) (hr : Room k X.A) (hk : j + 2 ≤ k) (L : LamP X.N X.env.scope scope ps) (B : LamB params body scope ps ds)
    (hk0 : params.kw_defaults = []) (hde : DefE params.defaults ds)
    (hbody : ∀ (A : Around) (outer : List Env) (s : Shared) (H : Hp) (E : XK) (f c' : Addr), A.guards = some [] → Room j (A.deeper (lamEnv X scope s.heap.objs.size f c')) → PE (lamCx X A outer s H E scope f c') body (t E))
    (hdb : (x == ("__debug__" : Str)) = false := by decide) (hd : (a == ("__debug__" : Str)) = false := by decide) (hcd : (a == ("__classdict__" : Str)) = false := by decide) :
    PE X (.Call (.Name x p) [.Lambda params body scope lpos] [] pos) (tLamL P (X.env.qual ++ "<lambda>") TT t) := by
  obtain ⟨g, fd, F, hm, hbi⟩ := D
  have hkp := F.kp
  obtain ⟨oc, od, kV, doc, pm, an, cdv, ct, osl, rfl, lk, hcg⟩ := F.ex
  refine ⟨fun pins s σ H Q I ⟨hT, h⟩ => ?_⟩
  refine wpAny_Call_Name_kw (ld_glob I hg hm ?_ hdb)
  refine PySem.W.callWith_K (h₀ := X.base) I.ok.mod.kin hkp ?_ (by rfl) (by rfl)
  show wpAny _ _ (spliced ((false, eval (.Lambda params body scope lpos) X.env) :: backTo pos (starEach [] X.env))) _ _ s
  have only : ∀ p ∈ [(P, X.env.qual ++ "<lambda>")], p.1 = P → p.2 = X.env.qual ++ "<lambda>" := fun p hp _ => by rw [List.mem_singleton.mp hp]
  refine Calls.spliced_cons (lam_new (T := [(P, X.env.qual ++ "<lambda>")]) I TB hcode (List.mem_singleton.mpr rfl) only (fun p hp => by rw [List.mem_singleton.mp hp]; exact hT) (L.has I.ok) hk0 hde rfl fun f c' dV doc' pm' ctv H1 s' I1 eN T1 hf hfn hfr hco hD => ?_)
  refine Calls.spliced_nil ⟨I1.kIn, ?_⟩
  have rc : codeAny (model X.prog X.w) X.A (.call (.ref g) ⟨[.ref f], []⟩) (CR CX0 X.stack X.prog X.w H1 s' Q fun _ _ _ => False) s' := by
    refine run_ofS (N := N) (ps := [a]) (us := [.ref f]) (vs := [.ref f]) lk hcg S (hr.mono hk) I1.env0 (BindsTo.of_eq (hbi [.ref f] rfl)) (.cons rfl .nil) rfl fun hr' => ?_
    obtain ⟨t', ht', hq'⟩ := G g cdv X.A X.stack f s' H1 Q (fun HZ => HZ c' = some (CodeO c' (X.env.qual ++ "<lambda>")) ∧ Dfl HZ ds dV) (fun E H' Q' => t E σ H' Q') hgd hr'
      (fun W pn xe p1 p2 tk => lam_act I1 L B hf hfn hfr hco tk hr' (fun A outer s H E hg2 hr2 => hbody A outer s H E f c' (hg2.trans hgd) hr2) h0 hva hd hcd) ⟨hco, hD⟩ (h H1 eN (T1 _ (List.mem_singleton.mpr rfl)))
    exact ⟨t', ht'.nox, hq'⟩
  refine wpAny_call (codeAny_mono rc fun r s2 hq => ?_)
  match r, hq with
  | .error e, hq => exact (show False from hq).elim
  | .ok (.ret u), hq => exact I1.after hq
end
/-! ### what stays -/
theorem TabS.same {H H' : Hp} {P : Addr} {q : Str} (t : TabS H P q) (s : Same H H') : TabS H' P q := TabS.ext t s
theorem ExtN.seqL {K : PySem.W.Frag} {H H' : Hp} {a : Addr} {xs : List V} (e : ExtN H H') (h : SqL K H a xs) : SqL K H' a xs := by
  rcases h with (h | ⟨o, h⟩) | h
  · exact .inl (.inl (e _ _ h fun ps z => by cases z))
  · exact .inl (.inr ⟨o, e _ _ h fun ps z => by cases z⟩)
  · exact .inr h
theorem ExtN.seqT {K : PySem.W.Frag} {H H' : Hp} {a : Addr} {xs : List V} (e : ExtN H H') (h : SqT K H a xs) : SqT K H' a xs := by
  rcases h with (h | ⟨o, h⟩) | h
  · exact .inl (.inl (e _ _ h fun ps z => by cases z))
  · exact .inl (.inr ⟨o, e _ _ h fun ps z => by cases z⟩)
  · exact .inr h
theorem ExtN.ofSame {H H' : Hp} (s : Same H H') : ExtN H H' := ExtN.of s
end Kb
namespace Kb
open PySem PySem.Spec PyProof.Rows L2 LamX
theorem TabS.keep {H H' : Hp} {P d : Addr} {q : Str} {kvs : List (Key × V)} (t : TabS H P q) (k : Keep d H H') (hd : H d = some (.dK kvs)) : TabS H' P q := by
  obtain ⟨ps, h1, h2, h3⟩ := t
  refine ⟨ps, k _ _ h1 (fun z => by rw [z, hd] at h1; cases h1), h2, fun pos cv hc => ?_⟩
  obtain ⟨c, e1, e2⟩ := h3 pos cv hc
  exact ⟨c, e1, k _ _ e2 fun z => by rw [z, hd] at e2; unfold CodeO at e2; cases e2⟩
theorem TabS.keepD {H H' : Hp} {P d : Addr} {q : Str} {n : Nat} (t : TabS H P q) (k : Keep d H H') (hd : DrawAt H d n) : TabS H' P q :=
  let ⟨_, _, _, h, _⟩ := hd; TabS.keep t k h
theorem DrawAt.ext {H H' : Hp} {d : Addr} {n : Nat} (h : DrawAt H d n) (e : ExtN H H') : DrawAt H' d n :=
  let ⟨l, c, t, h1, h2⟩ := h; ⟨l, c, t, e _ _ h1 (fun ps z => by cases z), h2⟩
/-! ### a def whose code object is told -/
def DfC (K : PySem.W.Frag) (mg : Str → Option Value) (x : Str) (st : Stmt) (ps : List Str) (c Tb : Addr) : Prop :=
  ∃ (f : Addr) (fd : FuncData), Fun K x x st f fd ∧ fd.code = .ref c ∧ mg x = some (.ref f) ∧ PySem.W.tabIn K x = some (c, Tb) ∧ ∀ us : List Value, us.length = ps.length → bindArgs fd ⟨us, []⟩ = pure (ps.zip us)
theorem DfC.mk {K : PySem.W.Frag} {mg : Str → Option Value} {h : Heap} {x : Str} {st : Stmt} {ps : List Str} {f c Tb : Addr} {oc ec : Value} {od an dc : Option Addr} {sl s2 : Array (Option Value)} {cvs : Array Value} {kV doc pm ct : Value} (X : K.In h) (G : h.Ns PySem.mainGlobals mg)
    (b : ∀ (kV doc pm : Value) (an : Option Addr) (cdv ct : Value) (us : List Value), us.length = ps.length → bindArgs (PySem.W.fnOf x x (defArgs st) (defBody st) (defScope st) .none kV doc pm an cdv ct) ⟨us, []⟩ = pure (ps.zip us))
    (a : PySem.W.nsIn K PySem.mainGlobals x = some (some (.ref f)))
    (l : K.lookup f = some ⟨oc, od, .func (PySem.W.fnOf x x (defArgs st) (defBody st) (defScope st) .none kV doc pm an (.ref c) ct), sl⟩)
    (cc : PySem.W.codeIn K (.ref c) x = true) (k : PySem.W.keepIn K (.ref f) = true) (lc : K.lookup c = some ⟨ec, dc, .fields cvs, s2⟩) (h11 : cvs[11]? = some (.ref Tb)) : DfC K mg x st ps c Tb :=
  ⟨f, _, fun_mk l cc k, rfl, PySem.W.mg_of X G a, by unfold PySem.W.tabIn; simp only [a, l, lc, h11], b kV doc pm an (.ref c) ct⟩
theorem Fun.okGC {P : Program} {w : World} {K : PySem.W.Frag} {mg : Str → Option Value} {base : Heap} {k : Nat} {f c : Addr} {x qual : Str} {st : Stmt} {fd : FuncData} {N ps : List Str} {sp : Sp} (F : Fun K x qual st f fd) (hc : fd.code = .ref c) (S : FnScope N ps (defScope st)) (len : ∀ vs H Q E, sp vs H Q E → vs.length = ps.length)
    (hbody : ∀ (A : Around) (outer : List Env) (s : Shared) (H : Hp) (vs : List V) (Q : VK) (E : XK), A.guards = some [] → Room k (A.deeper (envOfC qual (defScope st) s.heap.objs.size f (.ref c))) → sp vs H Q E →
      ∃ t, PSs (cxOf CX0 P w K mg base N qual (defScope st) f (.ref c) A outer s H E).nox (defBody st) t ∧ t { nx := fun _ H' => Q .non H', rt := Q } (start N vs) H) : FnG P w K mg base CX0 (k + 1) f fd ps sp := by
  obtain ⟨oc, od, kV, doc, pm, an, cdv, ct, osl, rfl, lk, hcd⟩ := F.ex
  obtain rfl : cdv = .ref c := hc
  have F2 : Fun K x qual st f (PySem.W.fnOf x qual (defArgs st) (defBody st) (defScope st) .none kV doc pm an (.ref c) ct) := F
  refine ⟨len, fun A outer s H args us vs Q E hgd hr e0 hb r hsp => ?_⟩
  have KX : K.In s.heap := e0.mod.kin.keeps fun b o e => (e0.bs b o e).1
  have hkind : ∀ y ∈ ps.zip us, (defScope st).names.lookup y.1 = some .local ∨ ((defScope st).names.lookup y.1 = some .cell ∧ ((cellsFrom (s.heap.objs.size + 1) (defScope st).names []).lookup y.1).isSome = true) := fun ⟨n, v⟩ hy =>
    (S.par n (List.of_mem_zip hy).1).elim .inl fun q => .inr ⟨q, PySem.W.cellsFrom_some _ _ _ (.inl q)⟩
  refine codeAny_call_function hr.depth (KX _ _ lk) rfl S.co S.gen rfl (PySem.W.codeRec_of KX hcd) (hb _ _ _ _ (wpAny_newFunctionEnv_cells S.kind hkind fun env he s1 x => ?_))
  subst he
  refine ⟨(e0.mod.nolimit.keeps fun b o e => (e0.bs b o e).1).keeps x.toInCall.keep, codeAny_func ?_⟩
  obtain ⟨t, ht, hq⟩ := hbody A outer s H vs Q E hgd (hr.deeper _) hsp
  refine wpAny_mono (ht.nox.run [] s1 (start N vs) H _ (inv_start S hr.hd e0 (len _ _ _ _ hsp) r x) hq) (fun fl s' hs => ?_) fun e s' hs => hs
  cases fl with
  | ret u => obtain ⟨v, σ', H', J, rv, q⟩ := hs; exact ⟨v, H', J.os, J.bare, J.base, J.hok, rv, q⟩
  | next => obtain ⟨σ', H', J, q⟩ := hs; exact ⟨V.non, H', J.os, J.bare, J.base, J.hok, rfl, q⟩
  | brk => obtain ⟨_, _, _, q⟩ := hs; exact q.elim
  | cont => obtain ⟨_, _, _, q⟩ := hs; exact q.elim
/-! ### the law's call where the law makes lambdas: the script and its table are tracked -/
theorem law_callGT {P : Program} {w : World} {K : PySem.W.Frag} {mg mb : Str → Option Value} {CX : CXT} {k : Nat} {fa a c Tb : Addr} {fd : FuncData} {x : Str} {sp : Sp} {s₁ : Shared} {vs : List Value} {ns : List Int}
    (KX : K.In s₁.heap) (hns : s₁.heap.Ns PySem.mainGlobals mg) (hb : s₁.heap.Ns builtinsNs mb) (hbb : ∀ x : Str, x ≠ "__name__" → mb x = bootBuiltins x) (hlim : s₁.heap.NoLimit) (hg : s₁.gens = #[])
    (hT : s₁.heap.get? Tb = some (PySem.W.tabObj #[])) (nT : K.lookup Tb = none) (C : PySem.W.CodeHd s₁.heap c Tb)
    (hbm : ∃ (bm : Addr) (ob : Obj), mg "__builtins__" = some (.ref bm) ∧ bm ≠ builtinsNs ∧ s₁.heap.get? bm = some ob ∧ ob.cls = .type "module" ∧ ob.dict = some builtinsNs ∧ ob.data = .plain)
    (ha : s₁.heap.get? a = some { cls := .type "list", data := .seq vs.toArray }) (hi : IntsAre vs ns) (hl : ns.length ≤ sizeLine) (hr : Room k callerA)
    (F : ∀ base : Heap, K.In base → base.Ns PySem.mainGlobals mg → TabB base mg c Tb → FnG P w K mg base CX k fa fd [x] sp) (hbind : ∀ (s : Shared) (u : Value), BindsTo s fd ⟨[u], []⟩ [(x, u)])
    (hsp : ∀ H : Hp, H Tb = some (.tbl #[]) → SqL K H a (ns.map V.int) → sp [.ref a] H (fun v _ => v = .bl true) fun _ _ _ => False)
    (hCX : ∀ H e s', CX [] H s₁ (fun _ _ _ => False) e s' → False) :
    codeAny (model P w) callerA (.call (.ref fa) ⟨[.ref a], []⟩) (fun r s' => r = .ok (.ret (.bool true)) ∧ OldK s₁.heap s'.heap ∧ s'.os = s₁.os ∧ AllBare s'.gens) s₁ := by
  have rv := vals_ints hi
  have aT : a ≠ Tb := fun z => by
    rw [← z, ha] at hT
    cases hT
  have core : ∀ H : Hp, H Tb = some (.tbl #[]) → (∀ b, H b = none ∨ b = Tb ∨ ∃ o xs, H b = some (.frz o (.lst xs))) → SqL K H a (ns.map V.int) → HOk P w H s₁.heap → (∀ b, H b ≠ none → b = a ∨ b = Tb) → (H a ≠ none → K.lookup a = none) →
      codeAny (model P w) callerA (.call (.ref fa) ⟨[.ref a], []⟩) (fun r s' => r = .ok (.ret (.bool true)) ∧ OldK s₁.heap s'.heap ∧ s'.os = s₁.os ∧ AllBare s'.gens) s₁ := by
    intro H hH hO hS hok hA hK
    have one : ∀ b, b ≠ a → b ≠ Tb → H b = none := fun b n1 n2 => Classical.byContradiction fun q => (hA b q).elim n1 n2
    have plain : ∀ {b : Addr} {o : Obj}, s₁.heap.get? b = some o → o ≠ { cls := .type "list", data := .seq vs.toArray } → o ≠ PySem.W.tabObj #[] → (hidT s₁.heap H).get? b = some o := fun {b o} e n1 n2 =>
      hidT_get e (one b (fun z => n1 (by rw [z, ha] at e; exact (Option.some.inj e).symm)) fun z => n2 (by rw [z, hT] at e; exact (Option.some.inj e).symm))
    have spaces : ∀ {b : Addr} {m : Str → Option Value}, s₁.heap.Ns b m → (hidT s₁.heap H).Ns b m := fun ⟨o, es, ep, e, d, r⟩ => ⟨o, es, ep, plain e (fun z => by rw [z] at d; cases d) (fun z => by rw [z] at d; cases d), d, r⟩
    have kin : K.In (hidT s₁.heap H) := fun b o e => hidT_get (KX b o e) (Classical.byContradiction fun q => by
      rcases hA b q with z | z
      · subst z
        rw [hK q] at e
        cases e
      · rw [z, nT] at e
        cases e)
    have TB : TabB (hidT s₁.heap H) mg c Tb := by
      refine ⟨?_, ?_, fun z => ?_⟩
      · obtain ⟨o, us, file, tf, flags, tg, inF, text, tt, e1, r1, r2, r3, r4⟩ := C
        refine ⟨o, us, file, tf, flags, tg, inF, text, tt, plain e1 (fun z => ?_) (fun z => ?_), r1, r2, r3, r4⟩
        · rw [z] at r2; cases r2
        · rw [z] at r2; cases r2; simp at r3
      · obtain ⟨bm, ob, b1, b2, b3, b4, b5, b6⟩ := hbm
        have nG : bm ≠ PySem.mainGlobals := fun q => by
          obtain ⟨o, es, ep, e, hd, _⟩ := hns
          rw [q, e] at b3
          cases b3
          rw [hd] at b6
          cases b6
        have nP : bm ≠ Tb := fun q => by
          rw [q, hT] at b3
          cases b3
          cases b6
        exact ⟨bm, ob, b1, b2, nG, nP, plain b3 (fun z => by rw [z] at b6; cases b6) (fun z => by rw [z] at b6; cases b6), b4, b5, b6⟩
      · obtain ⟨o, es, ep, e, hd, _⟩ := hns
        rw [z, hT] at e
        cases e
        cases hd
    obtain ⟨mc, l1, l2⟩ := hlim
    refine codeAny_mono ((F _ kin (spaces hns) TB).run callerA [] s₁ H ⟨[.ref a], []⟩ [.ref a] [.ref a] _ _ rfl hr
      ⟨rfl, ⟨kin, spaces hns, ⟨mb, spaces hb, hbb⟩, ⟨mc, spaces l1, l2⟩⟩, fun b o e => of_hidT e, Nat.le_of_eq (hidT_size _ _), trivial, fun b hb => absurd (show b ∈ ([] : List Addr) from hb) (by simp), hok, .of_eq hg⟩
      (hbind s₁ (.ref a)) (.cons rfl .nil) (hsp H hH hS)) fun r s' h => ?_
    match r, h with
    | .error e, h => exact (hCX H e s' h).elim
    | .ok (.ret u), ⟨v, H', os, bare, un, hok', r', q⟩ =>
      cases (show v = .bl true from q)
      cases (show u = Value.bool true from r')
      obtain ⟨more, hm⟩ := un.tbls Tb #[] hH
      have grown : s'.heap.get? Tb = some { cls := .none, data := .fields (#[] ++ more) } := hok' Tb _ hm
      have key : ∀ b o, b ≠ Tb → s₁.heap.get? b = some o → s'.heap.get? b = some o := fun b o n e => by
        rcases hO b with z | z | ⟨ob, xs, z⟩
        · exact un.keep b o e z (fun y => absurd (show b ∈ ([] : List Addr) from y) (by simp)) (by simp)
        · exact absurd z n
        · obtain ⟨e1, _⟩ := hok b _ z
          obtain ⟨e2, _⟩ := hok' b _ (un.frzs b ob _ z)
          rw [e] at e1
          cases e1
          exact e2
      refine ⟨rfl, ⟨fun b o e => ?_, fun b o e => ?_⟩, os, bare⟩
      · by_cases hbT : b = Tb
        · subst hbT
          rw [hT] at e
          cases e
          exact .inr (.inl ⟨(C.tab hT).isCodeTable, rfl, #[], more, rfl, grown⟩)
        · exact .inl (key b o hbT e)
      · by_cases hbT : b = Tb
        · subst hbT
          exact ⟨_, grown⟩
        · exact ⟨o, key b o hbT e⟩
  cases hk : K.lookup a with
  | some o =>
    have e := KX a o hk
    rw [ha] at e
    cases e
    have at' : ∀ b, b ≠ Tb → (if b = Tb then some (HO.tbl #[]) else none) = none := fun b n => if_neg n
    refine core (fun b => if b = Tb then some (.tbl #[]) else none) (if_pos rfl) (fun b => ?_) (.inr ⟨_, vs.toArray, _, hk, rfl, rfl, rfl, by rw [List.size_toArray, hi.length]; exact hl, by simpa using rv⟩) (fun b u z => ?_) (fun b z => .inr (Classical.byContradiction fun n => z (at' b n))) fun z => absurd (at' a aT) z
    · by_cases hbT : b = Tb
      · exact .inr (.inl hbT)
      · exact .inl (at' b hbT)
    · by_cases hbT : b = Tb
      · subst hbT
        cases (if_pos rfl).symm.trans z
        exact hT
      · cases (at' b hbT).symm.trans z
  | none =>
    have at1 : ∀ b, b ≠ a → b ≠ Tb → (if b = a then some (HO.frz { cls := .type "list", data := .seq vs.toArray } (.lst (ns.map V.int))) else if b = Tb then some (.tbl #[]) else none) = none := fun b n1 n2 => (if_neg n1).trans (if_neg n2)
    have at2 : (if Tb = a then some (HO.frz { cls := .type "list", data := .seq vs.toArray } (.lst (ns.map V.int))) else if Tb = Tb then some (.tbl #[]) else none) = some (.tbl #[]) := (if_neg (Ne.symm aT)).trans (if_pos rfl)
    refine core (fun b => if b = a then some (.frz { cls := .type "list", data := .seq vs.toArray } (.lst (ns.map V.int))) else if b = Tb then some (.tbl #[]) else none) at2 (fun b => ?_) (.inl (.inr ⟨{ cls := .type "list", data := .seq vs.toArray }, if_pos rfl⟩)) (fun b u z => ?_)
      (fun b z => Classical.byContradiction fun n => z (at1 b (fun q => n (.inl q)) fun q => n (.inr q))) fun _ => hk
    · by_cases hba : b = a
      · exact .inr (.inr ⟨_, _, if_pos hba⟩)
      · by_cases hbT : b = Tb
        · exact .inr (.inl hbT)
        · exact .inl (at1 b hba hbT)
    · by_cases hba : b = a
      · subst hba
        cases (if_pos rfl).symm.trans z
        exact ⟨ha, by rw [List.length_map]; exact hl, vs, _, rv, ha⟩
      · by_cases hbT : b = Tb
        · subst hbT
          cases at2.symm.trans z
          exact hT
        · cases (at1 b hba hbT).symm.trans z
theorem walkGT {l : PySem.W.OpenLaw} {n k : Nat} {q : Program} {loose : List Str} {XP : (Str → Option Value) → Heap → Prop} {YP : World → Heap → Prop} {d : DefRec} {K : Params → PySem.W.Frag} {CX : World → CXT} {sp : World → Addr → Sp} {x : Str}
    (hn : l.most = some n) (hn2 : n ≤ sizeLine) (hdf : d.params.defaults = []) (hr : Room k callerA) (hY : ∀ (w : World) (h : Heap), YP w h → (K w.params).In h) (hrec : (recsOf q).find? (fun e => e.name == d.name) = some d)
    (F : ∀ (w : World) (mg : Str → Option Value) (fa : Addr) (h : Heap), (K w.params).In h → h.Ns PySem.mainGlobals mg → mg d.name = some (.ref fa) →
      ∃ (fd : FuncData) (c Tb : Addr), PySem.W.tabIn (K w.params) d.name = some (c, Tb) ∧ (K w.params).lookup Tb = none ∧ (∀ (s : Shared) (u : Value), BindsTo s fd ⟨[u], []⟩ [(x, u)]) ∧
        ∀ base : Heap, (K w.params).In base → base.Ns PySem.mainGlobals mg → TabB base mg c Tb → FnG l.prog w (K w.params) mg base (CX w) k fa fd [x] (sp w Tb))
    (hsp : ∀ (w : World) (H : Hp) (a Tb : Addr) (ns : List Int), ns.length ≤ n → H Tb = some (.tbl #[]) → SqL (K w.params) H a (ns.map V.int) → sp w Tb [.ref a] H (fun v _ => v = .bl true) fun _ _ _ => False)
    (hCX : ∀ (w : World) (H : Hp) (s : Shared) (e : Value) (s' : Shared), CX w [] H s (fun _ _ _ => False) e s' → False) :
    PySem.W.WalkO q loose XP YP l.row.toRowW d [] (fun f vs => PySem.call f vs) := by
  refine Att.attach_call hn hdf fun w s₀ s₁ mg mb fa o pm cd doc a vs ns G Y ho hd hcd hmg hobj hints hlen hg => ?_
  have KX := hY w _ Y
  obtain ⟨fd, c, Tb, tb, nT, hb, hF⟩ := F w mg fa _ KX G.T.g hmg
  obtain ⟨C, hT⟩ := PySem.W.tab_of G.T KX hrec tb
  exact law_callGT KX G.T.g G.T.b G.T.builtins G.T.nolimit hg hT nT C G.T.bmain hobj hints (Nat.le_trans hlen hn2) hr hF hb (fun H h1 h2 => hsp w H a Tb ns hlen h1 h2) fun H e s' => hCX w H s₁ e s'
end Kb

namespace Kb
open PySem PySem.Spec PyProof.Rows L2
/-! ### several clauses «except C as e», one name for all -/
abbrev Clause := Value × (Addr → Value → Option Addr → TS)
def wMas (K : PySem.W.Frag) (i : Nat) (Wout : WX) (D : Ends) : List Clause → WX
  | [] => Wout
  | q :: r => wAs K q.1 i q.2 (wMas K i Wout D r) D
inductive AsOk (X : Cx) (n : Str) : List ExceptHandler → List Clause → Prop
  | nil : AsOk X n [] []
  | cons {x : Str} {c : Value} {ts : Addr → Value → Option Addr → TS} {st : Stmt} {more : List Stmt} {np hp : Pos} {hds : List ExceptHandler} {l : List Clause} (hc : Names X x c)
      (hsu : ∀ (a : Addr) (oe : Obj) (cls : Value) (d : Option Addr) (pn : List (Addr × Obj)), Zc cls d oe → (∃ vs, oe.data = .fields vs) → PSs (X.suite a ((a, oe) :: pn)) (st :: more) (ts a cls d)) (r : AsOk X n hds l) :
      AsOk X n (.ExceptHandler (some (.Name x np)) (some n) (st :: more) hp :: hds) ((c, ts) :: l)
section
variable {X : Cx}
theorem ps_try_mas {n : Str} {i : Nat} {body : List Stmt} {h0 : ExceptHandler} {hds : List ExceptHandler} {l : List Clause} {pos : Pos} {tb : WX → TS} {Wout : WX} (hs : X.stack = X.env :: X.outer) (hf : X.env.frame = some X.env.locals) (hN : X.N.Nodup) (hi : X.N[i]? = some n) (hln : X.env.kindOf n = some .local)
    (tk : Takes X Wout) (hb : ∀ (W : WX) (pn : List (Addr × Obj)) (xe : Value → Shared → Prop), Takes (X.tr pn xe) W → PassesOwn (model X.prog X.w) X.A X.env xe → PSs (X.tr pn xe) body (tb W)) (hh : AsOk X n (h0 :: hds) l) :
    PS X (.Try body (h0 :: hds) [] [] pos) (fun D σ H => tb (wMas X.K i Wout D l) D σ H) := by
  refine ⟨fun pins s σ H D I h => wpAny_Try_except ?_⟩
  have ok := I.ok
  have fr0 : X.A.frames = some (X.env :: X.outer) := ok.frames.trans (congrArg some hs)
  refine wpAny_mono ((hb (wMas X.K i Wout D l) (X.pn ++ pins) (fun e s1 => wpAny (model X.prog X.w) X.A (noteFrame e X.env) (fun _ s2 => wpAny (model X.prog X.w) X.A (setFlight e none) (fun _ s3 =>
    wpAny (model X.prog X.w) X.A (handleBy e X.env (h0 :: hds)) (SP X pins D) X.xe s3) X.xe s2) X.xe s1) (fun u s' y => ?_) PassesOwn.looking).run [] s σ H D (I.toTry _) h) (fun f s1 q => ?_) (fun e s1 z => z)
  · obtain ⟨a, B, sI, pins', τ, G, cls, d, rfl, J0, nb, up, sky, na, os, ag, w⟩ := y
    have J : Inv X pins τ G sI := J0.ofTry ok
    have sky : Sky B (X.env :: X.outer) a (Zc cls d) X.env.locals s'.heap := hs ▸ sky
    show wpAny (model X.prog X.w) X.A (noteFrame (.ref a) X.env) _ _ _
    refine Sky.land Zc.steady fr0 hf sky fun h3 fl up3 => ?_
    have J3 : Inv X pins τ G { s' with heap := h3 } := J.landed nb fl.1 (up.trans up3) os ag
    obtain ⟨oe, vs, ea, ez, ed⟩ := fl.there
    have nfr : a ∉ frs (X.env :: X.outer) := fun hm => by
      obtain ⟨_, o', e', hnf⟩ := fl.2.2.1.mem hm
      rw [ea] at e'
      cases e'
      exact hnf _ ed
    have nL : a ≠ X.env.locals := fun z => nfr (List.mem_filterMap.mpr ⟨X.env, List.mem_cons_self, by rw [hf, z]⟩)
    have nF : a ∉ X.fs := fun hm => by
      obtain ⟨e, he, q⟩ := List.mem_filterMap.mp hm
      exact nfr (List.mem_filterMap.mpr ⟨e, .tail _ he, q⟩)
    have S3 := J3.suite ea ed na nL nF
    have go : ∀ {hs' : List ExceptHandler} {l' : List Clause}, AsOk X n hs' l' → wMas X.K i Wout D l' cls d τ G → wpAny (model X.prog X.w) X.A (handleBy (.ref a) X.env hs') (SP X pins D) X.xe { s' with heap := h3 } := by
      intro hs' l' hk
      induction hk with
      | nil =>
        intro w
        refine wpAny_handleBy_nil ?_
        obtain ⟨_, _, _, oe, vs, T, _, _, he, _, hd, h1, _⟩ := id fl
        unfold PySem.passOn
        refine wpAny_bind (wpAny_field he hd h1 ?_)
        rw [if_neg (show ¬ ((Value.ref T == Value.none) = true) by simp)]
        have fin : wpAny (model X.prog X.w) X.A (setFlight (.ref a) X.env.frame) (fun _ s4 => wpAny (model X.prog X.w) X.A (throw (.ref a) : Sem Flow) (SP X pins D) X.xe s4) X.xe { s' with heap := h3 } := by
          rw [hf]
          refine HandSPX.setFlight_upZ fl fun h4 hh4 up4 => wpAny_throw (tk _ _ ⟨a, B, sI, pins, τ, G, cls, d, rfl, J, nb, (up.trans up3).trans up4, .inr (.inr (by rw [hs]; exact hh4)), na, os, ag, w⟩)
        first
          | exact wpAny_bind (wpAny_pure (wpAny_bind fin))
          | exact wpAny_bind fin
      | @cons x c ts st more np hp hds2 l2 hc hsu r ih =>
        intro w
        obtain ⟨b, eb, yes, no⟩ := w
        refine wpAny_handleBy_cons (codeAny_handlers_test ?_) (fun q => nomatch q)
        have LT : PySem.W.Looks (model X.prog X.w) h3 (typeOf (.ref a)) cls := fun A Q E s k q => wpAny_typeOf_ref (k _ _ ea) (by rw [ez.1]; exact q)
        have LM := PySem.W.exm_one (M := model X.prog X.w) (J3.kIn) LT eb
        have test : ∀ {Q : Value → Shared → Prop} {E : Value → Shared → Prop}, Q c { s' with heap := h3 } → wpAny (model X.prog X.w) (X.A.mark (some (.ref a))) (eval (.Name x np) X.env) Q E { s' with heap := h3 } := fun {Q E} q => by
          obtain ⟨hg, hdb, hm | ⟨hm, hv, hnn⟩⟩ := hc
          · exact ld_glob (X := X.suite a ((a, oe) :: (X.pn ++ pins))) S3 hg hm q hdb
          · exact ld_blt (X := X.suite a ((a, oe) :: (X.pn ++ pins))) S3 hg hm hv q hnn hdb
        refine test (LM.here ?_)
        cases b with
        | false => exact ih (no rfl)
        | true =>
          refine codeAny_handlers_suite_as (HandSPX.lands_againZ fl fun h4 fl4 up4 => ?_)
          have J4 : Inv X pins τ G { s' with heap := h4 } := J.landed nb fl4.1 ((up.trans up3).trans up4) os ag
          obtain ⟨o4, v4, e4, z4, d4⟩ := fl4.there
          refine store_ok (X := X.suite a ((a, o4) :: (X.pn ++ pins))) (v := .ref a) (J4.suite e4 d4 na nL nF) hN hi (.inl hln) rfl (fun s5 S5 => ?_) (.inr hln)
          refine wpAny_mono ((hsu a o4 cls d (X.pn ++ pins) z4 ⟨_, d4⟩).run [] s5 _ G _ S5 (yes rfl a na)) (fun f s6 q => ?_) (fun _ _ z => z.elim)
          have gone : ∀ {σ6 : L2.St} {H6 : Hp} {Q : Shared → Prop}, Inv (X.suite a ((a, o4) :: (X.pn ++ pins))) [] σ6 H6 s6 → (∀ s7, Inv X pins (σ6.set i none) H6 s7 → Q s7) →
              wpAny (model X.prog X.w) X.A (do bindName X.env n .none; unbindBehindTheSuite X.env n hp) (fun _ s7 => Q s7) X.xe s6 := fun {σ6 H6 Q} S6 hq => gone_ok (S6.unsuite ok) hN hi hln hq
          match f, q with
          | .next, ⟨_, _, S6, q6⟩ => exact gone S6 fun s7 J7 => ⟨_, _, J7, q6⟩
          | .brk, ⟨_, _, S6, q6⟩ => exact gone S6 fun s7 J7 => ⟨_, _, J7, q6⟩
          | .cont, ⟨_, _, S6, q6⟩ => exact gone S6 fun s7 J7 => ⟨_, _, J7, q6⟩
          | .ret u, ⟨_, _, _, S6, r6, q6⟩ => exact gone S6 fun s7 J7 => ⟨_, _, _, J7, r6, q6⟩
    exact go hh w
  · match f, q with
    | .next, ⟨_, _, J1, q⟩ => exact wpAny_execs_nil ⟨_, _, J1.ofTry ok, q⟩
    | .brk, ⟨_, _, J1, q⟩ => exact ⟨_, _, J1.ofTry ok, q⟩
    | .cont, ⟨_, _, J1, q⟩ => exact ⟨_, _, J1.ofTry ok, q⟩
    | .ret u, ⟨_, _, _, J1, r, q⟩ => exact ⟨_, _, _, J1.ofTry ok, r, q⟩
end
end Kb
namespace Kb
open PySem PySem.Spec PyProof.Rows L2
theorem exm_other {K : PySem.W.Frag} {S T : Addr} (h1 : PySem.W.subIn K (.ref T) (.type "BaseException") = some true) (h2 : PySem.W.isClsIn K T = true) (h3 : PySem.W.typeIn K (.ref T) = some (.type "type")) (h4 : PySem.W.subIn K (.ref S) (.ref T) = some false) :
    PySem.W.exmOne K (.ref S) (.ref T) = some false := by
  unfold PySem.W.isClsIn at h2
  unfold PySem.W.exmOne
  simp only [h1]
  unfold PySem.W.kitCls
  simp [h2, h3, h4]
end Kb

namespace Kb
open PySem PySem.Spec PyProof.Rows L2
/-! ### enumerate(tuple) -/
theorem enum_newB {v : Value} {o : Obj} {H : Heap → Prop} (B : Begins v o H) :
    Meets (Builtin.«enumerate.__new__» ⟨[.type "enumerate", v], []⟩) (fun _ R s => H s.heap ∧
      R (.ok (.ret (.ref (s.heap.push o).objs.size))) { s with heap := (s.heap.push o).push { cls := .type "enumerate", data := .fields #[.none, .bool false, .ref s.heap.objs.size, rawInt 0, .none, .none] } }) :=
  .of_wp fun prog w A R s h => by
    obtain ⟨hp, g, d, tk, os⟩ := s; obtain ⟨h1, h⟩ := h
    have hsub := sub_enumerate
    have q1 : ∀ {A' : Around} {E : Value → Shared → Prop} {Q : Value → Shared → Prop}, Q (.ref hp.objs.size) ⟨hp.push o, g, d, tk, os⟩ → wpAny (model prog w) A' (pyIter v) Q E ⟨hp, g, d, tk, os⟩ :=
      fun q => B.iter prog w _ _ ⟨hp, g, d, tk, os⟩ _ h1 q
    wp_walk using q1
    refine wpAny_stack_any fun st => wpAny_pure ?_
    split
    · rename_i c _ _ _ _ _
      cases (c == Value.type "enumerate")
      · wp_walk using q1
        exact ⟨_, rfl, h⟩
      · wp_walk using q1
        exact ⟨_, rfl, h⟩
    · wp_walk using q1
      exact ⟨_, rfl, h⟩
section
variable {prog : Program} {w : World} {A : Around} {E : Value → Shared → Prop} {s : Shared}
theorem call_enum1 {v : Value} {o : Obj} {H : Heap → Prop} {Q : Value → Shared → Prop} (B : Begins v o H) (h1 : H s.heap)
    (h : ∀ h', IsEnum h' (s.heap.objs.size + 1) s.heap.objs.size 0 .none → h'.get? s.heap.objs.size = some o → h'.objs.size = s.heap.objs.size + 2 →
      (∀ b o, s.heap.get? b = some o → h'.get? b = some o) → Q (.ref (s.heap.objs.size + 1)) { s with heap := h' }) :
    wpAny (model prog w) A (call (.type "enumerate") [v]) Q E s := by
  refine callType_new F.called_enumerate (by decide) (F.typeCall_enumerate_1 _) (F.newCall_enumerate_1 _) (fun obj => F.args_object_init_2 obj _) F.entry_enumerate_new
    (enum_newB B) ⟨h1, ?_⟩
  have hz : (s.heap.push o).objs.size = s.heap.objs.size + 1 := Heap.size_push ..
  show _ ∧ _
  rw [hz]
  have he : IsEnum ((s.heap.push o).push { cls := .type "enumerate", data := .fields #[.none, .bool false, .ref s.heap.objs.size, rawInt 0, .none, .none] }) (s.heap.objs.size + 1) s.heap.objs.size 0 .none := by
    have := Heap.get?_push_size (s.heap.push o) (o := { cls := .type "enumerate", data := .fields #[.none, .bool false, .ref s.heap.objs.size, rawInt 0, .none, .none] }) rfl
    rw [hz] at this; exact this
  refine ⟨⟨_, he, rfl⟩, h _ he (Heap.get?_push_of_some _ (Heap.get?_push_size _ B.free)) (by rw [Heap.size_push, hz]) fun b o x => Heap.get?_push_of_some _ (Heap.get?_push_of_some _ x)⟩
end
def Itet (K : PySem.W.Frag) (a : Addr) : It :=
  ⟨fun i H => ∃ (xs : List V) (x : V), SqT K H a xs ∧ xs[i]? = some x, fun i H v H' => ∃ T x, v = .ref T ∧ H T = none ∧ H' = L2.upd H T (.tup [.int (i : Nat), x]) ∧ ∀ xs, SqT K H a xs → xs[i]? = some x, fun i H => ∃ xs : List V, SqT K H a xs ∧ xs.length ≤ i⟩
theorem turn_enumT {P : Program} {w : World} {K : PySem.W.Frag} {elts : List Expr} {kk : Nat} {tpos : Pos} (a e it : Addr) :
    Turn P w K (.Tuple elts kk tpos) (Itet K a) [e, it] e (fun i h => (∃ old, IsEnum h e it ((i : Nat) : Int) old) ∧ h.IsTupleIter it a i ∧ e ≠ it ∧ e ≠ a ∧ a ≠ it) where
  mem := by simp
  obj := fun i h st b hb => by
    obtain ⟨⟨old, he⟩, ⟨o, ho, hc, hd⟩, _⟩ := st
    have e' : b = e ∨ b = it := by simpa using hb
    rcases e' with z | z
    · rw [z]; exact ⟨_, he, fun v q => nomatch q⟩
    · rw [z]; exact ⟨o, ho, fun v q => by rw [hd] at q; cases q⟩
  keep := fun i h h' st k => let ⟨⟨old, he⟩, hi, hne⟩ := st; ⟨⟨old, k e (by simp) _ he⟩, hi.at fun o q => k it (by simp) o q, hne⟩
  item := by
    intro X hP hw hK hc i pins s σ H E I hf st hg
    subst hP hw hK
    obtain ⟨⟨old, he⟩, hit, hne, hea, hai⟩ := st
    obtain ⟨xs, x, hq, hx⟩ := hg
    obtain ⟨its, rv, p, hz⟩ := I.tuple hq
    obtain ⟨u, hu, ru⟩ := rv.get hx
    have hel : e < s.heap.objs.size := Heap.lt_size he
    have hil : it < s.heap.objs.size := by obtain ⟨_, q, _⟩ := hit; exact Heap.lt_size q
    have hlt : i < its.toArray.size := by
      have := (List.getElem?_eq_some_iff.mp hu).1
      simpa using this
    have hhd : X.A.in1.handled = none := I.ok.hd hc
    refine wpAny_pyNext_enum_itemD (Draws.tuple hhd it a hai its.toArray) he ⟨hit, show s.heap.IsTuple a its.toArray from p⟩ hlt hne (by simp [hne, hea]) fun x' h' tk hP ho hst' hT hsz hk => ?_
    have ex : x' = u := by
      have e1 : its[i]? = some x' := by simpa using hP
      rw [e1] at hu
      exact Option.some.inj hu
    subst ex
    obtain ⟨hit', _⟩ := hst'
    refine ⟨_, rfl, wpAny_letOwnedTupleGo_enum (s := { s with heap := h', toks := tk + 1 }) ho fun h'' he' sb => ?_⟩
    have hT2 : h''.get? s.heap.objs.size = some { cls := .type "tuple", data := .seq #[.int i tk, x'] } := (sb.2 _ (Nat.ne_of_gt hel)).trans hT
    have new : ObjOk X.prog X.w (L2.upd H s.heap.objs.size (.tup [.int (i : Nat), x])) h'' s.heap.objs.size (.tup [.int (i : Nat), x]) :=
      ⟨by show 2 ≤ sizeLine; decide, [.int i tk, x'], .cons ⟨_, rfl⟩ (.cons ru .nil), ⟨_, hT2, rfl, _, rfl⟩⟩
    have I1 : Inv X pins σ (L2.upd H s.heap.objs.size (.tup [.int (i : Nat), x])) { s with heap := h'', toks := tk + 1 } :=
      I.turnedNew (ch := [e, it]) (fun b ob hb q => (sb.2 b (fun z => hb (by simp [z]))).trans (hk b ob (fun z => hb (by simp [z])) (fun z => hb (by simp [z])) q)) hf (Nat.le_refl _) new
    refine ⟨.ref s.heap.objs.size, _, I1, rfl, ⟨_, x, rfl, I.hok.fresh (Nat.le_refl _), rfl, fun ys hy => by rw [I.tuple_inj hy hq]; exact hx⟩, ⟨⟨x', ?_⟩, hit'.at fun o q => (sb.2 it (Ne.symm hne)).trans q, hne, hea, hai⟩, fun b hb => ?_⟩
    · have e1 : ((i + 1 : Nat) : Int) = (i : Int) + 1 := by omega
      rw [e1]; exact he'
    · have hb' : b < s.heap.objs.size := by
        have e' : b = e ∨ b = it := by simpa using hb
        rcases e' with z | z
        · rw [z]; exact hel
        · rw [z]; exact hil
      rw [upd_ne (Nat.ne_of_lt hb')]
      exact (hf b hb).1
  done := by
    intro X hP hw hK hc i pins s σ H E I hf st hg
    subst hP hw hK
    obtain ⟨⟨old, he⟩, hit, hne, hea, hai⟩ := st
    obtain ⟨xs, hq, hx⟩ := hg
    obtain ⟨its, rv, p, hz⟩ := I.tuple hq
    obtain ⟨f0, f1, f2, f3, f4, f5⟩ := hf it (by simp)
    have hl := rv.length
    have hT : s.TypeIs (.ref e) "enumerate" := ⟨_, he, rfl⟩
    unfold pyNext
    refine wpAny_bind (wpAny_attempt (wpAny_callSpecial?_slot (name := Str.ofString "__next__") hT F.slot_enumerate_next
      (wpAny_call_entry F.slot_enumerate_next hT F.entry_enumerate_next ?_ (F.args_enumerate_next_1 _))))
    show wpAny _ _ (field (.ref e) 2 >>= _) _ _ _
    refine wpAny_bind (wpAny_field he rfl (x := .ref it) rfl ?_)
    refine wpAny_bind (wpAny_nextOf_tuple_end (show X.A.in1.handled = none from I.ok.hd hc) hit (show s.heap.IsTuple a its.toArray from p) (by simp; omega) fun h' x he' hx' => ?_)
    obtain ⟨o, ho, hcc⟩ := hx'
    refine wpAny_bind (wpAny_isInstance (T := "StopIteration") (b := true) ⟨o, ho, hcc⟩ isSubtype_stop ?_)
    exact wpAny_pure ⟨rfl, I.turned (t' := s.toks) (fun b o hb q => he' b o hb q) f0 f1 f3 f4 f5⟩
  self := fun A i s Q E st h => let ⟨⟨_, he⟩, _⟩ := st; wpAny_pyIter_enum he h
def iEnumT (K : PySem.W.Frag) (ta : TA) : TI := fun σ H R => ta σ H fun vs H1 => ∃ a xs, vs = [.ref a] ∧ SqT K H1 a xs ∧ R (Itet K a) H1
theorem pi_enumT {X : Cx} {e : Expr} {ta : TA} {p pos tpos : Pos} {elts : List Expr} {kk : Nat} (hg : Gl X "enumerate") (hm : X.mg "enumerate" = none) (ha : PA X [e] ta) (hs : starEach [e] X.env = [(false, eval e X.env)] := by rfl) :
    PI X (.Tuple elts kk tpos) (.Call (.Name "enumerate" p) [e] [] pos) (iEnumT X.K ta) := by
  refine ⟨fun pins s σ H R I h => ?_⟩
  refine Call_ (ld_blt I hg hm boot_enumerate (PyProof.Rows.callWith_type1 (thn (ha.run pos pins s σ H _ I h) fun us s1 ⟨vs, H1, I1, r1, q1⟩ => ?_) hs rfl))
  obtain ⟨a, xs, ex, hq, q⟩ := q1
  subst ex
  cases r1 with
  | cons r rr =>
    cases rr
    cases r
    obtain ⟨its, rv, p', hz⟩ := I1.tuple hq
    have p'' : s1.heap.IsTuple a its.toArray := p'
    have hal : a < s1.heap.objs.size := by obtain ⟨_, q, _⟩ := id p''; exact Heap.lt_size q
    refine call_enum1 (begins_tuple a its.toArray) p'' fun h' he hit hsz hk => wpAny_pyIter_enum he ?_
    have I2 : Inv X pins σ H1 { s1 with heap := h' } := I1.kept (t' := s1.toks) hk
    refine ⟨s1.heap.objs.size + 1, [s1.heap.objs.size + 1, s1.heap.objs.size], _, _, H1, rfl, I2, turn_enumT a (s1.heap.objs.size + 1) s1.heap.objs.size, ⟨⟨.none, he⟩, ⟨_, hit, rfl, rfl⟩, Nat.succ_ne_self _, Nat.ne_of_gt (Nat.lt_succ_of_lt hal), Nat.ne_of_lt hal⟩, fun b hb => ?_, q⟩
    have e' : b = s1.heap.objs.size + 1 ∨ b = s1.heap.objs.size := by simpa using hb
    have hle : s1.heap.objs.size ≤ b := by
      rcases e' with z | z
      · rw [z]; exact Nat.le_add_right _ _
      · rw [z]; exact Nat.le_refl _
    exact I1.fpOk hle (I1.hok.fresh hle)
theorem walk_enumT {K : PySem.W.Frag} {a : Addr} {xs : List V} : Walk (Itet K a) xs.length (fun H => SqT K H a xs) (YPair (fun i => some (.int (i : Nat))) (fun i => xs[i]?)) := by
  refine ⟨fun i _ hi q => ⟨xs, xs[i], q, by simp [hi]⟩, fun _ q => ⟨xs, q, Nat.le_refl _⟩, fun i H v H' _ q y => ?_⟩
  obtain ⟨T, x, h1, h2, h3, h4⟩ := y
  exact ⟨T, .int (i : Nat), x, h1, h2, h3, rfl, h4 xs q⟩
section
variable {K : PySem.W.Frag} {a : Addr} {xs : List V} {g : TG} {tb : TS} {D : Ends} {σ : L2.St} {H : Hp}
theorem for_enumT (Pv : Nat → L2.St → Hp → Prop) (h0 : Pv 0 σ H) (hG : ∀ i σ H, i ≤ xs.length → Pv i σ H → SqT K H a xs)
    (hs : ∀ i x T σ H, xs[i]? = some x → Pv i σ H → H T = none → g (.ref T) σ (L2.upd H T (.tup [.int (i : Nat), x])) fun σ2 H2 => tb { D with nx := Pv (i + 1), ct := Pv (i + 1), bk := D.nx } σ2 H2) (hd : ∀ σ H, Pv xs.length σ H → D.nx σ H) :
    ∃ W : Nat → Nat → L2.St → Hp → Prop, (∃ m, W 0 m σ H) ∧ ∀ i m σ H, W i m σ H →
      ((Itet K a).stop i H ∧ D.nx σ H) ∨ ((Itet K a).go i H ∧ ∃ N : L2.St → Hp → Prop, (∀ σ' H', N σ' H' → ∃ m', m' < m ∧ W (i + 1) m' σ' H') ∧ ∀ x H', (Itet K a).yld i H x H' → g x σ H' fun σ2 H2 => tb { D with nx := N, ct := N, bk := D.nx } σ2 H2) := by
  refine for_it walk_enumT Pv h0 hG (fun i x σ H H' hi p y => ?_) hd
  obtain ⟨T, x, y, rfl, hT, rfl, h1, h2⟩ := y
  cases h1
  exact hs i y T σ H h2 p hT
end
end Kb

namespace Kb
open PySem PySem.Spec PyProof.Rows L2
/-! ### enumerate(tuple, start=c) -/
def Itek (K : PySem.W.Frag) (c : Int) (a : Addr) : It :=
  ⟨fun i H => ∃ (xs : List V) (x : V), SqT K H a xs ∧ xs[i]? = some x, fun i H v H' => ∃ T x, v = .ref T ∧ H T = none ∧ H' = L2.upd H T (.tup [.int (c + (i : Nat)), x]) ∧ ∀ xs, SqT K H a xs → xs[i]? = some x, fun i H => ∃ xs : List V, SqT K H a xs ∧ xs.length ≤ i⟩
theorem turn_enumK {P : Program} {w : World} {K : PySem.W.Frag} {elts : List Expr} {kk : Nat} {tpos : Pos} (c : Int) (a e it : Addr) :
    Turn P w K (.Tuple elts kk tpos) (Itek K c a) [e, it] e (fun i h => (∃ old, IsEnum h e it (c + (i : Nat)) old) ∧ h.IsTupleIter it a i ∧ e ≠ it ∧ e ≠ a ∧ a ≠ it) where
  mem := List.mem_cons_self ..
  obj := fun i h st b hb => by
    obtain ⟨⟨old, he⟩, ⟨o, ho, hc, hd⟩, _⟩ := st
    rcases List.mem_cons.mp hb with z | z
    · subst z; exact ⟨_, he, fun v q => nomatch q⟩
    · obtain rfl := List.mem_singleton.mp z
      exact ⟨o, ho, fun v q => by rw [hd] at q; cases q⟩
  keep := fun i h h' st k => ⟨st.1.imp fun _ he => k e (by simp) _ he, st.2.1.at fun o q => k it (by simp) o q, st.2.2⟩
  item := by
    intro X hP hw hK hc i pins s σ H E I hf st hg
    subst hP hw hK
    obtain ⟨⟨old, he⟩, hit, hne, hea, hai⟩ := st
    obtain ⟨xs, x, hq, hx⟩ := hg
    obtain ⟨its, rv, p, hz⟩ := I.tuple hq
    obtain ⟨u, hu, ru⟩ := rv.get hx
    have hel := Heap.lt_size he
    have hil : it < s.heap.objs.size := let ⟨_, q, _⟩ := hit; Heap.lt_size q
    have hlt : i < its.toArray.size := by have := (List.getElem?_eq_some_iff.mp hu).1; simpa using this
    have hhd : X.A.in1.handled = none := I.ok.hd hc
    refine wpAny_pyNext_enum_itemC (Draws.tuple hhd it a hai its.toArray) he ⟨hit, show s.heap.IsTuple a its.toArray from p⟩ hlt hne (fun z => (List.mem_cons.mp z).elim hne fun z => hea (List.mem_singleton.mp z)) fun x' h' tk hP ho hst' hT hsz hk => ?_
    obtain rfl : x' = u := by
      have e1 : its[i]? = some x' := by simpa using hP
      exact Option.some.inj (e1.symm.trans hu)
    refine ⟨_, rfl, wpAny_letOwnedTupleGo_enum (s := { s with heap := h', toks := tk + 1 }) ho fun h'' he' sb => ?_⟩
    have hT2 : h''.get? s.heap.objs.size = some { cls := .type "tuple", data := .seq #[.int (c + (i : Nat)) tk, x'] } := (sb.2 _ (Nat.ne_of_gt hel)).trans hT
    have new : ObjOk X.prog X.w (L2.upd H s.heap.objs.size (.tup [.int (c + (i : Nat)), x])) h'' s.heap.objs.size (.tup [.int (c + (i : Nat)), x]) :=
      ⟨show 2 ≤ sizeLine by decide, _, .cons ⟨tk, rfl⟩ (.cons ru .nil), ⟨_, hT2, rfl, _, rfl⟩⟩
    have I1 := I.turnedNew (t' := tk + 1) (ch := [e, it]) (fun b ob hb q => (sb.2 b (fun z => hb (by simp [z]))).trans (hk b ob (fun z => hb (by simp [z])) (fun z => hb (by simp [z])) q)) hf (Nat.le_refl _) new
    refine ⟨.ref s.heap.objs.size, _, I1, rfl, ⟨_, x, rfl, I.hok.fresh (Nat.le_refl _), rfl, fun ys hy => (I.tuple_inj hy hq).symm ▸ hx⟩, ⟨⟨x', ?_⟩, hst'.1.at fun o q => (sb.2 it (Ne.symm hne)).trans q, hne, hea, hai⟩, fun b hb => ?_⟩
    · rw [show c + ((i + 1 : Nat) : Int) = c + (i : Nat) + 1 by omega]; exact he'
    · have hb' : b < s.heap.objs.size := (List.mem_cons.mp hb).elim (fun z => z ▸ hel) fun z => List.mem_singleton.mp z ▸ hil
      rw [upd_ne (Nat.ne_of_lt hb')]
      exact (hf b hb).1
  done := by
    intro X hP hw hK hc i pins s σ H E I hf st hg
    subst hP hw hK
    obtain ⟨⟨old, he⟩, hit, hne, hea, hai⟩ := st
    obtain ⟨xs, hq, hx⟩ := hg
    obtain ⟨its, rv, p, hz⟩ := I.tuple hq
    obtain ⟨f0, f1, f2, f3, f4, f5⟩ := hf it (List.mem_cons_of_mem _ (List.mem_singleton.mpr rfl))
    have hl := rv.length
    have hT : s.TypeIs (.ref e) "enumerate" := ⟨_, he, rfl⟩
    unfold pyNext
    refine wpAny_bind (wpAny_attempt (wpAny_callSpecial?_slot (name := Str.ofString "__next__") hT F.slot_enumerate_next
      (wpAny_call_entry F.slot_enumerate_next hT F.entry_enumerate_next ?_ (F.args_enumerate_next_1 _))))
    show wpAny _ _ (field (.ref e) 2 >>= _) _ _ _
    refine wpAny_bind (wpAny_field he rfl (x := .ref it) rfl (wpAny_bind (wpAny_nextOf_tuple_end (I.ok.hd hc) hit (show s.heap.IsTuple a its.toArray from p) (by simp; omega) fun h' x he' hx' => ?_)))
    obtain ⟨o, ho, hcc⟩ := hx'
    exact wpAny_bind (wpAny_isInstance (T := "StopIteration") (b := true) ⟨o, ho, hcc⟩ isSubtype_stop (wpAny_pure ⟨rfl, I.turned (t' := s.toks) (fun b o hb q => he' b o hb q) f0 f1 f3 f4 f5⟩))
  self := fun A i s Q E st h => let ⟨⟨_, he⟩, _⟩ := st; wpAny_pyIter_enum he h
def iEnumK (K : PySem.W.Frag) (ta tk : TA) : TI := fun σ H R => ta σ H fun vs H1 => tk σ H1 fun zs H2 => ∃ a xs c, vs = [.ref a] ∧ zs = [.int c] ∧ -(2 ^ 63) ≤ c ∧ c < 2 ^ 63 ∧ SqT K H2 a xs ∧ R (Itek K c a) H2
theorem pi_enumK {X : Cx} {e : Expr} {ta tk : TA} {p pos tpos : Pos} {elts : List Expr} {kk : Nat} {kws : List Keyword} (hg : Gl X "enumerate") (hm : X.mg "enumerate" = none) (ha : PA X [e] ta) (hk : PK X kws tk) (hs : starEach [e] X.env = (false, eval e X.env) :: starEach [] X.env := by rfl)
    (hall : (backToKw pos (keywordEach kws X.env)).all (·.1.isSome) = true := by rfl) (hpl : ((backTo pos (starEach [e] X.env)).any (·.1) || (backToKw pos (keywordEach kws X.env)).any (·.1.isNone)) = false := by rfl)
    (hks : (backToKw pos (keywordEach kws X.env)).filterMap (·.1) = [Str.ofString "start"] := by rfl) :
    PI X (.Tuple elts kk tpos) (.Call (.Name "enumerate" p) [e] kws pos) (iEnumK X.K ta tk) := by
  refine ⟨fun pins s σ H R I h => ?_⟩
  refine wpAny_Call_Name_kw (ld_blt I hg hm boot_enumerate ?_ (by decide) (by decide))
  refine PySem.W.callWith_of (P := fun _ => True) hpl (fun h _ => ⟨.machine, .inr (.inl rfl), .now⟩) (PyProof.Rows.evalArgs_kw2 hall (thn (ha.run pos pins s σ H _ I h) fun us s1 ⟨vs, H1, I1, r1, q1⟩ => thn (hk.run pos pins s1 σ H1 _ I1 q1) fun ws s2 ⟨zs, H2, I2, r2, q2⟩ => ⟨trivial, ?_⟩) hs)
  rw [hks]
  obtain ⟨a, xs, c, rfl, rfl, k0, k1, hq, q⟩ := q2
  cases r1 with
  | cons r rr =>
    cases rr
    cases r
    cases r2 with
    | cons r rr =>
      cases rr
      obtain ⟨t, rfl⟩ := r
      obtain ⟨its, rv, p', hz⟩ := I2.tuple hq
      have p'' : s2.heap.IsTuple a its.toArray := p'
      have hal : a < s2.heap.objs.size := let ⟨_, q, _⟩ := id p''; Heap.lt_size q
      refine enum_begins_start (begins_tuple a its.toArray) p'' k0 k1 fun h' he hit hsz hk => wpAny_pyIter_enum he ?_
      have I3 : Inv X pins σ H2 { s2 with heap := h' } := I2.kept (t' := s2.toks) hk
      refine ⟨s2.heap.objs.size + 1, [s2.heap.objs.size + 1, s2.heap.objs.size], _, _, H2, rfl, I3, turn_enumK c a (s2.heap.objs.size + 1) s2.heap.objs.size, ⟨⟨.none, (Int.add_zero c).symm ▸ he⟩, ⟨_, hit, rfl, rfl⟩, Nat.succ_ne_self _, Nat.ne_of_gt (Nat.lt_succ_of_lt hal), Nat.ne_of_lt hal⟩, fun b hb => ?_, q⟩
      have hle : s2.heap.objs.size ≤ b := (List.mem_cons.mp hb).elim (fun z => z ▸ Nat.le_add_right _ _) fun z => List.mem_singleton.mp z ▸ Nat.le_refl _
      exact I2.fpOk hle (I2.hok.fresh hle)
theorem walk_enumK {K : PySem.W.Frag} {c : Int} {a : Addr} {xs : List V} : Walk (Itek K c a) xs.length (fun H => SqT K H a xs) (YPair (fun i => some (.int (c + (i : Nat)))) (fun i => xs[i]?)) :=
  ⟨fun i _ hi q => ⟨xs, xs[i], q, by simp [hi]⟩, fun _ q => ⟨xs, q, Nat.le_refl _⟩, fun i H v H' _ q ⟨T, x, h1, h2, h3, h4⟩ => ⟨T, .int (c + (i : Nat)), x, h1, h2, h3, rfl, h4 xs q⟩⟩
section
variable {K : PySem.W.Frag} {c : Int} {a : Addr} {xs : List V} {g : TG} {tb : TS} {D : Ends} {σ : L2.St} {H : Hp}
theorem for_enumK (Pv : Nat → L2.St → Hp → Prop) (h0 : Pv 0 σ H) (hG : ∀ i σ H, i ≤ xs.length → Pv i σ H → SqT K H a xs)
    (hs : ∀ i x T σ H, xs[i]? = some x → Pv i σ H → H T = none → g (.ref T) σ (L2.upd H T (.tup [.int (c + (i : Nat)), x])) fun σ2 H2 => tb { D with nx := Pv (i + 1), ct := Pv (i + 1), bk := D.nx } σ2 H2) (hd : ∀ σ H, Pv xs.length σ H → D.nx σ H) :
    ∃ W : Nat → Nat → L2.St → Hp → Prop, (∃ m, W 0 m σ H) ∧ ∀ i m σ H, W i m σ H →
      ((Itek K c a).stop i H ∧ D.nx σ H) ∨ ((Itek K c a).go i H ∧ ∃ N : L2.St → Hp → Prop, (∀ σ' H', N σ' H' → ∃ m', m' < m ∧ W (i + 1) m' σ' H') ∧ ∀ x H', (Itek K c a).yld i H x H' → g x σ H' fun σ2 H2 => tb { D with nx := N, ct := N, bk := D.nx } σ2 H2) :=
  for_it walk_enumK Pv h0 hG (fun i x σ H H' hi p ⟨T, u, y, e, hT, eH, h1, h2⟩ => by cases h1; subst e; subst eH; exact hs i y T σ H h2 p hT) hd
end
end Kb

namespace Kb
open PySem PySem.Spec PyProof.Rows L2
/-! ### a, *b = a list -/
section
variable {prog : Program} {w : World} {A : Around} {E : Value → Shared → Prop} {s : Shared}
theorem star_items {l : Addr} {its : Array Value} {n i : Nat} {Q : List Value → Shared → Prop} (hd : A.handled = none) (ls : s.heap.IsList l its) (hi : i < n) (hn : n ≤ its.size + 1) (hz : its.size ≤ 16384)
    (q : ∀ (D : Addr) (g : Heap) (tk : Nat), (∀ b o, s.heap.get? b = some o → g.get? b = some o) → s.heap.get? D = none → g.get? D = some { cls := .type "list", data := .seq ((its.toList.drop i).take (its.size + 1 - n)).toArray } →
      Q (its.toList.take i ++ [.ref D] ++ (its.toList.drop i).drop (its.size + 1 - n)) { s with heap := g, toks := tk }) :
    wpAny (model prog w) A (unpackItems (.ref l) n (some i)) Q E s := by
  have ne : l ≠ s.heap.objs.size := by
    obtain ⟨o, ho, _⟩ := ls
    exact Nat.ne_of_lt (Heap.lt_size ho)
  unfold unpackItems notIterableAtAll
  refine wpAny_bind (wpAny_bind (wpAny_specialOf ls.typeIs F.slot_list_iter.lookup (wpAny_pure ?_)))
  rw [if_neg (by simp)]
  refine wpAny_bind (wpAny_holding (wpAny_pyIter_list ls (wpAny_bind (wpAny_holding (PySem.W.kun_draw ne i 0 _ _ ⟨_, Heap.get?_push_size _ rfl, rfl, rfl⟩ (ls.push _) (by omega) fun g1 it1 sb1 => ?_)))))
  have ls1 : g1.IsList l its := (ls.push _).extBut sb1.extBut ne
  rw [Nat.zero_add] at it1
  have l1 := it1
  obtain ⟨oi, hoi, _⟩ := l1
  have l2 := ls1
  obtain ⟨ol, hol, _⟩ := l2
  have tk : (its.toList.take i).length = i := by rw [List.length_take, Array.length_toList]; omega
  have dl : (its.toList.drop i).length = its.size - i := by rw [List.length_drop, Array.length_toList]
  rw [List.drop_zero, if_neg (by rw [tk]; omega)]
  refine wpAny_bind (wpAny_holding (PySem.W.kun_collect (s := { s with heap := g1 }) (T := "list_iterator") (.inr (.inr (.inl rfl))) (Walks.list (A := A.in1) hd s.heap.objs.size l ne its) (fun j u st => st.1.typeIs) (k := i) (by omega) ⟨it1, ls1⟩ (Heap.lt_size hoi) (Heap.lt_size hol) (fun g2 tk2 hk => ?_) (Nat.le_trans hz (by decide))))
  have em : (its.toList.drop i).length - (n - 1 - i) = its.size + 1 - n := by rw [dl]; omega
  show wpAny _ _ (if (its.toList.drop i).length < n - 1 - i then _ else _) _ _ _
  rw [if_neg (by rw [dl]; omega)]
  show wpAny _ _ (newList ((its.toList.drop i).take ((its.toList.drop i).length - (n - 1 - i))) >>= fun d => pure (its.toList.take i ++ [d] ++ (its.toList.drop i).drop ((its.toList.drop i).length - (n - 1 - i)))) _ _ _
  rw [em]
  have old : ∀ b o, s.heap.get? b = some o → g2.get? b = some o := fun b o e => hk b o (Nat.ne_of_lt (Heap.lt_size e)) (sb1.extBut b o (Nat.ne_of_lt (Heap.lt_size e)) (Heap.get?_push_of_some _ e))
  have nw : s.heap.get? g2.objs.size = none := by
    cases e : s.heap.get? g2.objs.size with
    | none => rfl
    | some o => exact absurd (Heap.lt_size (old _ _ e)) (Nat.lt_irrefl _)
  refine wpAny_bind (wpAny_newList ?_ (Nat.le_trans (by rw [List.length_take, dl]; omega) (show 16384 ≤ sizeLine by decide)))
  exact wpAny_pure (q g2.objs.size _ tk2 (fun b o e => Heap.get?_push_of_some _ (old b o e)) nw (Heap.get?_push_size _ rfl))
end
/-- targets of which one, at i, is starred: the list's items, those in the middle as a new list -/
def gStar (K : PySem.W.Frag) (n i : Nat) (t : TGs) : TG := fun v σ H Q => ∃ a xs, v = .ref a ∧ SqL K H a xs ∧ n ≤ xs.length + 1 ∧ xs.length ≤ 16384 ∧
  ∀ D, H D = none → t (xs.take i ++ [.ref D] ++ (xs.drop i).drop (xs.length + 1 - n)) σ (upd H D (.lst ((xs.drop i).take (xs.length + 1 - n)))) Q
theorem vals_take {vs : List V} {us : List Value} (h : Vals vs us) : ∀ n, Vals (vs.take n) (us.take n) := by
  induction h with
  | nil => intro n; simp; exact .nil
  | cons a b ih => intro n; cases n with
    | zero => exact .nil
    | succ n => exact .cons a (ih n)
theorem vals_drop {vs : List V} {us : List Value} (h : Vals vs us) : ∀ n, Vals (vs.drop n) (us.drop n) := by
  induction h with
  | nil => intro n; simp; exact .nil
  | cons a b ih => intro n; cases n with
    | zero => exact .cons a b
    | succ n => exact ih n
theorem vals_app {vs ws : List V} {us ts : List Value} (h : Vals vs us) (g : Vals ws ts) : Vals (vs ++ ws) (us ++ ts) := by
  induction h with
  | nil => exact g
  | cons a b ih => exact .cons a ih
section
variable {X : Cx} {pos : Pos}
theorem pgs_starred {e : Expr} {p : Pos} {es : List Expr} {t : TG} {u : TGs} (h1 : PG X e t) (h2 : PGs X es u) : PGs X (.Starred e p :: es) (gCons t u) := by
  refine ⟨fun pins s σ H vs us Q I r h => ?_⟩
  obtain ⟨v, vr, e1, h⟩ := h
  subst e1
  cases r with
  | cons r rr =>
    show wpAny _ _ (assignInOrder (assign e X.env :: (assignEach es X.env).map (·.2)) _) _ _ _
    refine assignInOrder_cons (thn (h1.run pins s σ H _ _ _ I r h) fun _ s1 ⟨σ1, H1, I1, q1⟩ => ?_)
    exact h2.run pins s1 σ1 H1 _ _ Q I1 rr q1
theorem pg_star {es : List Expr} {k : Nat} {t : TGs} {n i : Nat} (hc : X.calm = true) (h : PGs X es t) (hn : (assignEach es X.env).length = n := by rfl) (hst : (assignEach es X.env).findIdx? (·.1) = some i := by rfl) (hi : i < n := by decide) : PG X (.Tuple es k pos) (gStar X.K n i t) := by
  refine ⟨fun pins s σ H v u Q I r hw => ?_⟩
  obtain ⟨a, xs, e1, hq, hl, hz, hw⟩ := hw
  subst e1
  cases r
  obtain ⟨its, rv, pl, _⟩ := I.list hq
  have el : its.length = xs.length := rv.length.symm
  rw [PyProof.Rows.assign_Tuple]
  refine wpAny_bind (wpAny_standAt ?_)
  unfold unpack
  rw [hn, hst]
  refine wpAny_bind (wpAny_holding (star_items (its := its.toArray) (I.ok.hd hc) pl.isList hi (by simpa [el] using hl) (by simpa [el] using hz) fun D g tk old nw new => ?_))
  have hD : H D = none := I.hok.gone nw
  simp only [List.size_toArray, el] at new ⊢
  have rm : Vals ((xs.drop i).take (xs.length + 1 - n)) ((its.drop i).take (xs.length + 1 - n)) := vals_take (vals_drop rv i) _
  have I1 : Inv X pins σ (upd H D (.lst ((xs.drop i).take (xs.length + 1 - n)))) { s with heap := g, toks := tk } :=
    I.laidN old nw hD ⟨Nat.le_trans (by rw [List.length_take, List.length_drop]; omega : _ ≤ 16384) (by decide), (its.drop i).take (xs.length + 1 - n), _, rm, new⟩
  exact h.run pins _ σ _ _ _ Q I1 (vals_app (vals_app (vals_take rv i) (.cons (show RelV (V.ref D) (Value.ref D) from rfl) .nil)) (vals_drop (vals_drop rv i) _)) (hw D hD)
end
/-- a def that is never called -/
def spNo : Sp := fun _ _ _ _ => False
theorem Df.okV {P : Program} {w : World} {K : PySem.W.Frag} {mg : Str → Option Value} {base : Heap} {CX : CXT} {k : Nat} {x : Str} {st : Stmt} {ps : List Str} (D : Df K mg x st ps) : Cal P w K mg base CX k x ps spNo := by
  obtain ⟨f, fd, F, m, b⟩ := D
  exact ⟨f, fd, ⟨fun _ _ _ _ h => h.elim, fun _ _ _ _ _ _ _ _ _ _ _ _ _ h => h.elim⟩, m, F.kp, .all b⟩
end Kb

namespace Kb
open PySem PySem.Spec PyProof.Rows L2 TL
/-! ### hosts as lists of signs -/
def onlyB (g l : List Nat) : Bool := (l.all fun c => decide (c ∈ g)) && decide (l ≠ [])
def digs : List Nat := [48, 49, 50, 51, 52, 53, 54, 55, 56, 57]
def lsig : List Nat := [97, 98, 99, 100, 101, 102, 103, 104, 105, 106, 107, 108, 109, 110, 111, 112, 113, 114, 115, 116, 117, 118, 119, 120, 121, 122, 48, 49, 50, 51, 52, 53, 54, 55, 56, 57, 45]
def digB (l : List Nat) : Bool := onlyB digs l
def labB (l : List Nat) : Bool := decide (l.length ≤ 20) && (onlyB lsig l && (decide (l.head? ≠ some 45) && decide (l.getLast? ≠ some 45)))
def numB (l : List Nat) : Bool := digB l && (decide (NumText.digitsVal l ≤ 255) && (decide (l = [48]) || decide (l.head? ≠ some 48)))
def lastL (L : List (List Nat)) : List Nat := L.getLast?.getD []
def hostL (L : List (List Nat)) : Bool := decide (L.length ≤ 10) && (L.all labB && (!digB (lastL L) || (L.all numB && decide (L.length = 4))))
def hostB (l : List Nat) : Bool := decide (l.length ≤ 100) && hostL (sp1 46 l)
def addrB (l : List Nat) : Bool := hostB l && digB (lastL (sp1 46 l))
def fitB (h d : List Nat) : Bool := decide (h = d) || (!addrB h && (46 :: d).isSuffixOf h)
theorem tl_dot : tl ("." : Str) = [46] := by decide +kernel
theorem dot_eq : ("." : Str) = ⟨#[46]⟩ := ext_tl tl_dot
theorem tl_lsig : tl ("abcdefghijklmnopqrstuvwxyz0123456789-" : Str) = lsig := by decide +kernel
theorem tl_digs : tl ("0123456789" : Str) = digs := by decide +kernel
theorem hostB_len {x : Str} (h : hostB (tl x) = true) : x.length ≤ 100 := by
  unfold hostB at h
  rw [Bool.and_eq_true, decide_eq_true_eq] at h
  rw [len_tl]; exact h.1
theorem digs_iff {c : Nat} : c ∈ digs ↔ 48 ≤ c ∧ c ≤ 57 := by
  simp only [digs, List.mem_cons, List.not_mem_nil, or_false]
  omega
theorem digB_iff {l : List Nat} : digB l = true ↔ NumText.AllDigits l ∧ l ≠ [] := by
  unfold digB onlyB NumText.AllDigits
  rw [Bool.and_eq_true, List.all_eq_true, decide_eq_true_eq]
  constructor
  · rintro ⟨h, n⟩; exact ⟨fun c hc => digs_iff.mp (of_decide_eq_true (h c hc)), n⟩
  · rintro ⟨h, n⟩; exact ⟨fun c hc => decide_eq_true (digs_iff.mpr (h c hc)), n⟩
theorem int_dig {x : Str} (h : digB (tl x) = true) (hl : x.length ≤ 640) : intText? x = some ((NumText.digitsVal (tl x) : Nat) : Int) :=
  intText_digits (digB_iff.mp h).1 (digB_iff.mp h).2 (by omega)
theorem lsig_lt {c : Nat} (h : c ∈ lsig) : c < 128 ∧ 45 ≤ c := by
  simp only [lsig, List.mem_cons, List.not_mem_nil, or_false] at h
  omega
theorem dot_free {l : List Nat} (h : labB l = true) : 46 ∉ l := fun hm => by
  unfold labB onlyB at h
  simp only [Bool.and_eq_true, List.all_eq_true, decide_eq_true_eq] at h
  exact absurd (h.2.1.1 46 hm) (by decide)
theorem lab_ne {l : List Nat} (h : labB l = true) : l ≠ [] := by
  unfold labB onlyB at h
  simp only [Bool.and_eq_true, List.all_eq_true, decide_eq_true_eq] at h
  exact h.2.1.2
theorem lab_len {l : List Nat} (h : labB l = true) : l.length ≤ 20 := by
  unfold labB at h
  simp only [Bool.and_eq_true, decide_eq_true_eq] at h
  exact h.1
theorem lab_sign {l : List Nat} (h : labB l = true) {c : Nat} (hc : c ∈ l) : c ∈ lsig := by
  unfold labB onlyB at h
  simp only [Bool.and_eq_true, List.all_eq_true, decide_eq_true_eq] at h
  exact h.2.1.1 c hc
theorem lastL_snoc (L : List (List Nat)) (p : List Nat) : lastL (L ++ [p]) = p := by
  unfold lastL; rw [List.getLast?_concat]; rfl
/-- joined labels are their parts -/
theorem sp1_joinL {c : Nat} : ∀ {L : List (List Nat)}, L ≠ [] → (∀ p ∈ L, c ∉ p) → sp1 c (joinL [c] L) = L
  | [], h, _ => absurd rfl h
  | [p], _, hp => sp1_of_free (hp p (List.mem_singleton.mpr rfl))
  | p :: q :: r, _, hp => by
    show sp1 c (p ++ (c :: joinL [c] (q :: r))) = _
    rw [sp1_app, sp1_of_free (hp p (List.mem_cons_self ..)), sp1_joinL (by simp) fun z hz => hp z (List.mem_cons_of_mem _ hz)]
    rfl
theorem joinL_app {c : Nat} : ∀ {L M : List (List Nat)}, L ≠ [] → M ≠ [] → joinL [c] (L ++ M) = joinL [c] L ++ c :: joinL [c] M
  | [], _, h, _ => absurd rfl h
  | [p], m :: M, _, _ => rfl
  | [p], [], _, h => absurd rfl h
  | p :: q :: r, M, _, hM => by
    show p ++ (c :: joinL [c] (q :: r ++ M)) = _
    rw [joinL_app (L := q :: r) (by simp) hM]
    simp [joinL]
/-- d's parts are the last parts exactly if it is all, or stands behind a sign -/
theorem sp1_suffix (c : Nat) (h d : List Nat) : ((sp1 c d).length ≤ (sp1 c h).length ∧ (sp1 c h).drop ((sp1 c h).length - (sp1 c d).length) = sp1 c d) ↔ (h = d ∨ (c :: d) <:+ h) := by
  constructor
  · rintro ⟨h1, h2⟩
    have e : sp1 c h = (sp1 c h).take ((sp1 c h).length - (sp1 c d).length) ++ sp1 c d := by
      conv => lhs; rw [← List.take_append_drop ((sp1 c h).length - (sp1 c d).length) (sp1 c h), h2]
    by_cases ht : (sp1 c h).take ((sp1 c h).length - (sp1 c d).length) = []
    · rw [ht, List.nil_append] at e
      exact .inl (by rw [← joinL_sp1 c h, e, joinL_sp1])
    · refine .inr ⟨joinL [c] ((sp1 c h).take ((sp1 c h).length - (sp1 c d).length)), ?_⟩
      have e2 := joinL_sp1 c h
      rw [e, joinL_app ht (sp1_ne c d), joinL_sp1] at e2
      exact e2
  · rintro (rfl | ⟨r, e⟩)
    · simp
    · rw [← e, sp1_app, List.length_append]
      refine ⟨by omega, ?_⟩
      rw [Nat.add_sub_cancel, List.drop_left]
end Kb
namespace Kb
open PySem PySem.Spec PyProof.Rows L2 TL
/-! ### drawn hosts: small labels that are no numbers -/
def wlab (l : List Nat) : Bool := labB l && (!digB l && decide (l.length ≤ 4))
def HostW (n : Nat) (x : Str) : Prop := ∃ L : List (List Nat), L ≠ [] ∧ L.length ≤ n ∧ (∀ l ∈ L, wlab l = true) ∧ tl x = joinL [46] L
theorem wlab_lab {l : List Nat} (h : wlab l = true) : labB l = true ∧ digB l = false ∧ l.length ≤ 4 := by
  unfold wlab at h
  simp only [Bool.and_eq_true, Bool.not_eq_true', decide_eq_true_eq] at h
  exact h
theorem joinL_len {c B : Nat} : ∀ L : List (List Nat), (∀ l ∈ L, l.length ≤ B) → (joinL [c] L).length ≤ L.length * (B + 1)
  | [], _ => by simp [joinL]
  | [p], h => by have := h p (List.mem_singleton.mpr rfl); simp [joinL]; omega
  | p :: q :: r, h => by
    have h1 := h p (List.mem_cons_self ..)
    have h2 := joinL_len (c := c) (q :: r) fun l hl => h l (List.mem_cons_of_mem _ hl)
    show (p ++ (c :: joinL [c] (q :: r))).length ≤ _
    rw [List.length_append, List.length_cons, List.length_cons (a := p), Nat.succ_mul]
    omega
theorem lastL_mem {L : List (List Nat)} (h : L ≠ []) : lastL L ∈ L := by
  have e : L = L.dropLast ++ [L.getLast h] := (List.dropLast_concat_getLast h).symm
  have e2 : lastL L = L.getLast h := by
    conv => lhs; rw [e]
    exact lastL_snoc _ _
  rw [e2]
  exact List.getLast_mem h
theorem HostW.parts {n : Nat} {x : Str} (h : HostW n x) : ∃ L : List (List Nat), sp1 46 (tl x) = L ∧ L ≠ [] ∧ L.length ≤ n ∧ (∀ l ∈ L, wlab l = true) ∧ tl x = joinL [46] L := by
  obtain ⟨L, h1, h2, h3, h4⟩ := h
  exact ⟨L, by rw [h4, sp1_joinL h1 fun p hp => dot_free (wlab_lab (h3 p hp)).1], h1, h2, h3, h4⟩
theorem HostW.len {n : Nat} {x : Str} (h : HostW n x) : x.length ≤ 5 * n := by
  obtain ⟨L, h1, h2, h3, h4⟩ := h
  rw [len_tl, h4]
  have := joinL_len (c := 46) (B := 4) L fun l hl => (wlab_lab (h3 l hl)).2.2
  omega
theorem HostW.host {n : Nat} {x : Str} (h : HostW n x) (hn : n ≤ 10) : hostB (tl x) = true ∧ digB (lastL (sp1 46 (tl x))) = false := by
  have hl := h.len
  obtain ⟨L, e, h1, h2, h3, h4⟩ := h.parts
  have hz : digB (lastL L) = false := (wlab_lab (h3 _ (lastL_mem h1))).2.1
  rw [e]
  refine ⟨?_, hz⟩
  unfold hostB hostL
  rw [e, hz, decide_eq_true (by rw [← len_tl]; omega), decide_eq_true (by omega), List.all_eq_true.mpr fun l hl => (wlab_lab (h3 l hl)).1]
  rfl
theorem HostW.more {n m : Nat} {x : Str} (h : HostW n x) (e : n ≤ m) : HostW m x := by
  obtain ⟨L, h1, h2, h3, h4⟩ := h
  exact ⟨L, h1, Nat.le_trans h2 e, h3, h4⟩
theorem HostW.dot {n m : Nat} {x y : Str} (h : HostW n x) (k : HostW m y) : HostW (n + m) (x ++ "." ++ y) := by
  obtain ⟨L, h1, h2, h3, h4⟩ := h
  obtain ⟨M, k1, k2, k3, k4⟩ := k
  refine ⟨L ++ M, by simp [h1], by rw [List.length_append]; omega, fun l hl => ?_, ?_⟩
  · rcases List.mem_append.mp hl with q | q
    · exact h3 l q
    · exact k3 l q
  · rw [tl_append, tl_append, tl_dot, h4, k4, joinL_app h1 k1, List.append_assoc]; rfl
/-- address hosts: four numbers -/
def AddrW (x : Str) : Prop := ∃ L : List (List Nat), L.length = 4 ∧ (∀ l ∈ L, ∃ n : Nat, n < 256 ∧ l = numL n) ∧ tl x = joinL [46] L
theorem num_ok : ∀ n : Nat, n < 256 → (labB (numL n) && (numB (numL n) && (digB (numL n) && decide ((numL n).length ≤ 3)))) = true := by decide +kernel
theorem AddrW.parts {x : Str} (h : AddrW x) : ∃ L : List (List Nat), sp1 46 (tl x) = L ∧ L.length = 4 ∧ (∀ l ∈ L, labB l = true ∧ numB l = true ∧ digB l = true ∧ l.length ≤ 3) ∧ tl x = joinL [46] L := by
  obtain ⟨L, h1, h2, h3⟩ := h
  have h4 : ∀ l ∈ L, labB l = true ∧ numB l = true ∧ digB l = true ∧ l.length ≤ 3 := fun l hl => by
    obtain ⟨n, hn, rfl⟩ := h2 l hl
    have := num_ok n hn
    simp only [Bool.and_eq_true, decide_eq_true_eq] at this
    exact this
  refine ⟨L, ?_, h1, h4, h3⟩
  rw [h3, sp1_joinL (by intro e; rw [e] at h1; cases h1) fun p hp => dot_free (h4 p hp).1]
theorem AddrW.len {x : Str} (h : AddrW x) : x.length ≤ 16 := by
  obtain ⟨L, e, h1, h2, h3⟩ := h.parts
  rw [len_tl, h3]
  have := joinL_len (c := 46) (B := 3) L fun l hl => (h2 l hl).2.2.2
  omega
theorem AddrW.host {x : Str} (h : AddrW x) : hostB (tl x) = true ∧ digB (lastL (sp1 46 (tl x))) = true := by
  have hl := h.len
  obtain ⟨L, e, h1, h2, h3⟩ := h.parts
  have hz : digB (lastL L) = true := (h2 _ (lastL_mem (by intro e; rw [e] at h1; cases h1))).2.2.1
  rw [e]
  refine ⟨?_, hz⟩
  unfold hostB hostL
  rw [e, hz, decide_eq_true (by rw [← len_tl]; omega), decide_eq_true (by omega), List.all_eq_true.mpr fun l hl => (h2 l hl).1, List.all_eq_true.mpr fun l hl => (h2 l hl).2.1, decide_eq_true h1]
  rfl
/-- what a host is, for the law's own reckoning -/
theorem fit_due {h d : List Nat} (hh : hostB h = true) : fitB h d = (if digB (lastL (sp1 46 h)) = true then decide (sp1 46 h = sp1 46 d) else decide ((sp1 46 d).length ≤ (sp1 46 h).length) && decide ((sp1 46 h).drop ((sp1 46 h).length - (sp1 46 d).length) = sp1 46 d)) := by
  unfold fitB addrB
  rw [hh, Bool.true_and]
  cases hz : digB (lastL (sp1 46 h)) with
  | true =>
    rw [if_pos rfl, Bool.not_true, Bool.false_and, Bool.or_false, Bool.eq_iff_iff, decide_eq_true_eq, decide_eq_true_eq]
    exact ⟨fun e => by rw [e], fun e => by rw [← joinL_sp1 46 h, e, joinL_sp1]⟩
  | false =>
    rw [if_neg Bool.false_ne_true, Bool.not_false, Bool.true_and, Bool.eq_iff_iff, Bool.or_eq_true, Bool.and_eq_true, decide_eq_true_eq, decide_eq_true_eq, decide_eq_true_eq, List.isSuffixOf_iff_suffix]
    exact (sp1_suffix 46 h d).symm
end Kb
namespace Kb
open PySem PySem.Spec PyProof.Rows L2 TL
theorem digit_lsig : ∀ c ∈ lsig, Unicode.isDigit c = decide (c ∈ digs) := by decide +kernel
theorem isdigit_lab {z : Str} (h : labB (tl z) = true) : Txt.isdigit z = digB (tl z) := by
  unfold Txt.isdigit digB onlyB
  have hn := lab_ne h
  have h0 : decide (z.length > 0) = true := decide_eq_true (by rw [len_tl]; exact List.length_pos_iff.mpr hn)
  rw [h0, Bool.true_and, decide_eq_true hn, Bool.and_true, Bool.eq_iff_iff, Array.all_eq_true_iff_forall_mem, List.all_eq_true]
  constructor
  · intro q c hc
    rw [← digit_lsig c (lab_sign h hc)]
    exact q c (Array.mem_toList_iff.mp hc)
  · intro q c hc
    have hc := Array.mem_toList_iff.mpr hc
    rw [digit_lsig c (lab_sign h hc)]
    exact q c hc
theorem host_labels {x : Str} (h : hostB (tl x) = true) : ∀ l ∈ sp1 46 (tl x), labB l = true := by
  unfold hostB hostL at h
  simp only [Bool.and_eq_true, List.all_eq_true] at h
  exact h.2.2.1
theorem host_lt {x : Str} (h : hostB (tl x) = true) : ∀ s ∈ tl x, s < 1114112 := fun s hs => by
  have hl := host_labels h
  rw [← joinL_sp1 46 (tl x)] at hs
  have : ∀ L : List (List Nat), (∀ l ∈ L, labB l = true) → ∀ s ∈ joinL [46] L, s = 46 ∨ s ∈ lsig := by
    intro L
    induction L with
    | nil => intro _ s hs; cases hs
    | cons p L ih =>
      intro hL s hs
      cases L with
      | nil => exact .inr (lab_sign (hL p (List.mem_cons_self ..)) hs)
      | cons q r =>
        have hs : s ∈ p ++ (46 :: joinL [46] (q :: r)) := hs
        rcases List.mem_append.mp hs with a | a
        · exact .inr (lab_sign (hL p (List.mem_cons_self ..)) a)
        · rcases List.mem_cons.mp a with a | a
          · exact .inl a
          · exact ih (fun l hl => hL l (List.mem_cons_of_mem _ hl)) s a
  rcases this _ hl s hs with rfl | q
  · decide
  · have := lsig_lt q; omega
end Kb

namespace Kb
open PySem PySem.Spec PyProof.Rows L2
/-! ### a tuple times one -/
theorem tuple_mul1 (l : Addr) (items : Array Value) (n : Nat) (dd : Option Addr) (sl : Array (Option Value)) (u : Tok) :
    Meets (Builtin.«tuple.__mul__» ⟨[.ref l, .int 1 u], []⟩) (fun _ R s => s.heap.get? l = some { cls := .type "tuple", dict := dd, data := .seq items n, slots := sl } ∧
      R (.ok (.ret (Value.ref l))) s) :=
  .of_wp fun prog w A R s h => by
    obtain ⟨hp, g, d, tk, os⟩ := s
    obtain ⟨hl, h⟩ := h
    have f1 := AutoSeq1.idx_int
    have c1 : (items.isEmpty || (1 : Int) == 1) = true := by simp
    wp_walk using wpAny_loadPart' hl
    repeat (first
      | (refine wpAny_ite_false (decide_eq_false (by decide)) ?_; wp_walk using wpAny_loadPart' hl)
      | (refine wpAny_ite_true (decide_eq_true (by exact c1)) ?_; wp_walk using wpAny_loadPart' hl))
    all_goals first | exact ⟨_, rfl, h⟩ | skip
def rRep1 (K : PySem.W.Frag) : R2 := fun x y H Q => ∃ l xs, x = .ref l ∧ y = .int 1 ∧ SqT K H l xs ∧ Q (.ref l) H
section
variable {X : Cx}
theorem op_rep1 : OpR X (binaryOp .Mult) (rRep1 X.K) := by
  intro pins s σ H x y v u Q I rx ry h
  obtain ⟨l, xs, rfl, rfl, hT, q⟩ := h
  cases rx
  obtain ⟨t, rfl⟩ := ry
  obtain ⟨its, r, ⟨⟨cls, dd, data, sl⟩, ho, hc, n, hd⟩, hs⟩ := I.tuple hT
  simp only at hc hd
  subst hc hd
  refine wpAny_binaryOp_repeat_ref (T := "tuple") (U := "int") (by decide) ⟨_, ho, rfl⟩ (fun s' => typeIs_int s' 1 t) noFill_tuple_mul F.fills_int_mul F.slot_int_rmul repeat_tuple F.slot_int_index.lookup
    (call_meets F.slot_int_rmul (typeIs_int s 1 t) F.entry_int_rmul (F.args_int_rmul_2 _ _) (int_rmul_tuple 1 t l its.toArray n dd sl)
      ⟨ho, rfl, ⟨_, ho, rfl⟩, call_meets F.slot_tuple_mul ⟨_, ho, rfl⟩ F.entry_tuple_mul (F.args_tuple_mul_2 _ _) (tuple_mul1 l its.toArray n dd sl t) ⟨ho, ?_⟩⟩)
  exact ⟨.ref l, H, I, rfl, q⟩
end
end Kb

namespace Kb
open PySem PySem.Spec PyProof.Rows L2 TL PySem.StrLaws Builtin.Str
/-! ### partition, removeprefix, count -/
theorem partition_behind {x : Str} {c : Nat} {a b : List Nat} (e : tl x = a ++ c :: b) (ha : c ∉ a) : tl (Txt.partition x ⟨#[c]⟩).2.2 = b := by
  have hy : tl (⟨#[c]⟩ : Str) ≠ [] := by simp [tl]
  have at' : ∀ i, At x ⟨#[c]⟩ x.length i ↔ (tl x)[i]? = some c := fun i => by
    rw [at_iff hy]
    show (((tl x).drop i).take 1 == [c]) = true ↔ _
    exact take1_drop
  have hit : At x ⟨#[c]⟩ x.length a.length := (at' _).mpr (by rw [e]; simp)
  have key : ∀ i, At x ⟨#[c]⟩ x.length i → (∀ k, k < i → ¬ At x ⟨#[c]⟩ x.length k) → i = a.length := fun i h1 h2 => by
    rcases Nat.lt_trichotomy i a.length with q | q | q
    · have g := (at' i).mp h1
      rw [e, List.getElem?_append_left q] at g
      exact absurd (List.mem_of_getElem? g) ha
    · exact q
    · exact absurd hit (h2 _ q)
  have fw := find_whole x ⟨#[c]⟩
  unfold Txt.find at fw
  unfold Txt.partition
  cases ho : occurrences x ⟨#[c]⟩ 0 x.length 1 with
  | nil =>
    rw [ho] at fw
    rcases fw with ⟨_, h⟩ | ⟨i, e1, _⟩
    · exact absurd hit (h _)
    · simp only at e1; omega
  | cons j r =>
    rw [ho] at fw
    rcases fw with ⟨e1, _⟩ | ⟨i, e1, h1, h2⟩
    · simp only at e1; omega
    · simp only at e1
      have hj : j = a.length := (Int.ofNat_inj.mp e1) ▸ key i h1 h2
      show tl (strSub x (j + 1) x.length) = b
      rw [tl_strSub, hj, e, len_tl, e]
      rw [show a ++ c :: b = (a ++ [c]) ++ b by simp, List.drop_left' (by simp)]
      rw [List.take_of_length_le (by simp; omega)]
theorem partition_none {x : Str} {c : Nat} (h : c ∉ tl x) : tl (Txt.partition x ⟨#[c]⟩).2.2 = [] := by
  have hy : tl (⟨#[c]⟩ : Str) ≠ [] := by simp [tl]
  have at' : ∀ i, At x ⟨#[c]⟩ x.length i ↔ (tl x)[i]? = some c := fun i => by
    rw [at_iff hy]
    show (((tl x).drop i).take 1 == [c]) = true ↔ _
    exact take1_drop
  have fw := find_whole x ⟨#[c]⟩
  unfold Txt.find at fw
  unfold Txt.partition
  cases ho : occurrences x ⟨#[c]⟩ 0 x.length 1 with
  | nil => rfl
  | cons j r =>
    rw [ho] at fw
    rcases fw with ⟨e1, _⟩ | ⟨i, e1, h1, h2⟩
    · simp only at e1; omega
    · exact absurd (List.mem_of_getElem? ((at' i).mp h1)) h
theorem removeprefix_hit {x y : Str} {b : List Nat} (e : tl x = tl y ++ b) : tl (Txt.removeprefix x y) = b := by
  unfold Txt.removeprefix
  have hs : subAt x y 0 = true := by
    rw [subAt_eq, List.drop_zero]
    show (List.take y.length (tl x) == tl y) = true
    rw [e, len_tl, List.take_left, beq_iff_eq]
  rw [if_pos hs]
  show tl (if x.length - y.length == x.length then x else strSub x y.length x.length) = b
  by_cases h0 : y.length = 0
  · rw [if_pos (by simp [h0])]
    rw [len_tl] at h0
    rw [e, List.eq_nil_of_length_eq_zero h0, List.nil_append]
  · have hx : x.length = y.length + b.length := by rw [len_tl, e, List.length_append, ← len_tl]
    rw [if_neg (by simp; omega), tl_strSub_end, e, len_tl, List.drop_left]
theorem removeprefix_miss {x y : Str} (h : ¬ tl y <+: tl x) : Txt.removeprefix x y = x := by
  unfold Txt.removeprefix
  rw [if_neg]
  · rfl
  · intro hs
    rw [subAt_eq, List.drop_zero] at hs
    have hs : (List.take y.length (tl x) == tl y) = true := hs
    exact h ((beq_iff_eq.mp hs) ▸ List.take_prefix _ _)
theorem count_sp1 (x : Str) (c : Nat) : Txt.count x ⟨#[c]⟩ + 1 = ((sp1 c (tl x)).length : Int) := by
  rw [count_cnt]
  show cnt c (tl x) + 1 = _
  generalize tl x = l
  induction l with
  | nil => rfl
  | cons y l ih =>
    rw [cnt_cons]
    by_cases h : y = c
    · subst h
      rw [sp1_hit, if_pos rfl, List.length_cons]
      push_cast
      omega
    · obtain ⟨p, r, e⟩ := sp1_cons c l
      rw [sp1_miss h e, if_neg h]
      rw [e] at ih
      rw [List.length_cons] at ih ⊢
      omega
end Kb
namespace Kb
open PySem PySem.Spec PyProof.Rows L2 TL
/-! ### rules, and the suffixes that they give, by labels -/
def excT (t : List Nat) : Bool := decide (t.head? = some 33)
def patT (t : List Nat) : List Nat := if excT t then t.tail else t
def ruleB (t : List Nat) : Bool :=
  if excT t then decide (1 < (sp1 46 t.tail).length) && (sp1 46 t.tail).all labB
  else (sp1 46 (if [42, 46].isPrefixOf t then t.drop 2 else t)).all labB
def patL (t : List Nat) : List (List Nat) := sp1 46 (patT t)
def lastN {α : Type} (n : Nat) (w : List α) : List α := w.drop (w.length - n)
def mtL (P w : List (List Nat)) : Bool := decide (P.length ≤ w.length) && (if P.head? = some [42] then decide ((lastN P.length w).tail = P.tail) else decide (lastN P.length w = P))
def bigN (b : Nat) (q : List Nat → Bool) : List (List Nat) → Nat
  | [] => b
  | t :: rs => bigN (if q t then max b (patL t).length else b) q rs
def excN (rs w : List (List Nat)) : Nat := bigN 0 (fun t => excT t && mtL (patL t) w) rs
def lonN (rs w : List (List Nat)) : Nat := bigN 1 (fun t => !excT t && mtL (patL t) w) rs
def sufN (rs w : List (List Nat)) : Nat := if 0 < excN rs w then excN rs w - 1 else lonN rs w
def famL (rs w : List (List Nat)) : List (List Nat) := lastN ((lastN (sufN rs w) w).length + 1) w
section
variable {α : Type}
theorem lastN_len (n : Nat) (w : List α) : (lastN n w).length = min n w.length := by
  unfold lastN; rw [List.length_drop]; omega
theorem lastN_all {n : Nat} {w : List α} (h : w.length ≤ n) : lastN n w = w := by
  unfold lastN; rw [show w.length - n = 0 by omega, List.drop_zero]
theorem lastN_lastN {n m : Nat} {w : List α} (h : n ≤ m) : lastN n (lastN m w) = lastN n w := by
  unfold lastN; rw [List.drop_drop, List.length_drop]; congr 1; omega
theorem lastN_cons {n : Nat} {x : α} {w : List α} (h : n ≤ w.length) : lastN n (x :: w) = lastN n w := by
  unfold lastN
  rw [List.length_cons, show w.length + 1 - n = (w.length - n) + 1 by omega, List.drop_succ_cons]
theorem lastN_mem {n : Nat} {w : List α} {x : α} (h : x ∈ lastN n w) : x ∈ w := List.mem_of_mem_drop h
theorem lastN_min {n : Nat} {w : List α} : lastN (min n w.length) w = lastN n w := by
  unfold lastN; congr 1; omega
end
theorem cutV_last (xs : List V) {n : Nat} (h : 1 ≤ n) : cutV xs (some (-(n : Int))) none = lastN n xs := by
  show (xs.drop (HT.sIx xs.length 0 (some (-(n : Int))))).take (HT.sIx xs.length xs.length none - HT.sIx xs.length 0 (some (-(n : Int)))) = _
  have e : HT.sIx xs.length 0 (some (-(n : Int))) = xs.length - n := by
    show (if (-(n : Int)) < 0 then ((-(n : Int)) + (xs.length : Int)).toNat else min (-(n : Int)).toNat xs.length) = _
    rw [if_pos (by omega)]
    omega
  rw [e, HT.sIx_none]
  exact List.take_of_length_le (by rw [List.length_drop] <;> omega)
/-! #### the greatest of sizes -/
theorem bigN_ge (q : List Nat → Bool) : ∀ (rs : List (List Nat)) (b : Nat), b ≤ bigN b q rs
  | [], b => Nat.le_refl _
  | t :: rs, b => by
    show b ≤ bigN _ q rs
    refine Nat.le_trans ?_ (bigN_ge q rs _)
    split <;> omega
theorem bigN_mem (q : List Nat → Bool) : ∀ (rs : List (List Nat)) (b : Nat) (t : List Nat), t ∈ rs → q t = true → (patL t).length ≤ bigN b q rs
  | r :: rs, b, t, h, hq => by
    show _ ≤ bigN _ q rs
    rcases List.mem_cons.mp h with e | e
    · subst e
      have := bigN_ge q rs (if q t then max b (patL t).length else b)
      rw [if_pos hq] at this ⊢
      omega
    · exact bigN_mem q rs _ t e hq
theorem bigN_cases (q : List Nat → Bool) : ∀ (rs : List (List Nat)) (b : Nat), bigN b q rs = b ∨ ∃ t ∈ rs, q t = true ∧ bigN b q rs = (patL t).length
  | [], b => .inl rfl
  | r :: rs, b => by
    show bigN _ q rs = b ∨ _
    by_cases hq : q r = true
    · rcases bigN_cases q rs (max b (patL r).length) with e | ⟨t, h1, h2, h3⟩
      · rcases Nat.le_total (patL r).length b with g | g
        · left; rw [if_pos hq, e]; omega
        · right; exact ⟨r, List.mem_cons_self .., hq, by show bigN _ q rs = _; rw [if_pos hq, e]; omega⟩
      · right; exact ⟨t, List.mem_cons_of_mem _ h1, h2, by show bigN _ q rs = _; rw [if_pos hq, h3]⟩
    · rw [if_neg hq]
      rcases bigN_cases q rs b with e | ⟨t, h1, h2, h3⟩
      · exact .inl e
      · right; exact ⟨t, List.mem_cons_of_mem _ h1, h2, by show bigN _ q rs = _; rw [if_neg hq, h3]⟩
theorem bigN_congr {q q' : List Nat → Bool} : ∀ {rs : List (List Nat)} {b : Nat}, (∀ t ∈ rs, q t = q' t) → bigN b q rs = bigN b q' rs
  | [], b, _ => rfl
  | r :: rs, b, h => by
    show bigN _ q rs = bigN _ q' rs
    rw [h r (List.mem_cons_self ..)]
    exact bigN_congr fun t ht => h t (List.mem_cons_of_mem _ ht)
theorem bigN_snoc (q : List Nat → Bool) : ∀ (rs : List (List Nat)) (b : Nat) (t : List Nat), bigN b q (rs ++ [t]) = if q t then max (bigN b q rs) (patL t).length else bigN b q rs
  | [], b, t => rfl
  | r :: rs, b, t => by
    show bigN _ q (rs ++ [t]) = _
    rw [bigN_snoc q rs]
    rfl
/-! #### what a match tells -/
theorem mtL_len {P w : List (List Nat)} (h : mtL P w = true) : P.length ≤ w.length := by
  unfold mtL at h
  rw [Bool.and_eq_true, decide_eq_true_eq] at h
  exact h.1
theorem mtL_lastN {P w : List (List Nat)} {k : Nat} (hk : k ≤ w.length) : mtL P (lastN k w) = (decide (P.length ≤ k) && mtL P w) := by
  unfold mtL
  rw [lastN_len, Nat.min_eq_left hk]
  by_cases h : P.length ≤ k
  · rw [lastN_lastN h, decide_eq_true h, decide_eq_true (Nat.le_trans h hk)]
    rfl
  · rw [decide_eq_false h]; rfl
theorem excT_len {t : List Nat} (hr : ruleB t = true) (h : excT t = true) : 2 ≤ (patL t).length := by
  unfold ruleB at hr
  rw [if_pos h, Bool.and_eq_true, decide_eq_true_eq] at hr
  unfold patL patT
  rw [if_pos h]
  exact hr.1
theorem excN_ge {rs w : List (List Nat)} (hr : ∀ t ∈ rs, ruleB t = true) (h : 0 < excN rs w) : 2 ≤ excN rs w ∧ excN rs w ≤ w.length := by
  unfold excN at h ⊢
  rcases bigN_cases (fun t => excT t && mtL (patL t) w) rs 0 with e | ⟨t, h1, h2, h3⟩
  · omega
  · rw [h3]
    simp only [Bool.and_eq_true] at h2
    exact ⟨excT_len (hr t h1) h2.1, mtL_len h2.2⟩
theorem lonN_ge {rs w : List (List Nat)} (hw : w ≠ []) : 1 ≤ lonN rs w ∧ lonN rs w ≤ w.length := by
  have h0 : 0 < w.length := List.length_pos_iff.mpr hw
  unfold lonN
  refine ⟨bigN_ge _ _ _, ?_⟩
  rcases bigN_cases (fun t => !excT t && mtL (patL t) w) rs 1 with e | ⟨t, h1, h2, h3⟩
  · omega
  · rw [h3]
    simp only [Bool.and_eq_true] at h2
    exact mtL_len h2.2
theorem sufN_ge {rs w : List (List Nat)} (hr : ∀ t ∈ rs, ruleB t = true) (hw : w ≠ []) : 1 ≤ sufN rs w ∧ sufN rs w ≤ w.length := by
  unfold sufN
  split
  · next h => have := excN_ge hr h; omega
  · exact lonN_ge hw
theorem famL_eq {rs w : List (List Nat)} (hr : ∀ t ∈ rs, ruleB t = true) (hw : w ≠ []) : famL rs w = lastN (sufN rs w + 1) w := by
  unfold famL
  have := sufN_ge hr hw
  rw [lastN_len, Nat.min_eq_left this.2]
/-- the last labels, if they are no fewer than the family's, have the same suffix -/
theorem sufN_lastN {rs w : List (List Nat)} {k : Nat} (hr : ∀ t ∈ rs, ruleB t = true) (hw : w ≠ []) (hk : k ≤ w.length) (h : min (sufN rs w + 1) w.length ≤ k) : sufN rs (lastN k w) = sufN rs w := by
  have e1 : excN rs (lastN k w) = excN rs w := by
    unfold excN
    refine bigN_congr fun t ht => ?_
    rw [mtL_lastN hk]
    cases hx : excT t <;> cases hm : mtL (patL t) w
    · rfl
    · rfl
    · rw [Bool.and_false]
    · have g : (patL t).length ≤ excN rs w := bigN_mem _ rs 0 t ht (by simp [hx, hm])
      have g0 := excT_len (hr t ht) hx
      have g1 := excN_ge hr (w := w) (rs := rs) (by omega)
      have g2 : sufN rs w = excN rs w - 1 := by unfold sufN; rw [if_pos (by omega)]
      rw [decide_eq_true (by omega)]; rfl
  unfold sufN
  rw [e1]
  by_cases h0 : 0 < excN rs w
  · rw [if_pos h0, if_pos h0]
  · rw [if_neg h0, if_neg h0]
    unfold lonN
    refine bigN_congr fun t ht => ?_
    rw [mtL_lastN hk]
    cases hx : excT t <;> cases hm : mtL (patL t) w
    · rw [Bool.and_false]
    · have g : (patL t).length ≤ lonN rs w := bigN_mem _ rs 1 t ht (by simp [hx, hm])
      have g2 : sufN rs w = lonN rs w := by unfold sufN; rw [if_neg h0]
      have := mtL_len hm
      rw [decide_eq_true (by omega)]; rfl
    · rfl
    · rfl
/-- hosts that hold the family have this family, others have another one -/
theorem famL_part {rs w : List (List Nat)} {k : Nat} (hr : ∀ t ∈ rs, ruleB t = true) (hw : w ≠ []) (hk0 : 1 ≤ k) (hk : k ≤ w.length) : decide (famL rs (lastN k w) = famL rs w) = decide ((famL rs w).length ≤ k) := by
  have hn : lastN k w ≠ [] := fun e => by have := lastN_len k w; rw [e] at this; simp at this; omega
  rw [famL_eq hr hn, famL_eq hr hw, lastN_len]
  rw [Bool.eq_iff_iff, decide_eq_true_eq, decide_eq_true_eq]
  constructor
  · intro e
    have := congrArg List.length e
    rw [lastN_len, lastN_len, lastN_len] at this
    omega
  · intro h
    rw [sufN_lastN hr hw hk h]
    by_cases g : sufN rs w + 1 ≤ k
    · exact lastN_lastN g
    · rw [lastN_all (n := k) (by omega)]
theorem famL_idem {rs w : List (List Nat)} (hr : ∀ t ∈ rs, ruleB t = true) (hw : w ≠ []) : famL rs (famL rs w) = famL rs w := by
  have h1 := sufN_ge hr hw
  have h0 : 0 < w.length := List.length_pos_iff.mpr hw
  have e : famL rs w = lastN (min (sufN rs w + 1) w.length) w := by rw [lastN_min]; exact famL_eq hr hw
  have := famL_part (k := min (sufN rs w + 1) w.length) hr hw (by omega) (by omega)
  rw [← e] at this
  rw [← decide_eq_true_iff (p := famL rs (famL rs w) = famL rs w), this, decide_eq_true_iff, e, lastN_len]
  omega
/-- a rule that does not match changes nothing -/
theorem sufN_snoc {rs w : List (List Nat)} {t : List Nat} (h : mtL (patL t) w = false) : sufN (rs ++ [t]) w = sufN rs w := by
  unfold sufN excN lonN
  rw [bigN_snoc, bigN_snoc]
  simp only [h, Bool.and_false, Bool.false_eq_true, if_false]
end Kb
namespace Kb
open PySem PySem.Spec PyProof.Rows L2 TL
/-! #### a label in front -/
theorem mtL_cons {P w : List (List Nat)} {y : List Nat} (h : P.length ≤ w.length) : mtL P (y :: w) = mtL P w := by
  unfold mtL
  rw [lastN_cons h, decide_eq_true h, List.length_cons, decide_eq_true (by omega)]
theorem lonN_below (rs w : List (List Nat)) (y : List Nat) : lonN rs (y :: w) = lonN rs w ∨ lonN rs (y :: w) = w.length + 1 := by
  have up : lonN rs w ≤ lonN rs (y :: w) := by
    unfold lonN
    rcases bigN_cases (fun t => !excT t && mtL (patL t) w) rs 1 with e | ⟨t, h1, h2, h3⟩
    · rw [e]; exact bigN_ge _ _ _
    · rw [h3]
      simp only [Bool.and_eq_true] at h2
      exact bigN_mem _ rs 1 t h1 (by simp only [Bool.and_eq_true]; exact ⟨h2.1, by rw [mtL_cons (mtL_len h2.2)]; exact h2.2⟩)
  have lo : 1 ≤ lonN rs w := bigN_ge _ _ _
  rcases bigN_cases (fun t => !excT t && mtL (patL t) (y :: w)) rs 1 with e | ⟨t, h1, h2, h3⟩
  · left
    have e : lonN rs (y :: w) = 1 := e
    omega
  · simp only [Bool.and_eq_true] at h2
    have h3 : lonN rs (y :: w) = (patL t).length := h3
    have hl := mtL_len h2.2
    rw [List.length_cons] at hl
    by_cases g : (patL t).length ≤ w.length
    · left
      have : (patL t).length ≤ lonN rs w := bigN_mem _ rs 1 t h1 (by simp only [Bool.and_eq_true]; exact ⟨h2.1, by rw [← mtL_cons (y := y) g]; exact h2.2⟩)
      omega
    · right; omega
theorem excN_below {rs w : List (List Nat)} {y : List Nat} (h : ∀ t ∈ rs, excT t = true → (patL t).head? ≠ some [42] ∧ y ∉ patL t) : excN rs (y :: w) = excN rs w := by
  unfold excN
  refine bigN_congr fun t ht => ?_
  cases hx : excT t
  · rfl
  · obtain ⟨h1, h2⟩ := h t ht hx
    by_cases g : (patL t).length ≤ w.length
    · rw [mtL_cons g]
    · have e : mtL (patL t) w = false := by unfold mtL; rw [decide_eq_false g]; rfl
      rw [e]
      unfold mtL
      rw [if_neg h1]
      by_cases g2 : (patL t).length ≤ (y :: w).length
      · rw [List.length_cons] at g2
        rw [lastN_all (by rw [List.length_cons]; omega), decide_eq_false (p := y :: w = patL t) fun e => h2 (e ▸ List.mem_cons_self ..), Bool.and_false]
      · rw [decide_eq_false g2]; rfl
theorem famL_below {rs w : List (List Nat)} {y : List Nat} (hr : ∀ t ∈ rs, ruleB t = true) (hw : w ≠ []) (h : ∀ t ∈ rs, excT t = true → (patL t).head? ≠ some [42] ∧ y ∉ patL t) :
    (famL rs (y :: w) = famL rs w ∨ famL rs (y :: w) = y :: w) ∧ (sufN rs w = w.length → famL rs (y :: w) = y :: w) := by
  have e1 := excN_below (w := w) h
  have n1 := sufN_ge hr hw
  rw [famL_eq hr hw, famL_eq hr (List.cons_ne_nil y w)]
  by_cases h0 : 0 < excN rs w
  · have g := excN_ge hr h0
    have e2 : sufN rs w = excN rs w - 1 := by unfold sufN; rw [if_pos h0]
    have e3 : sufN rs (y :: w) = excN rs w - 1 := by unfold sufN; rw [e1, if_pos h0]
    rw [e2, e3, lastN_cons (by omega)]
    exact ⟨.inl rfl, fun q => by omega⟩
  · have e2 : sufN rs w = lonN rs w := by unfold sufN; rw [if_neg h0]
    have e3 : sufN rs (y :: w) = lonN rs (y :: w) := by unfold sufN; rw [e1, if_neg h0]
    rw [e3]
    rcases lonN_below rs w y with e | e
    · rw [e, ← e2]
      by_cases g : sufN rs w + 1 ≤ w.length
      · rw [lastN_cons g]
        exact ⟨.inl rfl, fun q => by omega⟩
      · rw [lastN_all (w := y :: w) (by rw [List.length_cons]; omega)]
        exact ⟨.inr rfl, fun _ => rfl⟩
    · rw [e, lastN_all (w := y :: w) (by rw [List.length_cons]; omega)]
      exact ⟨.inr rfl, fun _ => rfl⟩
end Kb
namespace Kb
open PySem PySem.Spec PyProof.Rows L2 TL
/-! ### drawn rules over a, b and c -/
def abc (l : List Nat) : Prop := l = [97] ∨ l = [98] ∨ l = [99]
def GenR (t : List Nat) : Prop := ∃ L : List (List Nat), L ≠ [] ∧ L.length ≤ 4 ∧ (∀ l ∈ L, abc l) ∧ (t = joinL [46] L ∨ t = 42 :: 46 :: joinL [46] L ∨ (2 ≤ L.length ∧ t = 33 :: joinL [46] L))
theorem abc_wlab {l : List Nat} (h : abc l) : wlab l = true := by rcases h with rfl | rfl | rfl <;> decide
theorem abc_lab {l : List Nat} (h : abc l) : labB l = true := (wlab_lab (abc_wlab h)).1
theorem abc_len {l : List Nat} (h : abc l) : l.length ≤ 1 := by rcases h with rfl | rfl | rfl <;> decide
theorem abc_head {L : List (List Nat)} (hL : L ≠ []) (h : ∀ l ∈ L, abc l) : ∃ a r, joinL [46] L = a :: r ∧ a ≠ 33 ∧ a ≠ 42 := by
  obtain ⟨l, r, rfl⟩ := List.exists_cons_of_ne_nil hL
  have h1 := h l (List.mem_cons_self ..)
  have e : ∀ z, ∃ s, joinL [46] ([z] :: r) = z :: s := fun z => by
    cases r with
    | nil => exact ⟨[], rfl⟩
    | cons q r => exact ⟨_, rfl⟩
  rcases h1 with rfl | rfl | rfl
  · obtain ⟨s, e⟩ := e 97; exact ⟨97, s, e, by decide, by decide⟩
  · obtain ⟨s, e⟩ := e 98; exact ⟨98, s, e, by decide, by decide⟩
  · obtain ⟨s, e⟩ := e 99; exact ⟨99, s, e, by decide, by decide⟩
theorem abc_sp1 {L : List (List Nat)} (hL : L ≠ []) (h : ∀ l ∈ L, abc l) : sp1 46 (joinL [46] L) = L := sp1_joinL hL fun l hl => dot_free (abc_lab (h l hl))
theorem GenR.cases {t : List Nat} (h : GenR t) : ∃ L : List (List Nat), L ≠ [] ∧ L.length ≤ 4 ∧ (∀ l ∈ L, abc l) ∧ ((excT t = false ∧ t = joinL [46] L ∧ patL t = L) ∨ (excT t = false ∧ t = 42 :: 46 :: joinL [46] L ∧ patL t = [42] :: L) ∨ (excT t = true ∧ 2 ≤ L.length ∧ t = 33 :: joinL [46] L ∧ patL t = L)) := by
  obtain ⟨L, h1, h2, h3, h4⟩ := h
  refine ⟨L, h1, h2, h3, ?_⟩
  rcases h4 with rfl | rfl | ⟨h4, rfl⟩
  · left
    obtain ⟨a, r, e, e1, e2⟩ := abc_head h1 h3
    have hx : excT (joinL [46] L) = false := by unfold excT; rw [e]; exact decide_eq_false (by simpa using e1)
    refine ⟨hx, rfl, ?_⟩
    unfold patL patT
    rw [hx]
    exact abc_sp1 h1 h3
  · right; left
    refine ⟨rfl, rfl, ?_⟩
    show sp1 46 ([42] ++ 46 :: joinL [46] L) = _
    rw [sp1_app, abc_sp1 h1 h3]
    rfl
  · right; right
    refine ⟨rfl, h4, rfl, ?_⟩
    exact abc_sp1 h1 h3
theorem GenR.rule {t : List Nat} (h : GenR t) : ruleB t = true := by
  obtain ⟨L, h1, h2, h3, h4⟩ := h.cases
  have all : L.all labB = true := List.all_eq_true.mpr fun l hl => abc_lab (h3 l hl)
  unfold ruleB
  rcases h4 with ⟨hx, e, hp⟩ | ⟨hx, e, hp⟩ | ⟨hx, h5, e, hp⟩
  · rw [hx, e]
    obtain ⟨a, r, ea, e1, e2⟩ := abc_head h1 h3
    have : [42, 46].isPrefixOf (joinL [46] L) = false := by
      rw [ea]
      show ((42 == a) && _) = false
      rw [beq_eq_false_iff_ne.mpr (Ne.symm e2), Bool.false_and]
    rw [this]
    simp only [Bool.false_eq_true, if_false]
    rw [abc_sp1 h1 h3]
    exact all
  · rw [hx, e]
    have : [42, 46].isPrefixOf (42 :: 46 :: joinL [46] L) = true := by simp [List.isPrefixOf]
    rw [this]
    simp only [Bool.false_eq_true, if_false, if_true, List.drop_succ_cons, List.drop_zero]
    rw [abc_sp1 h1 h3]
    exact all
  · rw [hx, e, if_pos rfl]
    show (decide (1 < (sp1 46 (joinL [46] L)).length) && (sp1 46 (joinL [46] L)).all labB) = true
    rw [abc_sp1 h1 h3, all, decide_eq_true (by omega)]
    rfl
theorem GenR.exc {t : List Nat} (h : GenR t) (hx : excT t = true) : (patL t).head? ≠ some [42] ∧ ∀ l ∈ patL t, abc l := by
  obtain ⟨L, h1, h2, h3, h4⟩ := h.cases
  rcases h4 with ⟨e0, e, hp⟩ | ⟨e0, e, hp⟩ | ⟨e0, h5, e, hp⟩
  · rw [e0] at hx; cases hx
  · rw [e0] at hx; cases hx
  · rw [hp]
    refine ⟨fun q => ?_, h3⟩
    have := h3 [42] (List.mem_of_mem_head? q)
    rcases this with q | q | q <;> simp at q
theorem GenR.head {t : List Nat} (h : GenR t) : t.head? ≠ some 122 := by
  obtain ⟨L, h1, h2, h3, rfl | rfl | ⟨_, rfl⟩⟩ := h
  · obtain ⟨l, r, rfl⟩ := List.exists_cons_of_ne_nil h1
    have hq := h3 l (List.mem_cons_self ..)
    have e : ∀ z, (joinL [46] ([z] :: r)).head? = some z := fun z => by cases r <;> rfl
    rcases hq with rfl | rfl | rfl <;> rw [e] <;> decide
  · simp
  · simp
theorem GenR.len {t : List Nat} (h : GenR t) : t.length ≤ 12 := by
  obtain ⟨L, h1, h2, h3, h4⟩ := h
  have := joinL_len (c := 46) (B := 1) L fun l hl => abc_len (h3 l hl)
  rcases h4 with rfl | rfl | ⟨_, rfl⟩
  · omega
  · simp only [List.length_cons]; omega
  · simp only [List.length_cons]; omega
end Kb
namespace Kb
open PySem PySem.Spec PyProof.Rows L2
theorem Same.seqT {K : PySem.W.Frag} {a : Addr} {H H' : Hp} {xs : List V} (k : Same H H') (h : SqT K H a xs) : SqT K H' a xs := by
  rcases h with (h | ⟨o, h⟩) | h
  · exact .inl (.inl (k _ _ h))
  · exact .inl (.inr ⟨o, k _ _ h⟩)
  · exact .inr h
theorem Keep.seqT {K : PySem.W.Frag} {d a : Addr} {H H' : Hp} {xs : List V} (k : Keep d H H') (n : a ≠ d) (h : SqT K H a xs) : SqT K H' a xs := by
  rcases h with (h | ⟨o, h⟩) | h
  · exact .inl (.inl (k _ _ h n))
  · exact .inl (.inr ⟨o, k _ _ h n⟩)
  · exact .inr h
end Kb
namespace Kb
open PySem PySem.Spec PyProof.Rows L2 TL PySem.StrLaws Builtin.Str
theorem cutS_from (z : Str) {i : Int} (h : 0 ≤ i) : tl (cutS z (some i) none) = (tl z).drop i.toNat := by
  obtain ⟨k, rfl⟩ : ∃ k : Nat, i = (k : Int) := ⟨i.toNat, by omega⟩
  show ((tl z).drop (HT.sIx z.length 0 (some (k : Int)))).take (HT.sIx z.length z.length none - HT.sIx z.length 0 (some (k : Int))) = _
  rw [HT.sIx_none, HT.sIx_nat, Int.toNat_natCast, len_tl]
  rw [List.take_of_length_le (by rw [List.length_drop] <;> omega)]
  rcases Nat.le_total k (tl z).length with g | g
  · rw [Nat.min_eq_left g]
  · rw [Nat.min_eq_right g, List.drop_of_length_le (Nat.le_refl _), List.drop_of_length_le g]
end Kb
namespace Kb
open PySem PySem.Spec PyProof.Rows L2 TL
def RulesOK (rs : List Str) : Prop := rs.Nodup ∧ ∀ r ∈ rs, ruleB (tl r) = true ∧ r.length ≤ 1000
end Kb
namespace Kb
open PySem PySem.Spec PyProof.Rows L2 TL
theorem abc_at {r : Int} (h0 : 0 ≤ r) (h1 : r < 3) : ∃ c : Nat, atI ("abc" : Str).cps.toList r = some c ∧ abc (tl (⟨#[c]⟩ : Str)) := by
  rcases (by omega : r = 0 ∨ r = 1 ∨ r = 2) with rfl | rfl | rfl
  · exact ⟨97, by decide +kernel, .inl rfl⟩
  · exact ⟨98, by decide +kernel, .inr (.inl rfl)⟩
  · exact ⟨99, by decide +kernel, .inr (.inr rfl)⟩
theorem words_join (W : List Str) : tl (Txt.join ("." : Str) W) = joinL [46] (W.map tl) := by rw [join_tl, tl_dot]
theorem words_len {W : List Str} {B : Nat} (h : ∀ x ∈ W, (tl x).length ≤ B) : (W.map (·.length)).sum ≤ W.length * B :=
  PySem.StrLaws.sumLen_le (B := B) W fun w hw => by rw [len_tl]; exact h w hw
end Kb
namespace Kb
open PySem PySem.Spec PyProof.Rows L2 TL
theorem Keep.newer {d L : Addr} {H H' : Hp} (k : Keep d H H') (n : L ≠ d) (h : H' L = none) : H L = none := by
  cases e : H L with
  | none => rfl
  | some o => rw [k _ _ e n] at h; cases h
theorem Same.newer {L : Addr} {H H' : Hp} (k : Same H H') (h : H' L = none) : H L = none := by
  cases e : H L with
  | none => rfl
  | some o => rw [k _ _ e] at h; cases h
theorem in_strs {r : Str} {L : List Str} : inV (.str r) (L.map V.str) = decide (r ∈ L) := by
  unfold inV
  rw [Bool.eq_iff_iff, List.any_eq_true, decide_eq_true_eq]
  constructor
  · rintro ⟨v, hv, q⟩
    obtain ⟨x, hx, rfl⟩ := List.mem_map.mp hv
    have : x = r := by simpa [eqV] using q
    exact this ▸ hx
  · intro h
    exact ⟨.str r, List.mem_map.mpr ⟨r, h, rfl⟩, by simp [eqV]⟩
theorem flat_strs (L : List Str) : (L.map V.str).all flatV = true := by
  rw [List.all_eq_true]
  intro v hv
  obtain ⟨x, _, rfl⟩ := List.mem_map.mp hv
  rfl
end Kb
namespace Kb
open PySem PySem.Spec PyProof.Rows L2 TL
/-! ### hosts of small labels -/
theorem host_facts {w : List (List Nat)} {t : Str} (hw : w ≠ []) (hl : w.length ≤ 10) (ha : ∀ l ∈ w, wlab l = true) (e : tl t = joinL [46] w) :
    hostB (tl t) = true ∧ addrB (tl t) = false ∧ sp1 46 (tl t) = w ∧ t.length ≤ 50 := by
  have h : HostW 10 t := ⟨w, hw, hl, ha, e⟩
  have h1 := h.host (Nat.le_refl 10)
  have h2 := h.len
  refine ⟨h1.1, ?_, by rw [e, sp1_joinL hw fun p hp => dot_free (wlab_lab (ha p hp)).1], by omega⟩
  unfold addrB
  rw [h1.2, Bool.and_false]
theorem fit_last {w : List (List Nat)} {k : Nat} {h d : List Nat} (e1 : sp1 46 h = w) (e2 : sp1 46 d = lastN k w) (hk : k ≤ w.length) (ha : addrB h = false) : fitB h d = true := by
  have hd : (sp1 46 d).length = k := by rw [e2, lastN_len, Nat.min_eq_left hk]
  have := (sp1_suffix 46 h d).mp ⟨by rw [hd, e1]; exact hk, by rw [e1, hd, e2]; rfl⟩
  unfold fitB
  rw [ha]
  rcases this with q | q
  · rw [decide_eq_true q]; rfl
  · rw [List.isSuffixOf_iff_suffix.mpr q]; simp
theorem famL_len {rs w : List (List Nat)} (hr : ∀ t ∈ rs, ruleB t = true) (hw : w ≠ []) : famL rs w = lastN (famL rs w).length w ∧ 1 ≤ (famL rs w).length ∧ (famL rs w).length ≤ w.length := by
  have h0 : 0 < w.length := List.length_pos_iff.mpr hw
  have := sufN_ge hr hw
  have e := famL_eq hr hw
  have el : (famL rs w).length = min (sufN rs w + 1) w.length := by rw [e, lastN_len]
  refine ⟨?_, by omega, by omega⟩
  rw [el, lastN_min]; exact e
theorem lastN_ne {α : Type} {k : Nat} {w : List α} (h1 : 1 ≤ k) (h2 : w ≠ []) : lastN k w ≠ [] := fun q => by
  have := lastN_len k w
  have h0 : 0 < w.length := List.length_pos_iff.mpr h2
  rw [q, List.length_nil] at this
  omega
theorem lastN_map {α β : Type} (f : α → β) (k : Nat) (w : List α) : (lastN k w).map f = lastN k (w.map f) := by
  unfold lastN; rw [List.map_drop, List.length_map]
/-- a rule that asks a label before the host -/
theorem zrule {w : List (List Nat)} {t : List Nat} {rs : List (List Nat)} (hw : w ≠ []) (ha : ∀ l ∈ w, abc l) (e : t = 122 :: 46 :: joinL [46] w) (u : List (List Nat)) (hu : u.length ≤ w.length) :
    ruleB t = true ∧ sufN (rs ++ [t]) u = sufN rs u := by
  have hx : excT t = false := by rw [e]; rfl
  have hp : patL t = [122] :: w := by
    unfold patL patT
    rw [hx, e]
    show sp1 46 ([122] ++ 46 :: joinL [46] w) = _
    rw [sp1_app, abc_sp1 hw ha]; rfl
  constructor
  · unfold ruleB
    rw [hx, e]
    have : [42, 46].isPrefixOf (122 :: 46 :: joinL [46] w) = false := rfl
    rw [this]
    simp only [Bool.false_eq_true, if_false]
    show (sp1 46 ([122] ++ 46 :: joinL [46] w)).all labB = true
    rw [sp1_app, abc_sp1 hw ha, List.all_append, Bool.and_eq_true]
    exact ⟨by decide +kernel, List.all_eq_true.mpr fun l hl => abc_lab (ha l hl)⟩
  · refine sufN_snoc ?_
    rw [hp]
    unfold mtL
    rw [decide_eq_false (by rw [List.length_cons]; omega)]; rfl
theorem below_ok {rs : List (List Nat)} (h : ∀ t ∈ rs, GenR t) : ∀ t ∈ rs, excT t = true → (patL t).head? ≠ some [42] ∧ [121] ∉ patL t := fun t ht hx => by
  obtain ⟨h1, h2⟩ := (h t ht).exc hx
  exact ⟨h1, fun q => by rcases h2 _ q with r | r | r <;> simp at r⟩
end Kb

namespace Kb
open PySem PySem.Spec PyProof.Rows L2 TL PySem.Builtin PySem.Builtin.Str
/-! ### what is stripped away of a text at both ends -/
theorem strip_none (x g : Str) : (Txt.stripChars x g = ("" : Str)) ↔ ∀ c ∈ tl x, c ∈ tl g := by
  unfold Txt.stripChars
  rw [stripBy_eq]
  have hc : ∀ c, g.cps.contains c = true ↔ c ∈ tl g := fun c => by
    unfold tl
    rw [← Array.contains_toList, List.contains_iff_mem]
  obtain ⟨l1, l2, l3⟩ := lo_facts g.cps.contains x
  obtain ⟨h1, h2, h3, h4⟩ := hi_facts g.cps.contains x _ l1
  generalize stripLo g.cps.contains true x = lo at *
  generalize stripHi g.cps.contains true x lo = hi at *
  have hx : x.length = (tl x).length := len_tl x
  have e0 : (strSub x lo hi = ("" : Str)) ↔ hi = lo := by
    constructor
    · intro e
      have : (strSub x lo hi).length = 0 := by rw [e]; decide +kernel
      simp [strSub, Str.length] at this
      have hx' : x.length = x.cps.size := rfl
      omega
    · intro e
      subst e
      apply ext_tl
      simp [strSub, tl]
      decide +kernel
  rw [e0]
  have gd : ∀ k, k < x.length → ∃ c, (tl x)[k]? = some c ∧ x.cps.getD k 0 = c := fun k hk => by
    refine ⟨x.cps.getD k 0, ?_, rfl⟩
    have hk' : k < x.cps.size := hk
    simp [tl, Array.getD, hk']
  constructor
  · intro e c hm
    obtain ⟨k, hk⟩ := List.mem_iff_getElem?.mp hm
    have hl : k < (tl x).length := by
      rw [List.getElem?_eq_some_iff] at hk
      exact hk.1
    rw [← hx] at hl
    obtain ⟨c', e1, e2⟩ := gd k hl
    rw [hk] at e1
    cases e1
    rw [← hc]
    by_cases q : k < lo
    · have := l2 k q; rw [e2] at this; exact this
    · have := h3 k (by omega) hl; rw [e2] at this; exact this
  · intro al
    have al' : ∀ k, k < x.length → g.cps.contains (x.cps.getD k 0) = true := fun k hk => by
      obtain ⟨c, e1, e2⟩ := gd k hk
      rw [e2, hc]
      exact al c (List.mem_of_getElem? e1)
    by_cases q : lo = x.length
    · omega
    · have := l3.resolve_left q
      rw [al' lo (by omega)] at this
      cases this
theorem strip_only (x g : Str) : (!decide (V.str x = V.str ("" : Str)) && decide (V.str (Txt.stripChars x g) = V.str ("" : Str))) = onlyB (tl g) (tl x) := by
  unfold onlyB
  rw [Bool.eq_iff_iff, Bool.and_eq_true, Bool.and_eq_true, Bool.not_eq_true', decide_eq_true_eq, decide_eq_true_eq, decide_eq_false_iff_not, List.all_eq_true]
  have e1 : (V.str x = V.str ("" : Str)) ↔ tl x = [] := ⟨fun q => by rw [V.str.inj q]; decide +kernel, fun q => by rw [show x = ("" : Str) from ext_tl (by rw [q]; decide +kernel)]⟩
  have e2 : (V.str (Txt.stripChars x g) = V.str ("" : Str)) ↔ ∀ c ∈ tl x, c ∈ tl g := by
    rw [← strip_none]
    exact ⟨fun q => V.str.inj q, fun q => by rw [q]⟩
  rw [e1, e2]
  constructor
  · rintro ⟨a, b⟩; exact ⟨fun c hc => decide_eq_true (b c hc), a⟩
  · rintro ⟨a, b⟩; exact ⟨b, fun c hc => of_decide_eq_true (a c hc)⟩
end Kb

namespace Kb
open PySem PySem.Spec PyProof.Rows L2 TL PySem.StrLaws PySem.Builtin PySem.Builtin.Str
/-! ### both ends trimmed, a text cut at a sign: the whole answers -/
def trimF (f : Nat → Bool) (l : List Nat) : List Nat := ((l.dropWhile f).reverse.dropWhile f).reverse
theorem dropWhile_all {f : Nat → Bool} : ∀ {p : List Nat} (s : List Nat), (∀ c ∈ p, f c = true) → (p ++ s).dropWhile f = s.dropWhile f
  | [], _, _ => rfl
  | x :: p, s, h => by
    rw [List.cons_append, List.dropWhile_cons, if_pos (h x (List.mem_cons_self ..)), dropWhile_all s fun c hc => h c (List.mem_cons_of_mem _ hc)]
theorem dropWhile_stop {f : Nat → Bool} {x : Nat} {l : List Nat} (h : f x = false) : (x :: l).dropWhile f = x :: l := by rw [List.dropWhile_cons, if_neg (by rw [h]; exact Bool.false_ne_true)]
theorem trim_nil {f : Nat → Bool} {p : List Nat} (h : ∀ c ∈ p, f c = true) : trimF f p = [] := by
  unfold trimF
  have : p.dropWhile f = [] := by have := dropWhile_all [] h; rw [List.append_nil] at this; rw [this]; rfl
  rw [this]; rfl
/-- blanks, a middle with other ends, blanks -/
theorem trim_mid {f : Nat → Bool} {p m s : List Nat} {a b : Nat} (hp : ∀ c ∈ p, f c = true) (hs : ∀ c ∈ s, f c = true) (ha : m.head? = some a) (fa : f a = false) (hb : m.getLast? = some b) (fb : f b = false) : trimF f (p ++ m ++ s) = m := by
  unfold trimF
  rw [List.append_assoc, dropWhile_all _ hp]
  obtain ⟨m', rfl⟩ : ∃ m', m = a :: m' := by
    cases m with
    | nil => cases ha
    | cons x m => cases ha; exact ⟨m, rfl⟩
  rw [List.cons_append, dropWhile_stop fa, ← List.cons_append, List.reverse_append, dropWhile_all _ (fun c hc => hs c (List.mem_reverse.mp hc))]
  obtain ⟨m2, e⟩ : ∃ m2, (a :: m').reverse = b :: m2 := by
    rw [List.getLast?_eq_head?_reverse] at hb
    cases h : (a :: m').reverse with
    | nil => rw [h] at hb; cases hb
    | cons x r => rw [h] at hb; cases hb; exact ⟨r, rfl⟩
  rw [e, dropWhile_stop fb, ← e, List.reverse_reverse]
/-- told by the two places -/
theorem trim_at {f : Nat → Bool} {l : List Nat} {a b : Nat} (hab : a ≤ b) (hb : b ≤ l.length) (h1 : ∀ k, k < a → ∃ c, l[k]? = some c ∧ f c = true) (h2 : ∀ k, b ≤ k → k < l.length → ∃ c, l[k]? = some c ∧ f c = true)
    (h3 : a = l.length ∨ ∃ c, l[a]? = some c ∧ f c = false) (h4 : b = a ∨ ∃ c, l[b - 1]? = some c ∧ f c = false) : trimF f l = (l.drop a).take (b - a) := by
  have hp : ∀ c ∈ l.take a, f c = true := fun c hc => by
    obtain ⟨k, hk⟩ := List.mem_iff_getElem?.mp hc
    have h := (List.getElem?_eq_some_iff.mp hk).1
    rw [List.length_take] at h
    rw [List.getElem?_take, if_pos (by omega)] at hk
    obtain ⟨c', e, g⟩ := h1 k (by omega)
    rw [hk] at e; cases e; exact g
  have hs : ∀ c ∈ l.drop b, f c = true := fun c hc => by
    obtain ⟨k, hk⟩ := List.mem_iff_getElem?.mp hc
    have h := (List.getElem?_eq_some_iff.mp hk).1
    rw [List.length_drop] at h
    rw [List.getElem?_drop] at hk
    obtain ⟨c', e, g⟩ := h2 (b + k) (by omega) (by omega)
    rw [hk] at e; cases e; exact g
  have el : l = l.take a ++ (l.drop a).take (b - a) ++ l.drop b := by
    rw [List.append_assoc]
    have : (l.drop a).take (b - a) ++ l.drop b = l.drop a := by
      conv => rhs; rw [← List.take_append_drop (b - a) (l.drop a)]
      rw [List.drop_drop, show a + (b - a) = b by omega]
    rw [this, List.take_append_drop]
  by_cases hm : b = a
  · subst hm
    rw [Nat.sub_self, List.take_zero]
    refine trim_nil fun c hc => ?_
    rw [el, Nat.sub_self, List.take_zero, List.append_nil] at hc
    rcases List.mem_append.mp hc with q | q
    · exact hp c q
    · exact hs c q
  · obtain ⟨x, e1, g1⟩ : ∃ c, l[a]? = some c ∧ f c = false := by
      rcases h3 with h | h
      · omega
      · exact h
    obtain ⟨y, e2, g2⟩ := h4.resolve_left hm
    conv => lhs; rw [el]
    refine trim_mid hp hs (a := x) (b := y) ?_ g1 ?_ g2
    · rw [List.head?_take, if_neg (by omega), List.head?_drop]; exact e1
    · have hlen : ((l.drop a).take (b - a)).length = b - a := by rw [List.length_take, List.length_drop]; omega
      rw [List.getLast?_eq_getElem?, hlen, List.getElem?_take, if_pos (by omega), List.getElem?_drop, show a + (b - a - 1) = b - 1 by omega]
      exact e2
theorem strip_trim (x g : Str) : tl (Txt.stripChars x g) = trimF (fun c => decide (c ∈ tl g)) (tl x) := by
  unfold Txt.stripChars
  rw [stripBy_eq]
  have hc : ∀ c, g.cps.contains c = decide (c ∈ tl g) := fun c => by
    unfold tl
    rw [Bool.eq_iff_iff, decide_eq_true_eq, ← Array.contains_toList, List.contains_iff_mem]
  obtain ⟨l1, l2, l3⟩ := lo_facts g.cps.contains x
  obtain ⟨h1, h2, h3, h4⟩ := hi_facts g.cps.contains x _ l1
  show tl (strSub x (stripLo g.cps.contains true x) (stripHi g.cps.contains true x (stripLo g.cps.contains true x))) = _
  generalize stripLo g.cps.contains true x = lo at *
  generalize stripHi g.cps.contains true x lo = hi at *
  have hx : x.length = (tl x).length := len_tl x
  have gd : ∀ k, k < x.length → ∃ c, (tl x)[k]? = some c ∧ x.cps.getD k 0 = c := fun k hk => by
    refine ⟨x.cps.getD k 0, ?_, rfl⟩
    have hk' : k < x.cps.size := hk
    simp [tl, Array.getD, hk']
  have pos : ∀ k, k < x.length → g.cps.contains (x.cps.getD k 0) = true → ∃ c, (tl x)[k]? = some c ∧ decide (c ∈ tl g) = true := fun k hk h => by
    obtain ⟨c, e1, e2⟩ := gd k hk
    exact ⟨c, e1, by rw [← hc, ← e2]; exact h⟩
  have neg : ∀ k, k < x.length → g.cps.contains (x.cps.getD k 0) = false → ∃ c, (tl x)[k]? = some c ∧ decide (c ∈ tl g) = false := fun k hk h => by
    obtain ⟨c, e1, e2⟩ := gd k hk
    exact ⟨c, e1, by rw [← hc, ← e2]; exact h⟩
  rw [tl_strSub]
  refine (trim_at h1 (by omega) (fun k hk => pos k (by omega) (l2 k hk)) (fun k hk hk2 => pos k (by omega) (h3 k hk (by omega))) ?_ ?_).symm
  · by_cases q : lo = x.length
    · exact .inl (by omega)
    · exact .inr (neg lo (by omega) (l3.resolve_left q))
  · by_cases q : hi = lo
    · exact .inl q
    · exact .inr (neg (hi - 1) (by omega) (h4.resolve_left q))
/-- a text at its first c -/
theorem find_sign (x : Str) (c : Nat) : Txt.find x ⟨#[c]⟩ = (if c ∈ tl x then (((tl x).takeWhile fun s => !decide (s = c)).length : Int) else -1) := by
  have hy : tl (⟨#[c]⟩ : Str) ≠ [] := by simp [tl]
  have at' : ∀ i, At x ⟨#[c]⟩ x.length i ↔ (tl x)[i]? = some c := fun i => by
    rw [at_iff hy]
    show (((tl x).drop i).take 1 == [c]) = true ↔ _
    exact take1_drop
  rcases find_whole x ⟨#[c]⟩ with ⟨e, h⟩ | ⟨i, e, h1, h2⟩
  · rw [e, if_neg]
    intro hm
    obtain ⟨k, hk⟩ := List.mem_iff_getElem?.mp hm
    exact h k ((at' k).mpr hk)
  · have g := (at' i).mp h1
    rw [e, if_pos (List.mem_of_getElem? g)]
    congr 1
    have hlt := (List.getElem?_eq_some_iff.mp g).1
    have no : ∀ k, k < i → (tl x)[k]? ≠ some c := fun k hk q => h2 k hk ((at' k).mpr q)
    have : ∀ (l : List Nat) (i : Nat), l[i]? = some c → (∀ k, k < i → l[k]? ≠ some c) → i = (l.takeWhile fun s => !decide (s = c)).length := by
      intro l
      induction l with
      | nil => intro i h; simp at h
      | cons a l ih =>
        intro i h n
        cases i with
        | zero => simp at h; rw [h]; simp
        | succ i =>
          have ha : a ≠ c := fun q => n 0 (by omega) (by rw [q]; rfl)
          rw [List.takeWhile_cons, if_pos (by simp [ha]), List.length_cons, ih i (by simpa using h) fun k hk => by simpa using n (k + 1) (by omega)]
    exact this _ _ g no
theorem partition_full (x : Str) (c : Nat) : (c ∈ tl x → tl (Txt.partition x ⟨#[c]⟩).1 = (tl x).takeWhile (fun s => !decide (s = c)) ∧ (Txt.partition x ⟨#[c]⟩).2.1 = ⟨#[c]⟩ ∧ tl (Txt.partition x ⟨#[c]⟩).2.2 = (tl x).drop (((tl x).takeWhile (fun s => !decide (s = c))).length + 1)) ∧
    (c ∉ tl x → (Txt.partition x ⟨#[c]⟩).1 = x ∧ (Txt.partition x ⟨#[c]⟩).2.1 = "" ∧ (Txt.partition x ⟨#[c]⟩).2.2 = "") := by
  have fs := find_sign x c
  unfold Txt.find at fs
  unfold Txt.partition
  cases ho : occurrences x ⟨#[c]⟩ 0 x.length 1 with
  | nil =>
    rw [ho] at fs
    refine ⟨fun h => ?_, fun h => ⟨rfl, rfl, rfl⟩⟩
    rw [if_pos h] at fs
    simp only at fs; omega
  | cons j r =>
    rw [ho] at fs
    refine ⟨fun h => ?_, fun h => ?_⟩
    · rw [if_pos h] at fs
      have hj : j = ((tl x).takeWhile (fun s => !decide (s = c))).length := Int.ofNat_inj.mp fs
      refine ⟨?_, rfl, ?_⟩
      · show tl (strSub x 0 j) = _
        rw [tl_strSub, hj, List.drop_zero, Nat.sub_zero]
        conv => lhs; rw [← List.takeWhile_append_dropWhile (p := fun s => !decide (s = c)) (l := tl x), List.take_left' (by rw [List.takeWhile_append_dropWhile])]
      · show tl (strSub x (j + 1) x.length) = _
        rw [tl_strSub, hj, len_tl, List.take_of_length_le (by rw [List.length_drop]; exact Nat.le_refl _)]
    · rw [if_neg h] at fs
      simp only at fs; omega
end Kb

namespace Kb
open PySem PySem.Spec PyProof.Rows L2 TL PySem.Calls PySem.NumText
/-! ### int(text) up to 4,300 signs: the setting is read in the written part -/
theorem nodigits_of {K : PySem.W.Frag} {h : Heap} (X : K.In h) (hl : h.NoLimit) (e : PySem.W.nsIn K cStatics "sys.int_max_str_digits" = some none) : h.NoDigits := by
  obtain ⟨mc, ns, _⟩ := hl
  refine ⟨mc, ns, ?_⟩
  obtain ⟨o, es, ep, ho, hd, _, hf⟩ := ns
  unfold PySem.W.nsIn at e
  split at e
  rotate_left
  · cases e
  · next q =>
    have z := X _ _ q
    rw [ho] at z
    cases z
    cases hd
    split at e
    · cases e
    · next g =>
      have g2 : nsFind es "sys.int_max_str_digits" = none := by unfold nsFind findBy; rw [← Array.find?_toList, g]; rfl
      exact (hf _).symm.trans g2
theorem wp_digitsMax {M : Model} {A : Around} {E : Value → Shared → Prop} {s : Shared} {Q : Nat → Shared → Prop} (hn : s.heap.NoDigits) (h : Q 4300 s) : wpAny M A PySem.Builtin.intMaxStrDigits Q E s := by
  obtain ⟨mc, ns, e⟩ := hn
  unfold PySem.Builtin.intMaxStrDigits
  refine wpAny_bind (wpAny_nsGet ns ?_)
  rw [e]
  exact wpAny_pure h
theorem wp_longText {M : Model} {A : Around} {E : Value → Shared → Prop} {s : Shared} {Q : Value → Shared → Prop} {v : Value} {t : List Nat} {n : Int} (hn : s.heap.NoDigits)
    (hs : ¬ (t.takeWhile (· != 0)).length ≤ 640) (hr : (int_private% "readNumeral") 4300 10 (t.takeWhile (· != 0)) = (int_private% "Numeral.value") n)
    (ha : ((t.takeWhile (· != 0)).length == t.length) = true) (h : Q (.int n s.toks) { s with toks := s.toks + 1 }) :
    wpAny M A ((int_private% "intFromText") v t 10) Q E s := by
  obtain ⟨hp, g, d, tk, os⟩ := s
  repeat (any_goals (first | assumption | (with_reducible refine wpAny_ite_false (decide_eq_false hs) ?_) | (with_reducible refine wp_digitsMax hn ?_) | wp_step))
  all_goals (try rw [hr])
  all_goals (try dsimp only)
  repeat (any_goals (first | assumption | (with_reducible refine wpAny_ite_true (decide_eq_true ha) ?_) | wp_step))
theorem meets_longText {x : Str} {u : Tok} {n : Int} (hl : ¬ (numSeenOf x).length ≤ 640) (hz : x.length ≤ sizeLine) (hn : PySem.intText? x = some n) :
    Meets (PySem.Builtin.«int.__new__» ⟨[.type "int", .str x u], []⟩) (fun _ R s => s.heap.NoDigits ∧ R (.ok (.ret (.int n s.toks))) { s with toks := s.toks + 1 }) := by
  intro prog w A R s ⟨hd, h⟩
  have hr : (int_private% "readNumeral") 4300 10 (numSeenOf x) = (int_private% "Numeral.value") n ∧ ((numSeenOf x).length == (numTextOf x).length) = true := by
    rcases read4300 x hz with ⟨m, h1, h2, h3⟩ | ⟨h1, _⟩
    · rw [hn] at h1
      cases h1
      exact ⟨h3, h2⟩
    · rw [hn] at h1; cases h1
  have hk := PySem.W.KIN.Hid.mk (And.intro hl hr)
  obtain ⟨hp, g, d, tk, os⟩ := s
  have f1 := F.conv_sub_int
  have f2 := F.madeHere_int
  have f3 := PySem.W.KIN.str_int
  have f4 := PySem.W.KIN.str_idx
  have f5 := PySem.W.KIN.str_trunc
  have f6 : typeOf (.str x u) = pure (.type "str") := rfl
  clear hl hr hn hz
  repeat (any_goals (first | assumption | ((with_reducible show wpAny _ _ ((int_private% "intFromText") _ _ _) _ _ _); refine wp_longText hd hk.out.1 hk.out.2.1 hk.out.2.2 ?_) | wp_step))
section
variable {X : Cx}
/-- int(text), up to 4,300 signs -/
theorem call_int_strL (hd : PySem.W.nsIn X.K cStatics "sys.int_max_str_digits" = some none) : CallR X (.type "int") (fun xs H Q => ∃ a n, xs = [.str a] ∧ PySem.intText? a = some n ∧ a.length ≤ sizeLine ∧ (a.length ≤ 640 ∨ ¬ (numSeenOf a).length ≤ 640) ∧ Q (.int n) H) := by
  intro pins s σ H xs us Q I rs h
  obtain ⟨a, n, rfl, hn, hl, q, h⟩ := h
  cases rs with
  | cons r1 rs =>
    cases rs
    obtain ⟨t, rfl⟩ := r1
    rcases q with q | q
    · exact PySem.W.KIN.call_text hn q ⟨.int n, H, I.tok _, ⟨_, rfl⟩, h⟩
    · exact call_int_1 (meets_longText q hl hn) ⟨nodigits_of I.kIn I.nolimit hd, show _ ∧ _ from ⟨rfl, ⟨.int n, H, I.tok _, ⟨_, rfl⟩, h⟩⟩⟩
end
/-! ### the number of a text of digits, with a sign perhaps -/
theorem int_dig4 {x : Str} (h : digB (tl x) = true) (hl : x.length ≤ 4300) : intText? x = some ((NumText.digitsVal (tl x) : Nat) : Int) := intText_digits (digB_iff.mp h).1 (digB_iff.mp h).2 hl
theorem int_neg4 {x : Str} {l : List Nat} (e : tl x = 45 :: l) (h : digB l = true) (hl : x.length ≤ 4300) : intText? x = some (-((NumText.digitsVal l : Nat) : Int)) := intText_neg e (digB_iff.mp h).1 (digB_iff.mp h).2 hl
theorem seen_signs {x : Str} (h : ∀ c ∈ tl x, c = 45 ∨ (48 ≤ c ∧ c ≤ 57)) : (numSeenOf x).length = x.length := by
  rw [(numText_signs h).2]; exact (len_tl x).symm
end Kb

namespace Kb
open PySem PySem.Spec PyProof.Rows L2 TL
/-! ### a table of the module: text keys, values that a reading knows -/
def lookL : List (Str × V) → Str → Option V
  | [], _ => none
  | p :: r, z => if p.1 = z then some p.2 else lookL r z
def KeysAre : List DictEntry → List (Str × V) → Prop
  | [], [] => True
  | e :: r, p :: l => (∃ t, e.key = .str p.1 t) ∧ RelV p.2 e.val ∧ KeysAre r l
  | _, _ => False
theorem refKey_str {e : DictEntry} {x : Str} {t : Tok} (h : e.key = .str x t) : e.refKey = false := by
  unfold DictEntry.refKey; rw [h]
theorem keysAre_ref : ∀ {es : List DictEntry} {l : List (Str × V)}, KeysAre es l → es.any (·.refKey) = false
  | [], [], _ => rfl
  | e :: r, p :: l, ⟨⟨t, h1⟩, _, h3⟩ => by rw [List.any_cons, refKey_str h1, keysAre_ref h3]; rfl
theorem keysAre_find (z : Str) : ∀ {es : List DictEntry} {l : List (Str × V)}, KeysAre es l → (lookL l z = none ∧ es.find? (·.key.isStr z) = none) ∨ ∃ v e, lookL l z = some v ∧ es.find? (·.key.isStr z) = some e ∧ RelV v e.val
  | [], [], _ => .inl ⟨rfl, rfl⟩
  | e :: r, p :: l, ⟨⟨t, h1⟩, h2, h3⟩ => by
    by_cases hz : p.1 = z
    · refine .inr ⟨p.2, e, ?_, ?_, h2⟩
      · simp [lookL, hz]
      · rw [List.find?_cons]; simp [h1, Value.isStr, hz]
    · have e1 : lookL (p :: l) z = lookL l z := by simp [lookL, hz]
      have e2 : (e :: r).find? (·.key.isStr z) = r.find? (·.key.isStr z) := by
        have hb : e.key.isStr z = false := by rw [h1]; show (p.1 == z) = false; exact beq_eq_false_iff_ne.mpr hz
        rw [List.find?_cons]; simp only [hb]
      rw [e1, e2]; exact keysAre_find z h3
def Tabl (K : PySem.W.Frag) (w : World) (l : List (Str × V)) (d : Addr) : Prop := ∃ es n, KDict K w d es n ∧ KeysAre es.toList l
theorem Tabl.look {K : PySem.W.Frag} {w : World} {l : List (Str × V)} {d : Addr} {es : Array DictEntry} {n : Nat} (D : KDict K w d es n) (h : KeysAre es.toList l) (z : Str) :
    (lookL l z = none ∧ PySem.W.nsIn K d z = some none) ∨ ∃ v u, lookL l z = some v ∧ PySem.W.nsIn K d z = some (some u) ∧ RelV v u := by
  have hr := keysAre_ref h
  unfold PySem.W.nsIn
  rw [D.at_]
  rcases keysAre_find z h with ⟨h1, h2⟩ | ⟨v, e, h1, h2, h3⟩
  · refine .inl ⟨h1, ?_⟩
    simp only [h2, hr]; rfl
  · refine .inr ⟨v, e.val, h1, ?_, h3⟩
    simp only [h2]
def Tab (K : PySem.W.Frag) (w : World) (mg : Str → Option Value) (x : Str) (l : List (Str × V)) : Prop := ∃ d, mg x = some (.ref d) ∧ Tabl K w l d
theorem Tab.mk' {K : PySem.W.Frag} {w : World} {mg : Str → Option Value} {h : Heap} {x : Str} {l : List (Str × V)} {d : Addr} {es : Array DictEntry} {n : Nat} (X : K.In h) (G : h.Ns PySem.mainGlobals mg) (a : PySem.W.nsIn K PySem.mainGlobals x = some (some (.ref d)))
    (at_ : K.lookup d = some ⟨.type "dict", none, .dict es n, #[]⟩) (lit : PySem.W.KeysLit w.params es.toList) (low : (d == sysModules) = false) (ka : KeysAre es.toList l) : Tab K w mg x l :=
  ⟨d, PySem.W.mg_of X G a, es, n, ⟨at_, lit, low⟩, ka⟩
theorem tupIdx_mk {K : PySem.W.Frag} {mg : Str → Option Value} {x : Str} {a : Addr} {its : Array Value} {n : Nat} {sl : Array (Option Value)} (h : mg x = some (.ref a)) (l : K.lookup a = some ⟨.type "tuple", none, .seq its n, sl⟩) :
    ∃ a o, mg x = some (.ref a) ∧ K.lookup a = some o ∧ o.cls = .type "tuple" ∧ o.dict = none := ⟨a, _, h, l, rfl, rfl⟩
def rInTab (l : List (Str × V)) (d : Addr) (neg : Bool) : R2 := fun x y H Q => ∃ z, x = .str z ∧ y = .ref d ∧ Q (.bl ((lookL l z).isSome != neg)) H
section
variable {X : Cx} {d : Addr} {l : List (Str × V)}
theorem op_inTab (T : Tabl X.K X.w l d) : OpR X (compareOp .In) (rInTab l d false) := by
  obtain ⟨es, n, D, ka⟩ := T
  intro pins s σ H x y v u Q I rx ry h
  obtain ⟨z, rfl, rfl, q⟩ := h
  refine op_in_kd D pins s σ H _ _ v u Q I rx ry ?_
  rcases Tabl.look D ka z with ⟨h1, h2⟩ | ⟨v, u, h1, h2, _⟩
  · rw [h1] at q; exact ⟨z, none, rfl, rfl, h2, q⟩
  · rw [h1] at q; exact ⟨z, some u, rfl, rfl, h2, q⟩
theorem op_notInTab (T : Tabl X.K X.w l d) : OpR X (compareOp .NotIn) (rInTab l d true) := by
  obtain ⟨es, n, D, ka⟩ := T
  intro pins s σ H x y v u Q I rx ry h
  obtain ⟨z, rfl, rfl, q⟩ := h
  refine op_notIn_kd D pins s σ H _ _ v u Q I rx ry ?_
  rcases Tabl.look D ka z with ⟨h1, h2⟩ | ⟨v, u, h1, h2, _⟩
  · rw [h1] at q; exact ⟨z, none, rfl, rfl, h2, q⟩
  · rw [h1] at q; exact ⟨z, some u, rfl, rfl, h2, q⟩
def rIxTab (l : List (Str × V)) (d : Addr) : R2 := fun x y H Q => ∃ z v, x = .ref d ∧ y = .str z ∧ lookL l z = some v ∧ Q v H
theorem ix_tab (T : Tabl X.K X.w l d) : IxR X (rIxTab l d) := by
  obtain ⟨es, n, D, ka⟩ := T
  intro value slice pins s σ H x y v u Q I rx ry h hs
  obtain ⟨z, r, rfl, rfl, hl, q⟩ := h
  refine ix_kdict value slice pins s σ H _ _ v u Q I rx ry ?_ hs
  rcases Tabl.look D ka z with ⟨h1, _⟩ | ⟨v, u, h1, h2, h3⟩
  · rw [h1] at hl; cases hl
  · obtain rfl : v = r := Option.some.inj (h1.symm.trans hl)
    exact ⟨d, z, v, rfl, rfl, ⟨es, n, u, D.at_, D.lit, h2, h3⟩, q⟩
end
end Kb

namespace Kb
open PySem PySem.Spec PyProof.Rows L2 TL
/-! ### paths as lists of signs -/
/-- a sign that a path may have -/
def psign (c : Nat) : Bool := decide (33 ≤ c) && decide (c ≤ 126) && (decide (c ≠ 59) && decide (c ≠ 63) && decide (c ≠ 35)) && decide (c ≠ 37)
def pathB (l : List Nat) : Bool := decide (l.length ≤ 200) && ([47].isPrefixOf l && l.all psign)
def pfB (p q : List Nat) : Bool := decide (p = q) || (q.isPrefixOf p && ([47].isSuffixOf q || p[q.length]? == some 47))
/-- all in front of the last slash, or a slash -/
def dflt (l : List Nat) : List Nat := if joinL [47] (sp1 47 l).dropLast = [] then [47] else joinL [47] (sp1 47 l).dropLast
theorem tl_slash : tl ("/" : Str) = [47] := by decide +kernel
theorem slash_eq : ("/" : Str) = ⟨#[47]⟩ := ext_tl tl_slash
theorem dflt_cut {l a b : List Nat} (e : l = a ++ 47 :: b) (hb : 47 ∉ b) : dflt l = if a = [] then [47] else a := by
  unfold dflt
  have : (sp1 47 l).dropLast = sp1 47 a := by
    rw [e, sp1_app, sp1_of_free hb, List.dropLast_concat]
  rw [this, joinL_sp1]
theorem pathB_len {x : Str} (h : pathB (tl x) = true) : x.length ≤ 200 := by
  unfold pathB at h
  rw [Bool.and_eq_true, decide_eq_true_eq] at h
  rw [len_tl]; exact h.1
theorem pathB_head {x : Str} (h : pathB (tl x) = true) : ∃ r, tl x = 47 :: r := by
  unfold pathB at h
  rw [Bool.and_eq_true, Bool.and_eq_true, List.isPrefixOf_iff_prefix] at h
  obtain ⟨r, e⟩ := h.2.1
  exact ⟨r, e.symm⟩
/-- the signs a, b, the dot and the slash -/
def sgn4 (z : Str) : Bool := (tl z).all fun c => c == 47 || c == 97 || c == 98 || c == 46
def PathQ (m : Nat) (x : Str) : Prop := (∃ r, tl x = 47 :: r) ∧ sgn4 x = true ∧ x.length ≤ m
theorem sgn4_app {x y : Str} (h1 : sgn4 x = true) (h2 : sgn4 y = true) : sgn4 (x ++ y) = true := by
  unfold sgn4 at *
  rw [tl_append, List.all_append, h1, h2]; rfl
theorem PathQ.app {m k : Nat} {x y : Str} (h : PathQ m x) (h2 : sgn4 y = true) (h3 : y.length ≤ k) : PathQ (m + k) (x ++ y) := by
  obtain ⟨⟨r, e⟩, h1, h4⟩ := h
  refine ⟨⟨r ++ tl y, by rw [tl_append, e]; rfl⟩, sgn4_app h1 h2, ?_⟩
  rw [Str.length_append]; omega
theorem PathQ.more {m k : Nat} {x : Str} (h : PathQ m x) (e : m ≤ k) : PathQ k x := ⟨h.1, h.2.1, Nat.le_trans h.2.2 e⟩
theorem PathQ.path {m : Nat} {x : Str} (h : PathQ m x) (e : m ≤ 200) : pathB (tl x) = true := by
  obtain ⟨⟨r, e1⟩, h2, h3⟩ := h
  unfold pathB
  rw [decide_eq_true (by rw [len_tl] at h3; omega), Bool.true_and]
  have a : [47].isPrefixOf (tl x) = true := List.isPrefixOf_iff_prefix.mpr ⟨r, e1.symm⟩
  rw [a, Bool.true_and, List.all_eq_true]
  intro s hs
  unfold sgn4 at h2
  rw [List.all_eq_true] at h2
  have := h2 s hs
  simp only [Bool.or_eq_true, beq_iff_eq] at this
  rcases this with ((rfl | rfl) | rfl) | rfl <;> decide
/-- the default path: a part of it -/
theorem dflt_cases {l r : List Nat} (e : l = 47 :: r) : ∃ a b, l = a ++ 47 :: b ∧ 47 ∉ b ∧ ((a = [] ∧ dflt l = [47]) ∨ (a ≠ [] ∧ dflt l = a)) := by
  obtain ⟨a, b, e2, hb⟩ := last_cut (c := 47) (l := l) (by rw [e]; exact List.mem_cons_self ..)
  refine ⟨a, b, e2, hb, ?_⟩
  by_cases ha : a = []
  · exact .inl ⟨ha, by rw [dflt_cut e2 hb, if_pos ha]⟩
  · exact .inr ⟨ha, by rw [dflt_cut e2 hb, if_neg ha]⟩
theorem dflt_head {l r : List Nat} (e : l = 47 :: r) : ∃ r2, dflt l = 47 :: r2 := by
  obtain ⟨a, b, e2, hb, (⟨ha, h⟩ | ⟨ha, h⟩)⟩ := dflt_cases e
  · exact ⟨[], h⟩
  · rw [h]
    obtain ⟨x, a2, rfl⟩ := List.exists_cons_of_ne_nil ha
    rw [e] at e2
    simp only [List.cons_append, List.cons.injEq] at e2
    exact ⟨a2, by rw [← e2.1]⟩
theorem dflt_sub {l r : List Nat} (e : l = 47 :: r) : (dflt l).length ≤ l.length ∧ ∀ c ∈ dflt l, c ∈ l := by
  obtain ⟨a, b, e2, hb, (⟨ha, h⟩ | ⟨ha, h⟩)⟩ := dflt_cases e
  · rw [h, e]
    exact ⟨by simp, fun c hc => by rw [List.mem_singleton.mp hc]; exact List.mem_cons_self ..⟩
  · rw [h, e2]
    exact ⟨by simp, fun c hc => List.mem_append_left _ hc⟩
theorem dflt_less {l r : List Nat} (e : l = 47 :: r) (h0 : l ≠ [47]) : (dflt l).length < l.length := by
  obtain ⟨a, b, e2, hb, (⟨ha, h⟩ | ⟨ha, h⟩)⟩ := dflt_cases e
  · rw [h, e2, ha]
    cases b with
    | nil => exact absurd (by rw [e2, ha]; rfl) h0
    | cons x b => simp
  · rw [h, e2]; simp
theorem PathQ.dflt {m : Nat} {x y : Str} (h : PathQ m x) (e : tl y = dflt (tl x)) : PathQ m y := by
  obtain ⟨⟨r, e1⟩, h2, h3⟩ := h
  obtain ⟨h4, h5⟩ := dflt_sub e1
  obtain ⟨r2, e2⟩ := dflt_head e1
  refine ⟨⟨r2, by rw [e, e2]⟩, ?_, ?_⟩
  · unfold sgn4 at *
    rw [List.all_eq_true] at *
    intro c hc
    rw [e] at hc
    exact h2 c (h5 c hc)
  · rw [len_tl, e]
    rw [len_tl] at h3
    omega
/-! ### to fit is an order -/
theorem pf_iff {p q : List Nat} : pfB p q = true ↔ p = q ∨ (q <+: p ∧ ((∃ r, q = r ++ [47]) ∨ p[q.length]? = some 47)) := by
  unfold pfB
  rw [Bool.or_eq_true, Bool.and_eq_true, Bool.or_eq_true, decide_eq_true_eq, List.isPrefixOf_iff_prefix, List.isSuffixOf_iff_suffix, beq_iff_eq]
  constructor
  · rintro (h | ⟨h, (⟨r, e⟩ | h2)⟩)
    · exact .inl h
    · exact .inr ⟨h, .inl ⟨r, e.symm⟩⟩
    · exact .inr ⟨h, .inr h2⟩
  · rintro (h | ⟨h, (⟨r, e⟩ | h2)⟩)
    · exact .inl h
    · exact .inr ⟨h, .inl ⟨r, e.symm⟩⟩
    · exact .inr ⟨h, .inr h2⟩
theorem pf_self (p : List Nat) : pfB p p = true := pf_iff.mpr (.inl rfl)
theorem pf_slash {p r : List Nat} (e : p = 47 :: r) : pfB p [47] = true := pf_iff.mpr (.inr ⟨⟨r, e.symm⟩, .inl ⟨[], rfl⟩⟩)
theorem pf_pre {p q : List Nat} (h : pfB p q = true) : q <+: p := by
  rcases pf_iff.mp h with rfl | h
  · exact List.prefix_refl _
  · exact h.1
theorem pf_anti {p q : List Nat} (h : pfB p q = true) (k : pfB q p = true) : p = q := by
  have a := pf_pre h
  have b := pf_pre k
  exact b.eq_of_length (Nat.le_antisymm b.length_le a.length_le)
theorem pre_at {p q : List Nat} (h : q <+: p) {i : Nat} (hi : i < q.length) : p[i]? = q[i]? := by
  obtain ⟨r, rfl⟩ := h
  rw [List.getElem?_append_left hi]
theorem pf_trans {p q r : List Nat} (h : pfB p q = true) (k : pfB q r = true) : pfB p r = true := by
  rcases pf_iff.mp k with rfl | ⟨k1, k2⟩
  · exact h
  have a := pf_pre h
  refine pf_iff.mpr (.inr ⟨k1.trans a, ?_⟩)
  rcases k2 with k2 | k2
  · exact .inl k2
  · have : r.length < q.length := by
      have := (List.getElem?_eq_some_iff.mp k2).1
      exact this
    exact .inr (by rw [pre_at a this]; exact k2)
theorem pf_comp {p q r : List Nat} (h : pfB p q = true) (k : pfB p r = true) (hl : q.length ≤ r.length) : pfB r q = true := by
  have a := pf_pre h
  have b := pf_pre k
  have c : q <+: r := List.prefix_of_prefix_length_le a b hl
  rcases Nat.lt_or_ge q.length r.length with g | g
  · rcases pf_iff.mp h with rfl | ⟨_, h2⟩
    · have := b.length_le
      omega
    · refine pf_iff.mpr (.inr ⟨c, ?_⟩)
      rcases h2 with h2 | h2
      · exact .inl h2
      · exact .inr (by rw [← pre_at b g]; exact h2)
  · exact pf_iff.mpr (.inl (c.eq_of_length (Nat.le_antisymm hl g)).symm)
theorem pf_dflt {p r : List Nat} (e : p = 47 :: r) : pfB p (dflt p) = true := by
  obtain ⟨a, b, e2, hb, (⟨ha, h⟩ | ⟨ha, h⟩)⟩ := dflt_cases e
  · rw [h]; exact pf_slash e
  · rw [h]
    exact pf_iff.mpr (.inr ⟨⟨47 :: b, e2.symm⟩, .inr (by rw [e2]; simp)⟩)
end Kb

namespace Kb
open PySem PySem.Spec PyProof.Rows L2 TL
/-! ### texts of plain signs -/
def ascii (x : Str) : Prop := ∀ s ∈ tl x, s < 128
theorem ascii.app {x y : Str} (a : ascii x) (b : ascii y) : ascii (x ++ y) := fun s hs => by
  rw [tl_append] at hs
  rcases List.mem_append.mp hs with q | q
  · exact a s q
  · exact b s q
theorem joinE : ∀ L : List (List Nat), joinL [] L = L.flatten
  | [] => rfl
  | [p] => by simp [joinL]
  | p :: q :: r => by
    show p ++ ([] ++ joinL [] (q :: r)) = _
    rw [joinE (q :: r)]
    rfl
theorem ascii.join {c : Str} {W : List Str} (hc : ascii c) (h : ∀ x ∈ W, ascii x) : ascii (Txt.join c W) := fun s hs => by
  rw [join_tl] at hs
  induction W with
  | nil => simp [joinL] at hs
  | cons p W ih =>
    cases W with
    | nil => exact h p (List.mem_cons_self ..) s (by simpa [joinL] using hs)
    | cons q r =>
      have hs : s ∈ tl p ++ (tl c ++ joinL (tl c) ((q :: r).map tl)) := hs
      rcases List.mem_append.mp hs with g | g
      · exact h p (List.mem_cons_self ..) s g
      · rcases List.mem_append.mp g with g | g
        · exact hc s g
        · exact ih (fun x hx => h x (List.mem_cons_of_mem _ hx)) g
theorem ascii.cut {x : Str} {lo hi : Option Int} (h : ascii x) : ascii (cutS x lo hi) := fun s hs => by
  have hs : s ∈ ((tl x).drop (HT.sIx x.length 0 lo)).take (HT.sIx x.length x.length hi - HT.sIx x.length 0 lo) := hs
  exact h s (List.mem_of_mem_drop (List.mem_of_mem_take hs))
theorem cut_len {x : Str} {lo hi : Option Int} : (cutS x lo hi).length ≤ x.length := by
  rw [len_tl, len_tl]
  show (((tl x).drop (HT.sIx x.length 0 lo)).take (HT.sIx x.length x.length hi - HT.sIx x.length 0 lo)).length ≤ _
  rw [List.length_take, List.length_drop]
  omega
theorem ascii.rep {x y : Str} {n : Nat} (h : ascii x) (e : tl y = (List.replicate n (tl x)).flatten) : ascii y := fun s hs => by
  rw [e, List.mem_flatten] at hs
  obtain ⟨l, hl, hs⟩ := hs
  rw [List.eq_of_mem_replicate hl] at hs
  exact h s hs
theorem ascii.up {x : Str} (h : ascii x) : ascii (Txt.upper x) ∧ (Txt.upper x).length = x.length := by
  have e : tl (Txt.upper x) = (tl x).map up1 := by rw [upper_ascii h]; simp [tl]
  refine ⟨fun s hs => ?_, by rw [len_tl, e, List.length_map, ← len_tl]⟩
  rw [e] at hs
  obtain ⟨c, hc, rfl⟩ := List.mem_map.mp hs
  have : ∀ c, c < 128 → up1 c < 128 := by decide +kernel
  exact this c (h c hc)
theorem lower_tl {x : Str} (h : ascii x) : tl (Txt.lower x) = (tl x).map lo1 := by rw [lower_ascii h]; simp [tl]
theorem ascii.low {x : Str} (h : ascii x) : ascii (Txt.lower x) ∧ (Txt.lower x).length = x.length := by
  refine ⟨fun s hs => ?_, by rw [len_tl, lower_tl h, List.length_map, ← len_tl]⟩
  rw [lower_tl h] at hs
  obtain ⟨c, hc, rfl⟩ := List.mem_map.mp hs
  have : ∀ c, c < 128 → lo1 c < 128 := by decide +kernel
  exact this c (h c hc)
/-- a sign of a written text -/
theorem sign_at {z : Str} {r : Int} (h0 : 0 ≤ r) (h1 : r < (z.length : Int)) (ha : ascii z) : ∃ c : Nat, atI z.cps.toList r = some c ∧ ascii (⟨#[c]⟩ : Str) := by
  obtain ⟨n, rfl⟩ : ∃ n : Nat, r = (n : Int) := ⟨r.toNat, by omega⟩
  have hn : n < (tl z).length := by rw [← len_tl]; omega
  refine ⟨(tl z)[n], atI_nat (List.getElem?_eq_getElem hn), fun s hs => ?_⟩
  have : s = (tl z)[n] := by simpa [tl] using hs
  rw [this]
  exact ha _ (List.getElem_mem hn)
end Kb
namespace Kb
open PySem PySem.Spec PyProof.Rows L2 TL
theorem ends_at {x : Str} (h : 1 ≤ x.length) : ∃ a z : Nat, atI x.cps.toList 0 = some a ∧ atI x.cps.toList (-1) = some z ∧ (tl x).head? = some a ∧ (tl x).getLast? = some z := by
  have hne : tl x ≠ [] := fun e => by rw [len_tl, e] at h; simp at h
  obtain ⟨r, d, er⟩ := snoc_of_ne hne
  obtain ⟨a, r2, ea⟩ : ∃ a r2, tl x = a :: r2 := List.exists_cons_of_ne_nil hne
  refine ⟨a, d, ?_, ?_, by rw [ea]; rfl, by rw [er, List.getLast?_concat]⟩
  · show atI (tl x) ((0 : Nat) : Int) = _; rw [ea]; exact atI_nat rfl
  · show atI (tl x) (-1) = _; rw [er]; exact atI_last r d
theorem ascii_lit {x : Str} (h : (tl x).all (· < 128) = true) : ascii x := fun s hs => by
  have := List.all_eq_true.mp h s hs
  simpa using this
end Kb
namespace Kb
open PySem PySem.Spec PyProof.Rows L2 TL
/-- a comprehension over a text -/
theorem lc_str {z : Str} {g : TG} {tt : TT} {te : TE} {vs : List Nat} {σ : L2.St} {H1 : Hp} {D : Addr} {Qd : Hp → Prop} (Pv : Nat → Hp → Prop) (h0 : Pv 0 (L2.upd H1 D (.lst [])))
    (hs : ∀ i c H, (tl z)[i]? = some c → Pv i H → g (.str ⟨#[c]⟩) (wipe σ vs) H fun σ2 H2 => wipe σ2 vs = wipe σ vs ∧ tt σ2 H2 fun b H3 =>
      if b = true then te σ2 H3 fun y H4 => ∃ acc, H4 D = some (.lst acc) ∧ acc.length < sizeLine ∧ Pv (i + 1) (L2.upd H4 D (.lst (acc ++ [y]))) else Pv (i + 1) H3) (hd : ∀ H, Pv (tl z).length H → Qd H) :
    ∃ W : Nat → Nat → Hp → Prop, (∃ m, W 0 m (L2.upd H1 D (.lst []))) ∧ ∀ i m H, W i m H →
      ((Its z).stop i H ∧ Qd H) ∨ ((Its z).go i H ∧ ∃ Nx : Hp → Prop, (∀ H', Nx H' → ∃ m', m' < m ∧ W (i + 1) m' H') ∧ ∀ x H', (Its z).yld i H x H' → g x (wipe σ vs) H' fun σ2 H2 => wipe σ2 vs = wipe σ vs ∧ tt σ2 H2 fun b H3 =>
        if b = true then te σ2 H3 fun y H4 => ∃ acc, H4 D = some (.lst acc) ∧ acc.length < sizeLine ∧ Nx (L2.upd H4 D (.lst (acc ++ [y]))) else Nx H3) := by
  refine lc_it walk_str Pv h0 (fun _ _ _ _ => trivial) (fun i x H H' hi p y => ?_) (fun H p => hd H (by rw [show (tl z).length = z.cps.size by simp [tl]]; exact p))
  obtain ⟨rfl, c, hc, rfl⟩ := y
  exact hs i c _ (by rw [← hc]; simp [tl]) p
/-- the last part of a text -/
def smallS (x : Str) : Prop := x.length ≤ 1000 ∧ ascii x
theorem lay_str {x : Str} (h : ascii x) : PyData.canLay0 (.str x) = true := by
  rw [PyData.canLay0]
  show x.cps.all _ = true
  rw [Array.all_eq_true_iff_forall_mem]
  intro s hs
  have := h s (Array.mem_toList_iff.mpr hs)
  exact decide_eq_true (by omega)
end Kb
namespace Kb
open PySem PySem.Spec PyProof.Rows L2 TL
theorem Same.put {H H1 : Hp} {L : Addr} {o : HO} (s : Same H H1) (h : H L = none) : Same H (L2.upd H1 L o) := fun b u e => by
  rw [upd_ne (ne_of_none e h)]
  exact s b u e
theorem all_take1 {α : Type} {p : α → Bool} {l : List α} {i : Nat} {c : α} (h : l[i]? = some c) : (l.take (i + 1)).all p = ((l.take i).all p && p c) := by
  rw [List.take_succ, h, List.all_append]
  simp
theorem eq_nil_snoc {α : Type} {W : List α} {x : α} : (W ++ [x] = []) ↔ False := by simp
theorem lay_strs {W : List Str} (h : ∀ w ∈ W, ascii w) : SeqAt.shaped (.list (W.map PyData.str)) = true := shaped_strs fun w hw => lay_str (h w hw)
theorem eqv_nil (W : List Str) : PyData.eqv (.list (W.map PyData.str)) (.list (([] : List Str).map PyData.str)) = decide (W = []) := by rw [PyData.eqv, eqvAll_strs]
theorem tl_lsig2 : ("abcdefghijklmnopqrstuvwxyz0123456789-" : Str).cps.toList = lsig := tl_lsig
theorem tl_digs2 : ("0123456789" : Str).cps.toList = digs := tl_digs
theorem ascii_mem {x : Str} {i c : Nat} (h : ascii x) (hi : (tl x)[i]? = some c) : ascii (⟨#[c]⟩ : Str) := fun s hs => by
  have : s = c := by simpa [tl] using hs
  rw [this]
  exact h c (List.mem_of_getElem? hi)
end Kb
namespace Kb
open PySem PySem.Spec PyProof.Rows L2 TL
theorem numB_iff {l : List Nat} : numB l = true ↔ ∃ j, j < 256 ∧ l = numL j := by
  constructor
  · intro h
    unfold numB at h
    rw [Bool.and_eq_true, Bool.and_eq_true, Bool.or_eq_true, decide_eq_true_eq, decide_eq_true_eq, decide_eq_true_eq] at h
    obtain ⟨hd, hv, hz⟩ := h
    obtain ⟨had, hne⟩ := digB_iff.mp hd
    refine ⟨NumText.digitsVal l, by omega, ?_⟩
    obtain ⟨n, hn⟩ : ∃ n, l.length = n + 1 := ⟨l.length - 1, by have := List.length_pos_iff.mpr hne; omega⟩
    have e := NumText.toDigits_digitsVal n l hn had (by
      rcases hz with rfl | hz
      · left; simp at hn; omega
      · right
        obtain ⟨c, r, rfl⟩ := List.exists_cons_of_ne_nil hne
        refine ⟨c, r, rfl, ?_⟩
        have := had c (List.mem_cons_self ..)
        have hc : c ≠ 48 := fun q => hz (by rw [q]; rfl)
        omega)
    show l = (Nat.toDigits 10 (NumText.digitsVal l)).map Char.toNat
    rw [e, List.map_map]
    refine (List.map_id l).symm.trans (List.map_congr_left fun c hc => ?_)
    have h1 := had c hc
    have : ∀ c, c < 58 → c = (Char.ofNat c).toNat := by decide +kernel
    exact this c (by omega)
  · rintro ⟨j, hj, rfl⟩
    have : ∀ j, j < 256 → numB (numL j) = true := by decide +kernel
    exact this j hj
end Kb
namespace Kb
open PySem PySem.Spec PyProof.Rows L2 TL PySem.StrLaws Builtin.Str
/-! ### texts that tell hosts -/
def stripDot (l : List Nat) : List Nat := if l.getLast? = some 46 then l.dropLast else l
def tellsL (l : List Nat) : Bool := hostB (stripDot l)
def beginsB (l : List Nat) : Bool := hostB l || (hostB (l ++ [97]) || hostB (l ++ [46, 97]))
def goodL (l : List Nat) : Bool := tellsL l || beginsB l
def PlaceIs (m : List Nat) (k : Nat) : Prop := (k = m.length + 1 ∧ ∀ j, j < m.length → goodL (m.take (j + 1)) = true) ∨ (1 ≤ k ∧ k ≤ m.length ∧ goodL (m.take k) = false ∧ ∀ j, j + 1 < k → goodL (m.take (j + 1)) = true)
theorem PlaceIs.uniq {m : List Nat} {k k' : Nat} (a : PlaceIs m k) (b : PlaceIs m k') : k = k' := by
  rcases a with ⟨a1, a2⟩ | ⟨a0, a1, a2, a3⟩ <;> rcases b with ⟨b1, b2⟩ | ⟨b0, b1, b2, b3⟩
  · omega
  · have := a2 (k' - 1) (by omega)
    rw [show k' - 1 + 1 = k' by omega, b2] at this
    cases this
  · have := b2 (k - 1) (by omega)
    rw [show k - 1 + 1 = k by omega, a2] at this
    cases this
  · rcases Nat.lt_trichotomy k k' with q | q | q
    · have := b3 (k - 1) (by omega)
      rw [show k - 1 + 1 = k by omega, a2] at this
      cases this
    · exact q
    · have := a3 (k' - 1) (by omega)
      rw [show k' - 1 + 1 = k' by omega, b2] at this
      cases this
theorem host_dot {l : List Nat} (h : l.getLast? = some 46) : hostB l = false := by
  have hne : l ≠ [] := fun e => by rw [e] at h; cases h
  obtain ⟨r, d, er⟩ := snoc_of_ne hne
  rw [er, List.getLast?_concat] at h
  have hd : d = 46 := Option.some.inj h
  subst hd
  have e : sp1 46 l = sp1 46 r ++ [[]] := by rw [er, sp1_app]; rfl
  unfold hostB hostL
  have : (sp1 46 l).all labB = false := by
    rw [e, List.all_append]
    have : [([] : List Nat)].all labB = false := by decide +kernel
    rw [this, Bool.and_false]
  rw [this, Bool.false_and, Bool.and_false, Bool.and_false]
theorem strip_other {l : List Nat} (h : l.getLast? ≠ some 46) : stripDot l = l := if_neg h
theorem strip_dot {l : List Nat} : stripDot (l ++ [46]) = l := by
  unfold stripDot
  rw [if_pos (by rw [List.getLast?_concat]), List.dropLast_concat]
theorem tellsL_or (l : List Nat) : tellsL l = (hostB l || (decide (l.getLast? = some 46) && hostB l.dropLast)) := by
  unfold tellsL stripDot
  by_cases h : l.getLast? = some 46
  · rw [if_pos h, host_dot h, decide_eq_true h]; rfl
  · rw [if_neg h, decide_eq_false h, Bool.false_and, Bool.or_false]
theorem law_begins (l : List Nat) : (tellsL l || (tellsL (l ++ [97]) || (tellsL (l ++ [46, 97]) || tellsL (l ++ [46])))) = goodL l := by
  have e1 : tellsL (l ++ [97]) = hostB (l ++ [97]) := by unfold tellsL; rw [strip_other (by rw [List.getLast?_concat]; decide)]
  have e2 : tellsL (l ++ [46, 97]) = hostB (l ++ [46, 97]) := by
    unfold tellsL
    rw [strip_other]
    rw [show l ++ [46, 97] = (l ++ [46]) ++ [97] by simp, List.getLast?_concat]; decide
  have e3 : tellsL (l ++ [46]) = hostB l := by unfold tellsL; rw [strip_dot]
  rw [e1, e2, e3]
  unfold goodL beginsB
  cases tellsL l <;> cases hostB l <;> cases hostB (l ++ [97]) <;> cases hostB (l ++ [46, 97]) <;> rfl
theorem removesuffix_dot (x : Str) : tl (Txt.removesuffix x ("." : Str)) = stripDot (tl x) := by
  unfold Txt.removesuffix
  have d1 : ("." : Str).length = 1 := by decide +kernel
  by_cases h : (tl x).getLast? = some 46
  · have hne : tl x ≠ [] := fun e => by rw [e] at h; cases h
    obtain ⟨r, d, er⟩ := snoc_of_ne hne
    rw [er, List.getLast?_concat] at h
    have hd : d = 46 := Option.some.inj h
    subst hd
    have hl : x.length = r.length + 1 := by rw [len_tl, er]; simp
    have hs : subAt x ("." : Str) (x.length - ("." : Str).length) = true := by
      rw [subAt_eq, d1, hl]
      show (List.take 1 (List.drop (r.length + 1 - 1) (tl x)) == tl ("." : Str)) = true
      rw [er, tl_dot, Nat.add_sub_cancel, List.drop_left]
      rfl
    rw [if_pos (by rw [hs, d1, hl]; simp), er, strip_dot]
    show tl (if x.length - ("." : Str).length - 0 == x.length then x else strSub x 0 (x.length - ("." : Str).length)) = r
    rw [if_neg (by rw [d1, hl]; simp), tl_strSub, er, d1, hl]
    simp
  · rw [strip_other h, if_neg]
    · rfl
    · intro g
      rw [Bool.and_eq_true] at g
      obtain ⟨g1, g2⟩ := g
      have g1 : ("." : Str).length ≤ x.length := of_decide_eq_true g1
      rw [d1] at g1
      rw [subAt_eq, d1] at g2
      have g2 : (List.take 1 (List.drop (x.length - 1) (tl x)) == tl ("." : Str)) = true := g2
      rw [tl_dot] at g2
      have hne : tl x ≠ [] := fun e => by rw [len_tl, e] at g1; simp at g1
      obtain ⟨r, d, er⟩ := snoc_of_ne hne
      have hl : x.length = r.length + 1 := by rw [len_tl, er]; simp
      rw [hl, Nat.add_sub_cancel, er, List.drop_left] at g2
      have : d = 46 := by simpa using g2
      rw [er, List.getLast?_concat, this] at h
      exact h rfl
theorem strip_low {l : List Nat} (h : ∀ s ∈ l, s < 128) : (stripDot l).map lo1 = stripDot (l.map lo1) := by
  by_cases hne : l = []
  · rw [hne]; rfl
  obtain ⟨r, d, rfl⟩ := snoc_of_ne hne
  have hd := h d (List.mem_append_right _ (List.mem_singleton.mpr rfl))
  have key : ∀ c, c < 128 → (lo1 c = 46 ↔ c = 46) := by decide +kernel
  rw [List.map_append, List.map_cons, List.map_nil]
  by_cases q : d = 46
  · subst q
    rw [strip_dot, show lo1 46 = 46 by decide, strip_dot]
  · rw [strip_other (by rw [List.getLast?_concat]; simpa using q), strip_other (by rw [List.getLast?_concat]; simpa using fun e => q ((key d hd).mp e)), List.map_append]
    rfl
def lowL (x : Str) : List Nat := (tl x).map lo1
theorem lowT_tl {x : Str} (h : ascii x) : tl (Txt.lower (Txt.removesuffix x ("." : Str))) = stripDot (lowL x) := by
  have e := removesuffix_dot x
  have a : ascii (Txt.removesuffix x ("." : Str)) := fun s hs => by
    rw [e] at hs
    unfold stripDot at hs
    split at hs
    · exact h s ((List.dropLast_sublist _).subset hs)
    · exact h s hs
  rw [lower_tl a, e]
  exact strip_low h
end Kb
namespace Kb
open PySem PySem.Spec PyProof.Rows L2 TL PySem.StrLaws Builtin.Str
theorem cutS_m1 (z : Str) : tl (cutS z none (some (-1))) = (tl z).dropLast := by
  show ((tl z).drop (HT.sIx z.length 0 none)).take (HT.sIx z.length z.length (some (-1)) - HT.sIx z.length 0 none) = _
  rw [HT.sIx_none, List.drop_zero, Nat.sub_zero, List.dropLast_eq_take, len_tl]
  have e : HT.sIx (tl z).length (tl z).length (some (-1)) = (tl z).length - 1 := by
    show (if (-1 : Int) < 0 then ((-1 : Int) + ((tl z).length : Int)).toNat else min (-1 : Int).toNat (tl z).length) = _
    rw [if_pos (by decide)]
    omega
  rw [e]
theorem cutS_l1 (z : Str) : tl (cutS z (some (-1)) none) = lastN 1 (tl z) := by
  show ((tl z).drop (HT.sIx z.length 0 (some (-1)))).take (HT.sIx z.length z.length none - HT.sIx z.length 0 (some (-1))) = _
  rw [HT.sIx_none, len_tl]
  have e : HT.sIx (tl z).length 0 (some (-1)) = (tl z).length - 1 := by
    show (if (-1 : Int) < 0 then ((-1 : Int) + ((tl z).length : Int)).toNat else min (-1 : Int).toNat (tl z).length) = _
    rw [if_pos (by decide)]
    omega
  rw [e]
  exact List.take_of_length_le (by rw [List.length_drop] <;> omega)
theorem last_dot (z : Str) : decide (V.str (cutS z (some (-1)) none) = V.str ("." : Str)) = decide ((tl z).getLast? = some 46) := by
  rw [Bool.eq_iff_iff, decide_eq_true_eq, decide_eq_true_eq, V.str.injEq, str_eq_iff, cutS_l1, tl_dot]
  by_cases h : tl z = []
  · rw [h]; simp [lastN]
  · obtain ⟨r, d, er⟩ := snoc_of_ne h
    rw [er, List.getLast?_concat]
    unfold lastN
    rw [List.length_append, List.length_singleton, Nat.add_sub_cancel, List.drop_left]
    simp
end Kb
namespace Kb
open PySem PySem.Spec PyProof.Rows L2 TL
def Ans03 (H' : Hp) (m : List Nat) (v : V) : Prop := (tellsL m = true ∧ ∃ (p : Addr) (y : Str), v = .ref p ∧ H' p = some (.lst [.str y]) ∧ tl y = stripDot m) ∨ (tellsL m = false ∧ ∃ k : Nat, v = .int (k : Nat) ∧ PlaceIs m k)
theorem strip_len {l : List Nat} : (stripDot l).length ≤ l.length := by
  unfold stripDot
  split
  · rw [List.length_dropLast]; omega
  · exact Nat.le_refl _
theorem rs_len (x : Str) : (Txt.removesuffix x ("." : Str)).length ≤ x.length := by
  rw [len_tl, removesuffix_dot, len_tl]; exact strip_len
end Kb
namespace Kb
open PySem PySem.Spec PyProof.Rows L2 TL
/-- the first place at which a text begins no host -/
def PlaceB (m : List Nat) (k : Nat) : Prop := (k = m.length + 1 ∧ ∀ j, j < m.length → beginsB (m.take (j + 1)) = true) ∨ (1 ≤ k ∧ k ≤ m.length ∧ beginsB (m.take k) = false ∧ ∀ j, j + 1 < k → beginsB (m.take (j + 1)) = true)
theorem PlaceB.uniq {m : List Nat} {k k' : Nat} (a : PlaceB m k) (b : PlaceB m k') : k = k' := by
  rcases a with ⟨a1, a2⟩ | ⟨a0, a1, a2, a3⟩ <;> rcases b with ⟨b1, b2⟩ | ⟨b0, b1, b2, b3⟩
  · omega
  · have := a2 (k' - 1) (by omega)
    rw [show k' - 1 + 1 = k' by omega, b2] at this
    cases this
  · have := b2 (k - 1) (by omega)
    rw [show k - 1 + 1 = k by omega, a2] at this
    cases this
  · rcases Nat.lt_trichotomy k k' with q | q | q
    · have := b3 (k - 1) (by omega)
      rw [show k - 1 + 1 = k by omega, a2] at this
      cases this
    · exact q
    · have := a3 (k' - 1) (by omega)
      rw [show k' - 1 + 1 = k' by omega, b2] at this
      cases this
end Kb
namespace Kb
open PySem PySem.Spec PyProof.Rows L2
theorem ty_same {K : PySem.W.Frag} {H H' : Hp} {v : V} {t : Value} (s : Same H H') (h : TyX K H v t) : TyX K H' v t := by
  cases h with
  | base h =>
    refine .base ?_
    cases h with
    | non => exact .non
    | bl x => exact .bl x
    | int i => exact .int i
    | str x => exact .str x
    | flt x => exact .flt x
    | lst e => exact .lst (s _ _ e)
    | frz e => exact .frz (s _ _ e)
    | tup e => exact .tup (s _ _ e)
    | dK e => exact .dK (s _ _ e)
    | dT e => exact .dT (s _ _ e)
    | ins e cl ha hn htk hm => exact .ins (s _ _ e) cl ha hn htk hm
  | byt b => exact .byt b
  | set e => exact .set (s _ _ e)
  | kList e c => exact .kList e c
  | kTuple e c => exact .kTuple e c
  | kDict e c => exact .kDict e c
  | fTuple e => exact .fTuple (s _ _ e)
  | fDict e => exact .fDict (s _ _ e)
end Kb

namespace Kb
open PySem PySem.Spec PyProof.Rows L2 TL
/-! ### texts of addresses -/
/-- the first beginning that is not good -/
def Bad1 (g : List Nat → Bool) (m : List Nat) (k : Nat) : Prop := (k = m.length + 1 ∧ ∀ j, j < m.length → g (m.take (j + 1)) = true) ∨ (1 ≤ k ∧ k ≤ m.length ∧ g (m.take k) = false ∧ ∀ j, j + 1 < k → g (m.take (j + 1)) = true)
theorem Bad1.uniq {g : List Nat → Bool} {m : List Nat} {k k' : Nat} (a : Bad1 g m k) (b : Bad1 g m k') : k = k' := by
  rcases a with ⟨a1, a2⟩ | ⟨a0, a1, a2, a3⟩ <;> rcases b with ⟨b1, b2⟩ | ⟨b0, b1, b2, b3⟩
  · omega
  · have := a2 (k' - 1) (by omega)
    rw [show k' - 1 + 1 = k' by omega, b2] at this
    cases this
  · have := b2 (k - 1) (by omega)
    rw [show k - 1 + 1 = k by omega, a2] at this
    cases this
  · rcases Nat.lt_trichotomy k k' with q | q | q
    · have := b3 (k - 1) (by omega)
      rw [show k - 1 + 1 = k by omega, a2] at this
      cases this
    · exact q
    · have := a3 (k' - 1) (by omega)
      rw [show k' - 1 + 1 = k' by omega, b2] at this
      cases this
theorem Bad1.le {g : List Nat → Bool} {m : List Nat} {k : Nat} (a : Bad1 g m k) : 1 ≤ k ∧ k ≤ m.length + 1 := by
  rcases a with ⟨a1, a2⟩ | ⟨a0, a1, a2, a3⟩ <;> omega
def hS : List Nat := [104, 116, 116, 112, 58, 47, 47]
def sS : List Nat := [104, 116, 116, 112, 115, 58, 47, 47]
def schB (m : List Nat) : Bool := m.isPrefixOf hS || m.isPrefixOf sS
def schN (m : List Nat) : Option (List Nat × Nat) := if hS.isPrefixOf m = true then some ([104, 116, 116, 112], 7) else if sS.isPrefixOf m = true then some ([104, 116, 116, 112, 115], 8) else none
def stop3 (c : Nat) : Bool := decide (c = 47) || (decide (c = 63) || decide (c = 35))
def stop2 (c : Nat) : Bool := decide (c = 63) || decide (c = 35)
def hEnd (l : List Nat) : Nat := (l.takeWhile fun c => !stop3 c).length
inductive PR where
  | ok (n : Nat)
  | bad (n : Nat)
def pathR (r : List Nat) : PR := if 200 < (r.takeWhile psign).length then .bad 200 else match r[(r.takeWhile psign).length]? with
  | none => .ok (r.takeWhile psign).length
  | some c => if stop2 c = true then .ok (r.takeWhile psign).length else .bad (r.takeWhile psign).length
theorem tw_at {p : Nat → Bool} : ∀ {l : List Nat} {i : Nat}, (l.take i).all p = true → i ≤ l.length → (∀ c, l[i]? = some c → p c = false) → (l.takeWhile p).length = i
  | [], i, _, h, _ => by have : i = 0 := by simpa using h
                         subst this; rfl
  | x :: l, 0, _, _, h => by rw [List.takeWhile_cons_of_neg (by rw [h x rfl]; exact Bool.false_ne_true)]; rfl
  | x :: l, i + 1, ha, hl, h => by
    rw [List.take_succ_cons, List.all_cons, Bool.and_eq_true] at ha
    rw [List.takeWhile_cons_of_pos ha.1, List.length_cons, tw_at ha.2 (by simpa using hl) fun c hc => h c (by simpa using hc)]
theorem tw_ge {p : Nat → Bool} : ∀ {l : List Nat} {i : Nat}, (l.take i).all p = true → i ≤ l.length → i ≤ (l.takeWhile p).length
  | _, 0, _, _ => Nat.zero_le _
  | [], i + 1, _, h => by simp at h
  | x :: l, i + 1, ha, hl => by
    rw [List.take_succ_cons, List.all_cons, Bool.and_eq_true] at ha
    rw [List.takeWhile_cons_of_pos ha.1, List.length_cons]
    have := tw_ge ha.2 (by simpa using hl)
    omega
theorem hEnd_at {l : List Nat} {i c : Nat} (h : (l.take i).all (fun c => !stop3 c) = true) (hc : l[i]? = some c) (hs : stop3 c = true) : hEnd l = i :=
  tw_at h (Nat.le_of_lt (List.getElem?_eq_some_iff.mp hc).1) fun d hd => by rw [hc] at hd; cases hd; rw [hs]; rfl
theorem hEnd_all {l : List Nat} (h : l.all (fun c => !stop3 c) = true) : hEnd l = l.length :=
  tw_at (by rw [List.take_length]; exact h) (Nat.le_refl _) fun c hc => by rw [List.getElem?_eq_none (Nat.le_refl _)] at hc; cases hc
theorem psign_stop {c : Nat} (h : stop2 c = true) : psign c = false := by
  unfold stop2 at h
  rw [Bool.or_eq_true, decide_eq_true_eq, decide_eq_true_eq] at h
  rcases h with rfl | rfl <;> decide
theorem pathR_stop {r : List Nat} {i c : Nat} (h : (r.take i).all psign = true) (hi : i ≤ 200) (hc : r[i]? = some c) (hs : stop2 c = true) : pathR r = .ok i := by
  have e := tw_at h (Nat.le_of_lt (List.getElem?_eq_some_iff.mp hc).1) fun d hd => by rw [hc] at hd; cases hd; exact psign_stop hs
  unfold pathR
  rw [e, if_neg (by omega), hc]
  exact if_pos hs
theorem pathR_sign {r : List Nat} {i c : Nat} (h : (r.take i).all psign = true) (hi : i ≤ 200) (hc : r[i]? = some c) (hs : stop2 c = false) (hp : psign c = false) : pathR r = .bad i := by
  have e := tw_at h (Nat.le_of_lt (List.getElem?_eq_some_iff.mp hc).1) fun d hd => by rw [hc] at hd; cases hd; exact hp
  unfold pathR
  rw [e, if_neg (by omega), hc]
  exact if_neg (by rw [hs]; exact Bool.false_ne_true)
theorem pathR_long {r : List Nat} {c : Nat} (h : (r.take 200).all psign = true) (hc : r[200]? = some c) (hp : psign c = true) : pathR r = .bad 200 := by
  have := tw_ge (p := psign) (l := r) (i := 201) (by rw [all_at hc, h, hp]; rfl) (List.getElem?_eq_some_iff.mp hc).1
  unfold pathR
  rw [if_pos (by omega)]
theorem pathR_end {r : List Nat} (h : r.all psign = true) (hl : r.length ≤ 200) : pathR r = .ok r.length := by
  have e := tw_at (p := psign) (l := r) (i := r.length) (by rw [List.take_length]; exact h) (Nat.le_refl _) fun c hc => by rw [List.getElem?_eq_none (Nat.le_refl _)] at hc; cases hc
  unfold pathR
  rw [e, if_neg (by omega), List.getElem?_eq_none (Nat.le_refl _)]
def lows (l : List Nat) : List Nat := l.map lo1
def AddrOk (L sc ho pa : List Nat) : Prop := ∃ n k, schN (lows L) = some (sc, n) ∧ tellsL (lows ((L.drop n).take (hEnd (L.drop n)))) = true ∧ ho = stripDot (lows ((L.drop n).take (hEnd (L.drop n)))) ∧
  pathR ((L.drop n).drop (hEnd (L.drop n))) = .ok k ∧ pa = if k = 0 then [47] else ((L.drop n).drop (hEnd (L.drop n))).take k
def AddrBad (L : List Nat) (m : Nat) : Prop := (schN (lows L) = none ∧ Bad1 schB (lows L) m) ∨ ∃ sc n, schN (lows L) = some (sc, n) ∧
  ((tellsL (lows ((L.drop n).take (hEnd (L.drop n)))) = false ∧ ∃ j, Bad1 goodL (lows ((L.drop n).take (hEnd (L.drop n)))) j ∧ m = n + j) ∨
   (tellsL (lows ((L.drop n).take (hEnd (L.drop n)))) = true ∧ ∃ j, pathR ((L.drop n).drop (hEnd (L.drop n))) = .bad j ∧ m = n + hEnd (L.drop n) + j + 1))
theorem AddrOk.uniq {L a b c a' b' c' : List Nat} (h : AddrOk L a b c) (h' : AddrOk L a' b' c') : a = a' ∧ b = b' ∧ c = c' := by
  obtain ⟨n, k, h1, h2, h3, h4, h5⟩ := h
  obtain ⟨n', k', g1, g2, g3, g4, g5⟩ := h'
  rw [h1] at g1
  cases g1
  rw [h4] at g4
  cases g4
  exact ⟨rfl, h3.trans g3.symm, h5.trans g5.symm⟩
theorem AddrBad.uniq {L : List Nat} {m m' : Nat} (h : AddrBad L m) (h' : AddrBad L m') : m = m' := by
  rcases h with ⟨h1, h2⟩ | ⟨sc, n, h1, h2⟩ <;> rcases h' with ⟨g1, g2⟩ | ⟨sc', n', g1, g2⟩
  · exact h2.uniq g2
  · rw [h1] at g1; cases g1
  · rw [h1] at g1; cases g1
  · rw [h1] at g1
    cases g1
    rcases h2 with ⟨h2, j, h3, rfl⟩ | ⟨h2, j, h3, rfl⟩ <;> rcases g2 with ⟨g2, j', g3, rfl⟩ | ⟨g2, j', g3, rfl⟩
    · rw [h3.uniq g3]
    · rw [h2] at g2; cases g2
    · rw [h2] at g2; cases g2
    · rw [h3] at g3; cases g3; rfl
theorem AddrOk.bad {L a b c : List Nat} {m : Nat} (h : AddrOk L a b c) (g : AddrBad L m) : False := by
  obtain ⟨n, k, h1, h2, h3, h4, h5⟩ := h
  rcases g with ⟨g1, g2⟩ | ⟨sc', n', g1, g2⟩
  · rw [h1] at g1; cases g1
  · rw [h1] at g1
    cases g1
    rcases g2 with ⟨g2, j, g3, rfl⟩ | ⟨g2, j, g3, rfl⟩
    · rw [h2] at g2; cases g2
    · rw [h4] at g3; cases g3
theorem schN_sc {m sc : List Nat} {n : Nat} (h : schN m = some (sc, n)) : (sc = [104, 116, 116, 112] ∧ n = 7 ∨ sc = [104, 116, 116, 112, 115] ∧ n = 8) ∧ n ≤ m.length ∧ n = sc.length + 3 ∧ (sc ++ [58, 47, 47]) <+: m := by
  unfold schN at h
  split at h
  · rename_i g
    cases h
    have p := List.isPrefixOf_iff_prefix.mp g
    exact ⟨.inl ⟨rfl, rfl⟩, p.length_le, rfl, p⟩
  · split at h
    · rename_i g
      cases h
      have p := List.isPrefixOf_iff_prefix.mp g
      exact ⟨.inr ⟨rfl, rfl⟩, p.length_le, rfl, p⟩
    · cases h
theorem AddrBad.le {L : List Nat} {m : Nat} (h : AddrBad L m) : 1 ≤ m ∧ m ≤ L.length + 1 := by
  have e : (lows L).length = L.length := by unfold lows; rw [List.length_map]
  have hE : ∀ l, hEnd l ≤ l.length := fun l => (List.takeWhile_prefix _).length_le
  rcases h with ⟨h1, h2⟩ | ⟨sc, n, h1, h2⟩
  · have := h2.le; omega
  · have hn := (schN_sc h1).2.1
    have h3 := hE (L.drop n)
    rw [List.length_drop] at h3
    rcases h2 with ⟨h2, j, h4, rfl⟩ | ⟨h2, j, h4, rfl⟩
    · have := h4.le
      unfold lows at this
      rw [List.length_map, List.length_take, List.length_drop] at this
      omega
    · have hj : j ≤ ((L.drop n).drop (hEnd (L.drop n))).length := by
        have t := (List.takeWhile_prefix psign (l := (L.drop n).drop (hEnd (L.drop n)))).length_le
        unfold pathR at h4
        split at h4
        · cases h4; omega
        · split at h4
          · cases h4
          · split at h4
            · cases h4
            · cases h4; exact t
      rw [List.length_drop, List.length_drop] at hj
      omega
end Kb
namespace Kb
open PySem PySem.Spec PyProof.Rows L2 TL
/-! ### beginnings of hosts -/
theorem sp1_glue (c : Nat) : ∀ (p s : List Nat) (C : List (List Nat)) (q h : List Nat) (T : List (List Nat)), sp1 c p = C ++ [q] → sp1 c s = h :: T → sp1 c (p ++ s) = C ++ (q ++ h) :: T
  | [], s, C, q, h, T, e1, e2 => by
    have e1 : [[]] = C ++ [q] := e1
    cases C with
    | nil =>
      simp only [List.nil_append, List.cons.injEq, and_true] at e1
      subst e1
      exact e2
    | cons a C =>
      simp at e1
  | x :: p, s, C, q, h, T, e1, e2 => by
    by_cases hx : x = c
    · subst hx
      rw [sp1_hit] at e1
      rw [List.cons_append, sp1_hit]
      cases C with
      | nil =>
        simp only [List.nil_append, List.cons.injEq] at e1
        exact absurd e1.2 (sp1_ne _ _)
      | cons a C =>
        rw [List.cons_append, List.cons.injEq] at e1
        rw [sp1_glue x p s C q h T e1.2 e2, ← e1.1]; rfl
    · obtain ⟨a, r, e⟩ := sp1_cons c p
      rw [sp1_miss hx e] at e1
      rw [List.cons_append]
      cases C with
      | nil =>
        simp only [List.nil_append, List.cons.injEq] at e1
        obtain ⟨rfl, rfl⟩ := e1
        rw [sp1_miss hx (sp1_glue c p s [] a h T e e2)]; rfl
      | cons b C =>
        rw [List.cons_append, List.cons.injEq] at e1
        obtain ⟨rfl, rfl⟩ := e1
        rw [sp1_miss hx (sp1_glue c p s (a :: C) q h T e e2)]; rfl
theorem hostB_of {l : List Nat} {L : List (List Nat)} (e : sp1 46 l = L) (h1 : l.length ≤ 100) (h2 : L.length ≤ 10) (h3 : ∀ p ∈ L, labB p = true) (h4 : digB (lastL L) = false) : hostB l = true := by
  unfold hostB hostL
  rw [e, h4, decide_eq_true h1, decide_eq_true h2, List.all_eq_true.mpr h3]; rfl
theorem labB_open {q h : List Nat} (hl : labB (q ++ h) = true) (hq : q ≠ []) (h19 : q.length ≤ 19) : labB (q ++ [97]) = true ∧ digB (q ++ [97]) = false := by
  unfold labB onlyB at hl
  simp only [Bool.and_eq_true, List.all_eq_true, decide_eq_true_eq] at hl
  obtain ⟨g1, ⟨g2, g3⟩, g4, g5⟩ := hl
  obtain ⟨a, r, rfl⟩ := List.exists_cons_of_ne_nil hq
  refine ⟨?_, ?_⟩
  · unfold labB onlyB
    simp only [Bool.and_eq_true, List.all_eq_true, decide_eq_true_eq]
    refine ⟨by simp at h19 ⊢; omega, ⟨fun c hc => ?_, by simp⟩, by simpa using g4, by rw [List.getLast?_concat]; decide⟩
    rcases List.mem_append.mp hc with m | m
    · exact g2 c (List.mem_append_left _ m)
    · rw [List.mem_singleton.mp m]; decide
  · unfold digB onlyB
    rw [List.all_append, show [97].all (fun c => decide (c ∈ digs)) = false by decide, Bool.and_false, Bool.false_and]
theorem labB_a : labB [97] = true ∧ digB [97] = false := by decide
theorem host_prefix {H : List Nat} (h : hostB H = true) {i : Nat} (hi : 1 ≤ i) (hl : i ≤ H.length) : goodL (H.take i) = true := by
  unfold goodL
  rcases Nat.lt_or_ge i H.length with hlt | hge
  · have hs : H.drop i ≠ [] := fun e => by rw [List.drop_eq_nil_iff] at e; omega
    obtain ⟨C, q, e1⟩ : ∃ C q, sp1 46 (H.take i) = C ++ [q] := ⟨_, _, (List.dropLast_concat_getLast (sp1_ne 46 (H.take i))).symm⟩
    obtain ⟨g, T, e2⟩ := sp1_cons 46 (H.drop i)
    have eH := sp1_glue 46 _ _ C q g T e1 e2
    rw [List.take_append_drop] at eH
    unfold hostB hostL at h
    rw [eH] at h
    simp only [Bool.and_eq_true, List.all_eq_true, decide_eq_true_eq] at h
    obtain ⟨h1, h2, h3, _⟩ := h
    rw [List.length_append, List.length_cons] at h2
    have hqg := h3 (q ++ g) (List.mem_append_right _ (List.mem_cons_self ..))
    have hC : ∀ p ∈ C, labB p = true := fun p hp => h3 p (List.mem_append_left _ hp)
    have lt : (H.take i).length = i := by rw [List.length_take]; omega
    suffices beginsB (H.take i) = true by rw [this, Bool.or_true]
    unfold beginsB
    by_cases hq : q = []
    · have : hostB (H.take i ++ [97]) = true := by
        refine hostB_of (L := C ++ [[97]]) (by rw [sp1_glue 46 _ [97] C q [97] [] e1 (by decide), hq]; rfl) (by rw [List.length_append, lt]; simp; omega) (by rw [List.length_append]; simp; omega) (fun p hp => ?_) (by rw [lastL_snoc]; exact labB_a.2)
        rcases List.mem_append.mp hp with m | m
        · exact hC p m
        · rw [List.mem_singleton.mp m]; exact labB_a.1
      rw [this]; simp
    · rcases Nat.lt_or_ge q.length 20 with h20 | h20
      · obtain ⟨o1, o2⟩ := labB_open hqg hq (by omega)
        have : hostB (H.take i ++ [97]) = true := by
          refine hostB_of (L := C ++ [q ++ [97]]) (sp1_glue 46 _ [97] C q [97] [] e1 (by decide)) (by rw [List.length_append, lt]; simp; omega) (by rw [List.length_append]; simp; omega) (fun p hp => ?_) (by rw [lastL_snoc]; exact o2)
          rcases List.mem_append.mp hp with m | m
          · exact hC p m
          · rw [List.mem_singleton.mp m]; exact o1
        rw [this]; simp
      · have hlab := lab_len hqg
        rw [List.length_append] at hlab
        have hg : g = [] := List.eq_nil_of_length_eq_zero (by omega)
        subst hg
        rw [List.append_nil] at hqg
        obtain ⟨x, s, es⟩ := List.exists_cons_of_ne_nil hs
        have hx : x = 46 := by
          by_cases hx : x = 46
          · exact hx
          · obtain ⟨a, r, e⟩ := sp1_cons 46 s
            rw [es, sp1_miss hx e] at e2
            simp at e2
        subst hx
        rw [es, sp1_hit, List.cons.injEq] at e2
        have hT : T ≠ [] := by rw [← e2.2]; exact sp1_ne _ _
        obtain ⟨t, T2, rfl⟩ := List.exists_cons_of_ne_nil hT
        have ht := lab_ne (h3 t (List.mem_append_right _ (List.mem_cons_of_mem _ (List.mem_cons_self ..))))
        have hsn : s ≠ [] := fun e => by
          have e3 := e2.2
          rw [e] at e3
          simp [sp1] at e3
          exact ht e3.1
        have hlen : 2 ≤ (H.drop i).length := by
          rw [es, List.length_cons]
          have := List.length_pos_iff.mpr hsn
          omega
        rw [List.length_drop] at hlen
        rw [List.length_cons] at h2
        have : hostB (H.take i ++ [46, 97]) = true := by
          refine hostB_of (L := (C ++ [q]) ++ [[97]]) (by rw [sp1_glue 46 _ [46, 97] C q [] [[97]] e1 (by decide), List.append_nil, List.append_assoc]; rfl) (by rw [List.length_append, lt]; simp; omega) (by rw [List.length_append, List.length_append]; simp; omega) (fun p hp => ?_) (by rw [lastL_snoc]; exact labB_a.2)
          rcases List.mem_append.mp hp with m | m
          · rcases List.mem_append.mp m with m | m
            · exact hC p m
            · rw [List.mem_singleton.mp m]; exact hqg
          · rw [List.mem_singleton.mp m]; exact labB_a.1
        rw [this]; simp
  · rw [List.take_of_length_le (by omega)]
    unfold beginsB
    rw [h]; simp
/-- the signs of a host -/
theorem host_sign {l : List Nat} (h : hostB l = true) : ∀ s ∈ l, s = 46 ∨ s ∈ lsig := fun s hs => by
  have hl : ∀ p ∈ sp1 46 l, labB p = true := by
    unfold hostB hostL at h
    simp only [Bool.and_eq_true, List.all_eq_true] at h
    exact h.2.2.1
  by_cases e : s = 46
  · exact .inl e
  · rw [← joinL_sp1 46 l] at hs
    have : ∀ L : List (List Nat), (∀ p ∈ L, labB p = true) → s ∈ joinL [46] L → s ∈ lsig := by
      intro L
      induction L with
      | nil => intro _ hs; cases hs
      | cons p L ih =>
        intro hL hs
        cases L with
        | nil => exact lab_sign (hL p (List.mem_cons_self ..)) hs
        | cons q r =>
          have hs : s ∈ p ++ (46 :: joinL [46] (q :: r)) := hs
          rcases List.mem_append.mp hs with a | a
          · exact lab_sign (hL p (List.mem_cons_self ..)) a
          · rcases List.mem_cons.mp a with a | a
            · exact absurd a e
            · exact ih (fun l hl => hL l (List.mem_cons_of_mem _ hl)) a
    exact .inr (this _ hl hs)
theorem hsign_ok {s : Nat} (h : s = 46 ∨ s ∈ lsig) : stop3 s = false ∧ lo1 s = s ∧ s < 128 := by
  rcases h with rfl | h
  · decide
  · simp only [lsig, List.mem_cons, List.not_mem_nil, or_false] at h
    have : ∀ s, s < 128 → (s = 45 ∨ (48 ≤ s ∧ s ≤ 57) ∨ (97 ≤ s ∧ s ≤ 122)) → stop3 s = false ∧ lo1 s = s ∧ s < 128 := by decide +kernel
    exact this s (by omega) (by omega)
theorem lows_host {l : List Nat} (h : ∀ s ∈ l, s = 46 ∨ s ∈ lsig) : lows l = l := by
  unfold lows
  exact (List.map_congr_left fun s hs => (hsign_ok (h s hs)).2.1).trans (List.map_id l)
theorem host_tells {l : List Nat} (h : hostB l = true) : tellsL l = true ∧ stripDot l = l ∧ tellsL (l ++ [46]) = true ∧ stripDot (l ++ [46]) = l := by
  have e : l.getLast? ≠ some 46 := fun e => by rw [host_dot e] at h; cases h
  have e2 := strip_other e
  refine ⟨by unfold tellsL; rw [e2]; exact h, e2, ?_, strip_dot⟩
  unfold tellsL
  rw [strip_dot]; exact h
end Kb
namespace Kb
open PySem PySem.Spec PyProof.Rows L2 TL
/-! ### texts that are put together -/
def Sch (sc : List Nat) (n : Nat) : Prop := (sc = [104, 116, 116, 112] ∧ n = 7) ∨ (sc = [104, 116, 116, 112, 115] ∧ n = 8)
theorem Sch.at {sc : List Nat} {n : Nat} (h : Sch sc n) (X : List Nat) : schN (sc ++ ([58, 47, 47] ++ X)) = some (sc, n) := by
  rcases h with ⟨rfl, rfl⟩ | ⟨rfl, rfl⟩ <;> rfl
theorem addr_built {sc A W R : List Nat} {n k : Nat} (hs : Sch sc n) (hA : lows A = sc ++ [58, 47, 47]) (hW : ∀ s ∈ W, stop3 s = false) (ht : tellsL (lows W) = true)
    (hR : ∀ c r, R = c :: r → stop3 c = true) (hk : pathR R = .ok k) : AddrOk (A ++ (W ++ R)) sc (stripDot (lows W)) (if k = 0 then [47] else R.take k) := by
  have hn : A.length = n := by
    have := congrArg List.length hA
    unfold lows at this
    rw [List.length_map] at this
    rw [this]
    rcases hs with ⟨rfl, rfl⟩ | ⟨rfl, rfl⟩ <;> rfl
  have hd : (A ++ (W ++ R)).drop n = W ++ R := by rw [← hn, List.drop_left]
  have hall : W.all (fun c => !stop3 c) = true := List.all_eq_true.mpr fun s h => by rw [hW s h]; rfl
  have he : hEnd (W ++ R) = W.length := by
    cases R with
    | nil => rw [List.append_nil]; exact hEnd_all hall
    | cons c r => exact hEnd_at (i := W.length) (by rw [List.take_left]; exact hall) (by rw [List.getElem?_append_right (Nat.le_refl _), Nat.sub_self]; rfl) (hR c r rfl)
  refine ⟨n, k, ?_, ?_, ?_, ?_, ?_⟩
  · unfold lows at *
    rw [List.map_append, hA, List.append_assoc]
    exact hs.at _
  · rw [hd, he, List.take_left]; exact ht
  · rw [hd, he, List.take_left]
  · rw [hd, he, List.drop_left]; exact hk
  · rw [hd, he, List.drop_left]
theorem path_tail {P t : List Nat} (h : P.all psign = true) (hl : P.length ≤ 200) (ht : ∀ c r, t = c :: r → stop2 c = true) : pathR (P ++ t) = .ok P.length := by
  cases t with
  | nil => rw [List.append_nil]; exact pathR_end h hl
  | cons c r => exact pathR_stop (i := P.length) (by rw [List.take_left]; exact h) hl (by rw [List.getElem?_append_right (Nat.le_refl _), Nat.sub_self]; rfl) (ht c r rfl)
theorem stop23 {c : Nat} (h : stop2 c = true) : stop3 c = true := by
  unfold stop3
  unfold stop2 at h
  rw [h, Bool.or_true]
theorem pathB_parts {P : List Nat} (h : pathB P = true) : P.all psign = true ∧ P.length ≤ 200 ∧ ∃ r, P = 47 :: r := by
  unfold pathB at h
  rw [Bool.and_eq_true, Bool.and_eq_true, decide_eq_true_eq, List.isPrefixOf_iff_prefix] at h
  obtain ⟨r, e⟩ := h.2.1
  exact ⟨h.2.2, h.1, r, e.symm⟩
/-- a beginning of an address's text -/
theorem addr_prefix {sc W P : List Nat} {n z : Nat} (hs : Sch sc n) (hW : hostB W = true) (hP : pathB P = true) (hz : z < (sc ++ ([58, 47, 47] ++ (W ++ P))).length) :
    AddrBad ((sc ++ ([58, 47, 47] ++ (W ++ P))).take z) (z + 1) ∨ ∃ ho pa, AddrOk ((sc ++ ([58, 47, 47] ++ (W ++ P))).take z) sc ho pa ∧ hostB ho = true ∧ pathB pa = true ∧
      ((sc ++ ([58, 47, 47] ++ (W ++ P))).take z = sc ++ ([58, 47, 47] ++ (ho ++ pa)) ∨ (sc ++ ([58, 47, 47] ++ (W ++ P))).take z = (sc ++ ([58, 47, 47] ++ (ho ++ pa))).dropLast ∨ ((sc ++ ([58, 47, 47] ++ (W ++ P))).take z).getLast? = some 46) := by
  obtain ⟨p1, p2, r, rfl⟩ := pathB_parts hP
  have hsg := host_sign hW
  have hn : (sc ++ [58, 47, 47]).length = n := by rcases hs with ⟨rfl, rfl⟩ | ⟨rfl, rfl⟩ <;> rfl
  have eA : sc ++ ([58, 47, 47] ++ (W ++ 47 :: r)) = (sc ++ [58, 47, 47]) ++ (W ++ 47 :: r) := by rw [List.append_assoc]
  have lA : lows (sc ++ [58, 47, 47]) = sc ++ [58, 47, 47] := by rcases hs with ⟨rfl, rfl⟩ | ⟨rfl, rfl⟩ <;> decide
  rcases Nat.lt_or_ge z n with h1 | h1
  · left
    have e : (sc ++ ([58, 47, 47] ++ (W ++ 47 :: r))).take z = (sc ++ [58, 47, 47]).take z := by rw [eA, List.take_append_of_le_length (by omega)]
    rw [e]
    left
    have k1 : ∀ z, z < 7 → schN (lows (([104, 116, 116, 112] ++ [58, 47, 47]).take z)) = none ∧ ∀ j, j < z → schB ((lows (([104, 116, 116, 112] ++ [58, 47, 47]).take z)).take (j + 1)) = true := by decide +kernel
    have k2 : ∀ z, z < 8 → schN (lows (([104, 116, 116, 112, 115] ++ [58, 47, 47]).take z)) = none ∧ ∀ j, j < z → schB ((lows (([104, 116, 116, 112, 115] ++ [58, 47, 47]).take z)).take (j + 1)) = true := by decide +kernel
    have lz : (lows ((sc ++ [58, 47, 47]).take z)).length = z := by
      unfold lows
      rw [List.length_map, List.length_take]; omega
    rcases hs with ⟨rfl, rfl⟩ | ⟨rfl, rfl⟩
    · exact ⟨(k1 z h1).1, .inl ⟨by rw [lz], fun j hj => (k1 z h1).2 j (by rw [lz] at hj; exact hj)⟩⟩
    · exact ⟨(k2 z h1).1, .inl ⟨by rw [lz], fun j hj => (k2 z h1).2 j (by rw [lz] at hj; exact hj)⟩⟩
  · have e : (sc ++ ([58, 47, 47] ++ (W ++ 47 :: r))).take z = (sc ++ [58, 47, 47]) ++ (W ++ 47 :: r).take (z - n) := by
      rw [eA, List.take_append, List.take_of_length_le (by omega), hn]
    have hz2 : z - n < (W ++ 47 :: r).length := by
      rw [eA, List.length_append] at hz; omega
    rw [e]
    rw [List.length_append] at hz2
    rcases Nat.lt_or_ge (z - n) (W.length + 1) with h2 | h2
    · -- within the host
      have e2 : (W ++ 47 :: r).take (z - n) = W.take (z - n) := List.take_append_of_le_length (by omega)
      rw [e2]
      have hsg2 : ∀ s ∈ W.take (z - n), s = 46 ∨ s ∈ lsig := fun s h => hsg s (List.mem_of_mem_take h)
      have lw : (W.take (z - n)).length = z - n := by rw [List.length_take]; omega
      generalize hQ : W.take (z - n) = U at hsg2 lw
      have lU := lows_host hsg2
      cases ht : tellsL U with
      | true =>
        right
        have b := addr_built (R := []) (k := 0) hs lA (fun s h => (hsign_ok (hsg2 s h)).1) (by rw [lU]; exact ht) (fun c r e => by cases e) rfl
        rw [List.append_nil, lU, if_pos rfl] at b
        refine ⟨_, _, b, ht, by decide, .inr ?_⟩
        by_cases hd : U.getLast? = some 46
        · right
          have hne : U ≠ [] := fun e => by rw [e] at hd; cases hd
          obtain ⟨u, d, rfl⟩ := snoc_of_ne hne
          rw [List.getLast?_concat] at hd
          rw [← List.append_assoc, List.getLast?_concat]
          exact hd
        · left
          rw [strip_other hd, show sc ++ ([58, 47, 47] ++ (U ++ [47])) = ((sc ++ [58, 47, 47]) ++ U) ++ [47] by simp, List.dropLast_concat]
      | false =>
        left; right
        have hn2 : ((sc ++ [58, 47, 47]) ++ U).drop n = U := by rw [← hn, List.drop_left]
        have he : hEnd U = U.length := hEnd_all (List.all_eq_true.mpr fun s h => by rw [(hsign_ok (hsg2 s h)).1]; rfl)
        refine ⟨sc, n, ?_, .inl ?_⟩
        · unfold lows at lA ⊢
          rw [List.map_append, lA, List.append_assoc]
          exact hs.at _
        · rw [hn2, he, List.take_length, lU]
          refine ⟨ht, U.length + 1, .inl ⟨rfl, fun j hj => ?_⟩, by omega⟩
          rw [← hQ, List.take_take, Nat.min_eq_left (by omega)]
          exact host_prefix hW (by omega) (by omega)
    · -- within the path
      obtain ⟨i, hi⟩ : ∃ i, z - n = W.length + (i + 1) := ⟨z - n - W.length - 1, by omega⟩
      have e2 : (W ++ 47 :: r).take (z - n) = W ++ 47 :: r.take i := by
        rw [hi, List.take_length_add_append, List.take_succ_cons]
      rw [e2]
      have hp : pathB (47 :: r.take i) = true := by
        unfold pathB
        rw [List.all_cons, Bool.and_eq_true] at p1
        rw [decide_eq_true (by rw [List.length_cons] at p2 ⊢; rw [List.length_take]; omega), Bool.true_and, List.all_cons, p1.1, Bool.true_and, Bool.and_eq_true]
        exact ⟨by simp [List.isPrefixOf], List.all_eq_true.mpr fun s h => List.all_eq_true.mp p1.2 s (List.mem_of_mem_take h)⟩
      obtain ⟨q1, q2, _⟩ := pathB_parts hp
      right
      have ht := host_tells hW
      have lU := lows_host hsg
      have b := addr_built (R := 47 :: r.take i) (k := (47 :: r.take i).length) hs lA (fun s h => (hsign_ok (hsg s h)).1) (by rw [lU]; exact ht.1) (fun c r e => by cases e; decide) (pathR_end q1 q2)
      rw [lU, ht.2.1, if_neg (by simp), List.take_length] at b
      exact ⟨_, _, b, hW, hp, .inl (by simp)⟩
end Kb
namespace Kb
open PySem PySem.Spec PyProof.Rows L2 TL
theorem cutS_two (z : Str) (n i : Nat) : tl (cutS z (some (n : Int)) (some ((n + i : Nat) : Int))) = ((tl z).drop n).take i := by
  show ((tl z).drop (HT.sIx z.length 0 (some (n : Int)))).take (HT.sIx z.length z.length (some ((n + i : Nat) : Int)) - HT.sIx z.length 0 (some (n : Int))) = _
  rw [HT.sIx_nat, HT.sIx_nat, len_tl]
  rcases Nat.le_total (tl z).length n with h | h
  · rw [Nat.min_eq_right h, List.drop_eq_nil_of_le h, List.drop_eq_nil_of_le (Nat.le_refl _), List.take_nil, List.take_nil]
  · rw [Nat.min_eq_left h]
    rcases Nat.le_total (tl z).length (n + i) with g | g
    · rw [Nat.min_eq_right g, List.take_of_length_le (by rw [List.length_drop]; omega), List.take_of_length_le (by rw [List.length_drop]; omega)]
    · rw [Nat.min_eq_left g, show n + i - n = i by omega]
end Kb
namespace Kb
theorem pathR_le {r : List Nat} {k : Nat} (h : pathR r = .ok k) : k ≤ r.length := by
  have t := (List.takeWhile_prefix psign (l := r)).length_le
  unfold pathR at h
  split at h
  · cases h
  · split at h
    · cases h; exact t
    · split at h
      · cases h; exact t
      · cases h
end Kb
namespace Kb
open PySem PySem.Spec PyProof.Rows L2 TL
def schemes2 : List Str := [("http" : Str), "https"]
theorem schemes_at {i : Nat} {e : Str} (h : schemes2[i]? = some e) : (i = 0 ∧ e = "http") ∨ (i = 1 ∧ e = "https") := by
  rcases i with _ | _ | i
  · cases h; exact .inl ⟨rfl, rfl⟩
  · cases h; exact .inr ⟨rfl, rfl⟩
  · cases h
theorem tl_mark0 : tl (("http" : Str) ++ ("://" : Str)) = hS := by decide +kernel
theorem tl_mark1 : tl (("https" : Str) ++ ("://" : Str)) = sS := by decide +kernel
theorem marks_len {e : Str} (h : e ∈ schemes2) : e.length + ("://" : Str).length ≤ 8 := by
  have : ∀ e ∈ schemes2, e.length + ("://" : Str).length ≤ 8 := by decide +kernel
  exact this e h
theorem tl_mark3 : tl ("://" : Str) = [58, 47, 47] := by decide +kernel
end Kb
namespace Kb
open PySem PySem.Spec PyProof.Rows L2 TL
theorem addr_mk {sc A W P t ho : List Nat} {n : Nat} (hs : Sch sc n) (hA : lows A = sc ++ [58, 47, 47]) (hW : ∀ s ∈ W, stop3 s = false) (ht : tellsL (lows W) = true) (hh : stripDot (lows W) = ho) (hP : pathB P = true)
    (hT : ∀ c r, t = c :: r → stop2 c = true) : AddrOk (A ++ (W ++ (P ++ t))) sc ho P := by
  obtain ⟨p1, p2, r, rfl⟩ := pathB_parts hP
  have := addr_built (R := (47 :: r) ++ t) (k := (47 :: r).length) hs hA hW ht (fun c r2 e => by cases e; decide) (path_tail p1 p2 hT)
  rw [hh, if_neg (by simp), List.take_left] at this
  exact this
theorem addr_mk0 {sc A W t ho : List Nat} {n : Nat} (hs : Sch sc n) (hA : lows A = sc ++ [58, 47, 47]) (hW : ∀ s ∈ W, stop3 s = false) (ht : tellsL (lows W) = true) (hh : stripDot (lows W) = ho)
    (hT : ∀ c r, t = c :: r → stop2 c = true) : AddrOk (A ++ (W ++ t)) sc ho [47] := by
  have := addr_built (R := t) (k := 0) hs hA hW ht (fun c r2 e => stop23 (hT c r2 e)) (path_tail (P := []) rfl (Nat.zero_le _) hT)
  rw [hh, if_pos rfl] at this
  exact this
theorem sch_of {x : Str} (h : x ∈ schemes2) : ∃ n, Sch (tl x) n ∧ lows (tl x ++ [58, 47, 47]) = tl x ++ [58, 47, 47] ∧ lows ((tl x).map up1 ++ [58, 47, 47]) = tl x ++ [58, 47, 47] ∧ ascii x ∧ x.length ≤ 5 := by
  have : x = "http" ∨ x = "https" := by
    unfold schemes2 at h
    simpa using h
  rcases this with rfl | rfl
  · exact ⟨7, .inl ⟨by decide +kernel, rfl⟩, by decide +kernel, by decide +kernel, ascii_lit (by decide +kernel), by decide +kernel⟩
  · exact ⟨8, .inr ⟨by decide +kernel, rfl⟩, by decide +kernel, by decide +kernel, ascii_lit (by decide +kernel), by decide +kernel⟩
theorem sch_in {x y : Str} (h : x ∈ schemes2) (e : tl y = tl x) : y ∈ schemes2 := by rw [ext_tl e]; exact h
theorem up_host {l : List Nat} (h : ∀ s ∈ l, s = 46 ∨ s ∈ lsig) : lows (l.map up1) = l ∧ ∀ s ∈ l.map up1, stop3 s = false := by
  have key : ∀ s, s < 128 → (s = 46 ∨ s = 45 ∨ (48 ≤ s ∧ s ≤ 57) ∨ (97 ≤ s ∧ s ≤ 122)) → lo1 (up1 s) = s ∧ stop3 (up1 s) = false := by decide +kernel
  have k2 : ∀ s ∈ l, lo1 (up1 s) = s ∧ stop3 (up1 s) = false := fun s hs => by
    rcases h s hs with rfl | q
    · decide
    · simp only [lsig, List.mem_cons, List.not_mem_nil, or_false] at q
      exact key s (by omega) (by omega)
  refine ⟨?_, fun s hs => ?_⟩
  · unfold lows
    rw [List.map_map]
    exact (List.map_congr_left fun s hs => (k2 s hs).1).trans (List.map_id l)
  · obtain ⟨c, hc, rfl⟩ := List.mem_map.mp hs
    exact (k2 c hc).2
def big : List Nat := joinL [46] (List.replicate 5 (List.replicate 20 97))
theorem bad108 : AddrBad (hS ++ (big ++ [47])) 108 := by
  have h1 : schN (lows (hS ++ (big ++ [47]))) = some ([104, 116, 116, 112], 7) := by decide +kernel
  have h2 : (hS ++ (big ++ [47])).drop 7 = big ++ [47] := by decide +kernel
  have h3 : hEnd (big ++ [47]) = 104 := by decide +kernel
  have h4 : lows ((big ++ [47]).take 104) = big := by decide +kernel
  have h5 : hostB (big.take 100) = true := by decide +kernel
  refine .inr ⟨_, 7, h1, .inl ?_⟩
  rw [h2, h3, h4]
  refine ⟨by decide +kernel, 101, .inr ⟨by decide, by decide +kernel, by decide +kernel, fun j hj => ?_⟩, rfl⟩
  have := host_prefix h5 (i := j + 1) (by omega) (by rw [show (big.take 100).length = 100 by decide +kernel]; omega)
  rw [List.take_take, Nat.min_eq_left (by omega)] at this
  exact this
theorem lay_strsT {W : List Str} (h : ∀ w ∈ W, ascii w) : SeqAt.shaped (.tuple (W.map PyData.str)) = true := by
  unfold SeqAt.shaped
  rw [PyData.canLay0, canLay_strs W fun w hw => lay_str (h w hw), PyData.depth, depth_strs]; rfl
theorem eqv_strsT (W Z : List Str) : PyData.eqv (.tuple (W.map PyData.str)) (.tuple (Z.map PyData.str)) = decide (W = Z) := by rw [PyData.eqv, eqvAll_strs]
theorem ascii_host {y : Str} (h : hostB (tl y) = true) : ascii y := fun s hs => (hsign_ok (host_sign h s hs)).2.2
theorem ascii_path {y : Str} (h : pathB (tl y) = true) : ascii y := fun s hs => by
  have := List.all_eq_true.mp (pathB_parts h).1 s hs
  unfold psign at this
  simp only [Bool.and_eq_true, decide_eq_true_eq] at this
  omega
end Kb

namespace Kb
open PySem PySem.Spec PyProof.Rows L2 TL
/-! ### short plain texts -/
structure Pl (m c : Nat) (l : List Nat) : Prop where
  len : l.length ≤ m
  lt : ∀ s ∈ l, s < 128 ∧ s ≠ 37
  dots : l.count 46 ≤ c
def plB (m c : Nat) (l : List Nat) : Bool := decide (l.length ≤ m) && (l.all (fun s => decide (s < 128) && decide (s ≠ 37)) && decide (l.count 46 ≤ c))
theorem Pl.of {m c : Nat} {l : List Nat} (h : plB m c l = true) : Pl m c l := by
  unfold plB at h
  simp only [Bool.and_eq_true, decide_eq_true_eq, List.all_eq_true] at h
  exact ⟨h.1, h.2.1, h.2.2⟩
theorem Pl.app {m c m' c' : Nat} {l l' : List Nat} (h : Pl m c l) (k : Pl m' c' l') : Pl (m + m') (c + c') (l ++ l') :=
  ⟨by rw [List.length_append]; exact Nat.add_le_add h.len k.len, fun s hs => (List.mem_append.mp hs).elim (h.lt s) (k.lt s), by rw [List.count_append]; exact Nat.add_le_add h.dots k.dots⟩
theorem Pl.sub {m c : Nat} {l l' : List Nat} (h : Pl m c l) (k : l'.Sublist l) : Pl m c l' :=
  ⟨Nat.le_trans k.length_le h.len, fun s hs => h.lt s (k.subset hs), Nat.le_trans (k.count_le 46) h.dots⟩
theorem Pl.more {m c m' c' : Nat} {l : List Nat} (h : Pl m c l) (e1 : m ≤ m') (e2 : c ≤ c') : Pl m' c' l := ⟨Nat.le_trans h.len e1, h.lt, Nat.le_trans h.dots e2⟩
theorem Pl.ascii {m c : Nat} {x : Str} (h : Pl m c (tl x)) : ascii x := fun s hs => (h.lt s hs).1
theorem Pl.small {m c : Nat} {x : Str} (h : Pl m c (tl x)) (e : m ≤ 1000) : smallS x := ⟨by rw [len_tl]; exact Nat.le_trans h.len e, h.ascii⟩
theorem sp1_count (c : Nat) : ∀ l : List Nat, (sp1 c l).length = l.count c + 1
  | [] => by simp [sp1]
  | x :: l => by
    obtain ⟨q, r, e⟩ := sp1_cons c l
    have ih := sp1_count c l
    by_cases hx : x = c
    · subst hx; rw [sp1_hit, List.length_cons, ih, List.count_cons_self]
    · rw [sp1_miss hx e, List.count_cons_of_ne hx, ← ih, e]; rfl
def lawHostB (l : List Nat) : Bool := (sp1 46 l).all labB && (!digB (lastL (sp1 46 l)) || ((sp1 46 l).all numB && decide ((sp1 46 l).length = 4)))
theorem Pl.host {m c : Nat} {l : List Nat} (h : Pl m c l) (e1 : m ≤ 100) (e2 : c ≤ 9) : lawHostB l = hostB l := by
  have h1 := h.len
  have h2 := h.dots
  unfold hostB hostL lawHostB
  rw [decide_eq_true (show l.length ≤ 100 by omega), decide_eq_true (show (sp1 46 l).length ≤ 10 by rw [sp1_count]; omega), Bool.true_and, Bool.true_and]
theorem low46 : ∀ c, c < 128 → (lo1 c = 46 ↔ c = 46) := by decide +kernel
theorem low_lt : ∀ c, c < 128 → lo1 c < 128 := by decide +kernel
theorem low37 : ∀ c, c < 128 → c ≠ 37 → lo1 c ≠ 37 := by decide +kernel
theorem count_lows : ∀ {l : List Nat}, (∀ s ∈ l, s < 128) → (lows l).count 46 = l.count 46
  | [], _ => rfl
  | x :: l, h => by
    have ih := count_lows (l := l) fun s hs => h s (List.mem_cons_of_mem _ hs)
    unfold lows at ih ⊢
    rw [List.map_cons]
    by_cases hx : x = 46
    · subst hx
      rw [show lo1 46 = 46 by decide, List.count_cons_self, List.count_cons_self, ih]
    · rw [List.count_cons_of_ne hx, List.count_cons_of_ne (fun e => hx ((low46 x (h x (List.mem_cons_self ..))).mp e)), ih]
theorem Pl.lows {m c : Nat} {l : List Nat} (h : Pl m c l) : Pl m c (lows l) := by
  refine ⟨by unfold Kb.lows; rw [List.length_map]; exact h.len, fun s hs => ?_, by rw [count_lows fun s hs => (h.lt s hs).1]; exact h.dots⟩
  obtain ⟨x, hx, rfl⟩ := List.mem_map.mp hs
  exact ⟨low_lt x (h.lt x hx).1, low37 x (h.lt x hx).1 (h.lt x hx).2⟩
/-! ### the part in front of a query or a mark -/
theorem sp1_head (c : Nat) : ∀ l : List Nat, ∃ r, sp1 c l = l.takeWhile (fun s => !decide (s = c)) :: r
  | [] => ⟨[], rfl⟩
  | x :: l => by
    obtain ⟨r, e⟩ := sp1_head c l
    by_cases hx : x = c
    · subst hx
      exact ⟨_, by rw [sp1_hit, List.takeWhile_cons_of_neg (by simp)]⟩
    · exact ⟨r, by rw [sp1_miss hx e, List.takeWhile_cons_of_pos (by simp [hx])]⟩
theorem tw_tw {p q : Nat → Bool} : ∀ l : List Nat, (l.takeWhile p).takeWhile q = l.takeWhile fun s => p s && q s
  | [] => rfl
  | x :: l => by
    cases hp : p x with
    | false => rw [List.takeWhile_cons_of_neg (by rw [hp]; exact Bool.false_ne_true), List.takeWhile_cons_of_neg (by rw [hp]; exact Bool.false_ne_true)]; rfl
    | true =>
      cases hq : q x with
      | false => rw [List.takeWhile_cons_of_pos hp, List.takeWhile_cons_of_neg (by rw [hq]; exact Bool.false_ne_true), List.takeWhile_cons_of_neg (by rw [hp, hq]; exact Bool.false_ne_true)]
      | true => rw [List.takeWhile_cons_of_pos hp, List.takeWhile_cons_of_pos hq, List.takeWhile_cons_of_pos (by rw [hp, hq]; rfl), tw_tw l]
def cutQ (l : List Nat) : List Nat := l.takeWhile fun c => !stop2 c
theorem cutQ_two (l : List Nat) : (l.takeWhile fun s => !decide (s = 63)).takeWhile (fun s => !decide (s = 35)) = cutQ l := by
  rw [tw_tw]
  unfold cutQ stop2
  congr 1
  funext s
  rw [Bool.not_or]
theorem cutQ_rest : ∀ l : List Nat, ∃ t, l = cutQ l ++ t ∧ (∀ c r, t = c :: r → stop2 c = true) ∧ ∀ s ∈ cutQ l, stop2 s = false := by
  intro l
  induction l with
  | nil => exact ⟨[], rfl, fun c r e => (by cases e), fun s hs => by cases hs⟩
  | cons x l ih =>
    obtain ⟨t, e, h1, h2⟩ := ih
    cases hx : stop2 x with
    | true =>
      have : cutQ (x :: l) = [] := List.takeWhile_cons_of_neg (by rw [hx]; exact Bool.false_ne_true)
      rw [this]
      exact ⟨x :: l, rfl, fun c r e => by cases e; exact hx, fun s hs => by cases hs⟩
    | false =>
      have : cutQ (x :: l) = x :: cutQ l := List.takeWhile_cons_of_pos (by rw [hx]; rfl)
      rw [this]
      refine ⟨t, by rw [List.cons_append, ← e], h1, fun s hs => ?_⟩
      rcases List.mem_cons.mp hs with rfl | q
      · exact hx
      · exact h2 s q
theorem pre_app {g a b : List Nat} (h : g.isPrefixOf a = true) : g.isPrefixOf (a ++ b) = true :=
  List.isPrefixOf_iff_prefix.mpr ((List.isPrefixOf_iff_prefix.mp h).trans (List.prefix_append a b))
/-- a beginning without the sign stands in front of it -/
theorem pre_cut {g a t : List Nat} (ht : ∀ c r, t = c :: r → c ∉ g) (h : g.isPrefixOf (a ++ t) = true) : g.isPrefixOf a = true := by
  have p := List.isPrefixOf_iff_prefix.mp h
  rcases Nat.lt_or_ge a.length g.length with q | q
  · exfalso
    cases t with
    | nil =>
      rw [List.append_nil] at p
      have := p.length_le
      omega
    | cons c r =>
      obtain ⟨u, e⟩ := p
      have : (a ++ c :: r)[a.length]? = some c := by rw [List.getElem?_append_right (Nat.le_refl _), Nat.sub_self]; rfl
      rw [← e, List.getElem?_append_left q] at this
      exact ht c r rfl (List.mem_of_getElem? this)
  · exact List.isPrefixOf_iff_prefix.mpr (List.prefix_of_prefix_length_le p (List.prefix_append a t) q)
theorem stop_not {c : Nat} (h : stop2 c = true) : c ∉ hS ∧ c ∉ sS ∧ lo1 c = c := by
  unfold stop2 at h
  rw [Bool.or_eq_true, decide_eq_true_eq, decide_eq_true_eq] at h
  rcases h with rfl | rfl <;> decide
theorem lows_app (a b : List Nat) : lows (a ++ b) = lows a ++ lows b := List.map_append
theorem lows_stop {t : List Nat} (h : ∀ c r, t = c :: r → stop2 c = true) : ∀ c r, lows t = c :: r → stop2 c = true := fun c r e => by
  cases t with
  | nil => cases e
  | cons x t =>
    have hx := h x t rfl
    unfold lows at e
    rw [List.map_cons, List.cons.injEq] at e
    rw [← e.1, (stop_not hx).2.2]; exact hx
theorem schN_cut {a t : List Nat} (h : ∀ c r, t = c :: r → stop2 c = true) : schN (lows (a ++ t)) = schN (lows a) := by
  have ht := lows_stop h
  rw [lows_app]
  have e : ∀ g : List Nat, (∀ c, stop2 c = true → c ∉ g) → g.isPrefixOf (lows a ++ lows t) = g.isPrefixOf (lows a) := fun g hg => by
    rw [Bool.eq_iff_iff]
    exact ⟨fun p => pre_cut (fun c r e => hg c (ht c r e)) p, pre_app⟩
  unfold schN
  rw [e hS fun c hc => (stop_not hc).1, e sS fun c hc => (stop_not hc).2.1]
theorem schBad_cut {a t : List Nat} {k : Nat} (h : ∀ c r, t = c :: r → stop2 c = true) (b : Bad1 schB (lows a) k) : Bad1 schB (lows (a ++ t)) k := by
  have ht := lows_stop h
  rw [lows_app]
  rcases b with ⟨rfl, b2⟩ | ⟨b0, b1, b2, b3⟩
  · cases e : lows t with
    | nil => rw [List.append_nil]; exact .inl ⟨rfl, b2⟩
    | cons c r =>
      refine .inr ⟨by omega, by rw [List.length_append, List.length_cons]; omega, ?_, fun j hj => by rw [List.take_append_of_le_length (by omega)]; exact b2 j (by omega)⟩
      have hc := ht c r e
      have mem : c ∈ (lows a ++ c :: r).take ((lows a).length + 1) := by
        rw [List.take_length_add_append, List.take_succ_cons]
        exact List.mem_append_right _ (List.mem_cons_self ..)
      unfold schB
      rw [Bool.or_eq_false_iff]
      constructor
      · rw [Bool.eq_false_iff]
        exact fun p => (stop_not hc).1 ((List.isPrefixOf_iff_prefix.mp p).subset mem)
      · rw [Bool.eq_false_iff]
        exact fun p => (stop_not hc).2.1 ((List.isPrefixOf_iff_prefix.mp p).subset mem)
  · refine .inr ⟨b0, by rw [List.length_append]; omega, by rw [List.take_append_of_le_length b1]; exact b2, fun j hj => by rw [List.take_append_of_le_length (by omega)]; exact b3 j hj⟩
def beforeS (l : List Nat) : List Nat := l.takeWhile fun s => !decide (s = 47)
theorem hEnd_cut : ∀ {m t : List Nat}, (∀ s ∈ m, stop2 s = false) → (∀ c r, t = c :: r → stop2 c = true) → hEnd (m ++ t) = (beforeS m).length
  | [], t, _, h => by
    cases t with
    | nil => rfl
    | cons c r =>
      unfold hEnd
      rw [List.nil_append, List.takeWhile_cons_of_neg (by rw [stop23 (h c r rfl)]; exact Bool.false_ne_true)]; rfl
  | x :: m, t, hm, h => by
    have ih := hEnd_cut (m := m) (t := t) (fun s hs => hm s (List.mem_cons_of_mem _ hs)) h
    have hx := hm x (List.mem_cons_self ..)
    unfold hEnd beforeS at ih ⊢
    by_cases h47 : x = 47
    · subst h47
      rw [List.cons_append, List.takeWhile_cons_of_neg (by decide), List.takeWhile_cons_of_neg (by decide)]
    · have : stop3 x = false := by
        unfold stop3
        unfold stop2 at hx
        rw [hx, decide_eq_false h47]; rfl
      rw [List.cons_append, List.takeWhile_cons_of_pos (by rw [this]; rfl), List.takeWhile_cons_of_pos (by rw [decide_eq_false h47]; rfl), List.length_cons, List.length_cons, ih]
theorem beforeS_take (l : List Nat) : l.take (beforeS l).length = beforeS l := by
  have := List.takeWhile_prefix (fun s => !decide (s = 47)) (l := l)
  exact (List.prefix_iff_eq_take.mp this).symm
theorem beforeS_lows : ∀ {l : List Nat}, (∀ s ∈ l, s < 128) → beforeS (lows l) = lows (beforeS l)
  | [], _ => rfl
  | x :: l, h => by
    have ih := beforeS_lows (l := l) fun s hs => h s (List.mem_cons_of_mem _ hs)
    have key : ∀ c, c < 128 → (lo1 c = 47 ↔ c = 47) := by decide +kernel
    unfold lows beforeS at ih ⊢
    rw [List.map_cons]
    by_cases hx : x = 47
    · subst hx; rw [List.takeWhile_cons_of_neg (by decide), List.takeWhile_cons_of_neg (by decide)]; rfl
    · rw [List.takeWhile_cons_of_pos (by rw [decide_eq_false (fun e => hx ((key x (h x (List.mem_cons_self ..))).mp e))]; rfl), List.takeWhile_cons_of_pos (by rw [decide_eq_false hx]; rfl), List.map_cons, ih]
end Kb
namespace Kb
open PySem PySem.Spec PyProof.Rows L2 TL
theorem due_parts {L sc : List Nat} {n : Nat} (h : schN (lows (cutQ L)) = some (sc, n)) : ∃ t, (∀ c r, t = c :: r → stop2 c = true) ∧ schN (lows L) = some (sc, n) ∧ n ≤ (cutQ L).length ∧ n = sc.length + 3 ∧
    (L.drop n).take (hEnd (L.drop n)) = beforeS ((cutQ L).drop n) ∧ hEnd (L.drop n) = (beforeS ((cutQ L).drop n)).length ∧
    (L.drop n).drop (hEnd (L.drop n)) = ((cutQ L).drop n).drop (beforeS ((cutQ L).drop n)).length ++ t ∧ ∀ s ∈ cutQ L, stop2 s = false := by
  obtain ⟨t, e, h1, h2⟩ := cutQ_rest L
  obtain ⟨_, hn, hn3, _⟩ := schN_sc h
  have hn : n ≤ (cutQ L).length := by unfold lows at hn; rw [List.length_map] at hn; exact hn
  have ed : L.drop n = (cutQ L).drop n ++ t := by
    conv => lhs; rw [e]
    rw [List.drop_append_of_le_length hn]
  have eh : hEnd (L.drop n) = (beforeS ((cutQ L).drop n)).length := by
    rw [ed]
    exact hEnd_cut (fun s hs => h2 s (List.mem_of_mem_drop hs)) h1
  have lb : (beforeS ((cutQ L).drop n)).length ≤ ((cutQ L).drop n).length := (List.takeWhile_prefix _).length_le
  refine ⟨t, h1, ?_, hn, hn3, ?_, eh, ?_, h2⟩
  · conv => lhs; rw [e]
    rw [schN_cut h1]; exact h
  · rw [eh, ed, List.take_append_of_le_length lb, beforeS_take]
  · rw [eh, ed, List.drop_append_of_le_length lb]
theorem due_bad0 {L : List Nat} {k : Nat} (h : schN (lows (cutQ L)) = none) (b : Bad1 schB (lows (cutQ L)) k) : AddrBad L k := by
  obtain ⟨t, e, h1, h2⟩ := cutQ_rest L
  left
  constructor
  · conv => lhs; rw [e]
    rw [schN_cut h1]; exact h
  · rw [e]
    exact schBad_cut h1 b
theorem due_bad1 {L sc : List Nat} {n j : Nat} (h : schN (lows (cutQ L)) = some (sc, n)) (ht : tellsL (lows (beforeS ((cutQ L).drop n))) = false) (b : Bad1 goodL (lows (beforeS ((cutQ L).drop n))) j) : AddrBad L (n + j) := by
  obtain ⟨t, h1, h2, h3, h4, h5, h6, h7, h8⟩ := due_parts h
  exact .inr ⟨sc, n, h2, .inl ⟨by rw [h5]; exact ht, j, by rw [h5]; exact b, rfl⟩⟩
theorem due_bad2 {L sc : List Nat} {n i c : Nat} (h : schN (lows (cutQ L)) = some (sc, n)) (ht : tellsL (lows (beforeS ((cutQ L).drop n))) = true)
    (ha : ((((cutQ L).drop n).drop (beforeS ((cutQ L).drop n)).length).take i).all psign = true) (hi : i ≤ 200) (hc : (((cutQ L).drop n).drop (beforeS ((cutQ L).drop n)).length)[i]? = some c) (hp : psign c = false) :
    AddrBad L (n + (beforeS ((cutQ L).drop n)).length + i + 1) := by
  obtain ⟨t, h1, h2, h3, h4, h5, h6, h7, h8⟩ := due_parts h
  have hl := (List.getElem?_eq_some_iff.mp hc).1
  refine .inr ⟨sc, n, h2, .inr ⟨by rw [h5]; exact ht, i, ?_, by rw [h6]⟩⟩
  rw [h7]
  exact pathR_sign (c := c) (by rw [List.take_append_of_le_length (by omega)]; exact ha) hi (by rw [List.getElem?_append_left hl]; exact hc) (h8 c (List.mem_of_mem_drop (List.mem_of_mem_drop (List.mem_of_getElem? hc)))) hp
theorem due_ok {L sc : List Nat} {n : Nat} (h : schN (lows (cutQ L)) = some (sc, n)) (ht : tellsL (lows (beforeS ((cutQ L).drop n))) = true)
    (ha : (((cutQ L).drop n).drop (beforeS ((cutQ L).drop n)).length).all psign = true) (hl : (((cutQ L).drop n).drop (beforeS ((cutQ L).drop n)).length).length ≤ 200) :
    AddrOk L sc (stripDot (lows (beforeS ((cutQ L).drop n)))) (if ((cutQ L).drop n).drop (beforeS ((cutQ L).drop n)).length = [] then [47] else ((cutQ L).drop n).drop (beforeS ((cutQ L).drop n)).length) := by
  obtain ⟨t, h1, h2, h3, h4, h5, h6, h7, h8⟩ := due_parts h
  refine ⟨n, _, h2, by rw [h5]; exact ht, by rw [h5], by rw [h7]; exact path_tail ha hl h1, ?_⟩
  rw [h7]
  generalize ((cutQ L).drop n).drop (beforeS ((cutQ L).drop n)).length = S
  by_cases e : S = []
  · subst e; rfl
  · rw [if_neg e, if_neg (fun z => e (List.eq_nil_of_length_eq_zero z)), List.take_left]
theorem psign_law {c : Nat} (h1 : c ≠ 37) (h2 : stop2 c = false) : psign c = (decide (33 ≤ c) && decide (c ≤ 126) && decide (c ≠ 59)) := by
  unfold stop2 at h2
  rw [Bool.or_eq_false_iff, decide_eq_false_iff_not, decide_eq_false_iff_not] at h2
  unfold psign
  rw [decide_eq_true h1, decide_eq_true h2.1, decide_eq_true h2.2]
  simp
end Kb
namespace Kb
open PySem PySem.Spec PyProof.Rows L2 TL
def rInQ (K : PySem.W.Frag) (neg : Bool) : R2 := rIn K neg
end Kb
namespace Kb
open PySem PySem.Spec PyProof.Rows L2 TL
theorem split_head (x : Str) {c : Nat} (hc : c < 256) : ∃ y ys, Txt.split x ⟨#[c]⟩ = y :: ys ∧ tl y = (tl x).takeWhile fun s => !decide (s = c) := by
  have e := split_sp1 x hc
  obtain ⟨r, er⟩ := sp1_head c (tl x)
  rw [er] at e
  cases h : Txt.split x ⟨#[c]⟩ with
  | nil => rw [h] at e; cases e
  | cons y ys =>
    rw [h, List.map_cons, List.cons.injEq] at e
    exact ⟨y, ys, rfl, e.1⟩
/-- an address in a list, or the place -/
def D09 (H : Hp) (L : List Nat) (v : V) : Prop := (∃ (a b c : List Nat) (p q : Addr) (x y z : Str), AddrOk L a b c ∧ v = .ref p ∧ H p = some (.lst [.ref q]) ∧ H q = some (.tup [.str x, .str y, .str z]) ∧ tl x = a ∧ tl y = b ∧ tl z = c ∧ x.length ≤ 1000 ∧ y.length ≤ 1000 ∧ z.length ≤ 1000) ∨
  ∃ k : Nat, v = .int (k : Nat) ∧ AddrBad L k
theorem mark_sq : ("?" : Str) = ⟨#[63]⟩ := ext_tl (by decide +kernel)
theorem mark_sh : ("#" : Str) = ⟨#[35]⟩ := ext_tl (by decide +kernel)
end Kb
namespace Kb
open PySem PySem.Spec PyProof.Rows L2 TL
theorem at0 (v : V) (vs : List V) : atI (v :: vs) 0 = some v := by
  show atI (v :: vs) ((0 : Nat) : Int) = _
  exact atI_nat rfl
end Kb
namespace Kb
open PySem PySem.Spec PyProof.Rows L2 TL
theorem addr_ascii {L a b c : List Nat} (h : AddrOk L a b c) (hl : ∀ s ∈ L, s < 128) : (∀ s ∈ a, s < 128) ∧ (∀ s ∈ b, s < 128) ∧ ∀ s ∈ c, s < 128 := by
  obtain ⟨n, k, h1, h2, rfl, h4, rfl⟩ := h
  refine ⟨?_, ?_, ?_⟩
  · rcases (schN_sc h1).1 with ⟨rfl, _⟩ | ⟨rfl, _⟩ <;> decide
  · intro s hs
    have : s ∈ lows ((L.drop n).take (hEnd (L.drop n))) := by
      unfold stripDot at hs
      split at hs
      · exact (List.dropLast_sublist _).subset hs
      · exact hs
    obtain ⟨x, hx, rfl⟩ := List.mem_map.mp this
    exact low_lt x (hl x (List.mem_of_mem_drop (List.mem_of_mem_take hx)))
  · intro s hs
    split at hs
    · rw [List.mem_singleton.mp hs]; decide
    · exact hl s (List.mem_of_mem_drop (List.mem_of_mem_drop (List.mem_of_mem_take hs)))
def IsD9 (L : List Nat) (d : PyData) : Prop := (∃ (a b c : List Nat) (x y z : Str), AddrOk L a b c ∧ d = .list [.tuple [.str x, .str y, .str z]] ∧ tl x = a ∧ tl y = b ∧ tl z = c) ∨ ∃ k : Nat, d = .int (k : Nat) ∧ AddrBad L k
theorem IsD9.uniq {L : List Nat} {d e : PyData} (h : IsD9 L d) (g : IsD9 L e) : d = e := by
  rcases h with ⟨a, b, c, x, y, z, ok, rfl, ex, ey, ez⟩ | ⟨k, rfl, hk⟩ <;> rcases g with ⟨a', b', c', x', y', z', ok', rfl, ex', ey', ez'⟩ | ⟨k', rfl, hk'⟩
  · obtain ⟨rfl, rfl, rfl⟩ := ok.uniq ok'
    rw [ext_tl (ex.trans ex'.symm), ext_tl (ey.trans ey'.symm), ext_tl (ez.trans ez'.symm)]
  · exact (ok.bad hk').elim
  · exact (ok'.bad hk).elim
  · rw [hk.uniq hk']
theorem repr9 {K : PySem.W.Frag} {H : Hp} {L : List Nat} {v : V} (h : D09 H L v) (hl : ∀ s ∈ L, s < 128) (hn : L.length ≤ 900) : ∃ d, Dp K H v d ∧ d.showable = true ∧ d.hasDict = false ∧ d.shown.length ≤ sizeLine ∧ d.depth ≤ 64 ∧ IsD9 L d := by
  rcases h with ⟨a, b, c, p, q, x, y, z, ok, rfl, hp, hq, ex, ey, ez, lx, ly, lz⟩ | ⟨k, rfl, hk⟩
  · obtain ⟨aa, ab, ac⟩ := addr_ascii ok hl
    refine ⟨.list [.tuple [.str x, .str y, .str z]], .lst (SqL.of hp) (.cons (.tup (SqT.of hq) (dpAll_strs [x, y, z])) .nil), by simp [PyData.showable, PyData.showableAll], by simp [PyData.hasDict, PyData.hasDictAll], ?_, by simp [PyData.depth, PyData.depthAll], .inl ⟨a, b, c, x, y, z, ok, rfl, ex, ey, ez⟩⟩
    have big : ∀ u : Str, (∀ s ∈ tl u, s < 128) → PyData.leavesShort 8 (.str u) = true := fun u hu => by
      rw [PyData.leavesShort, List.all_eq_true]
      exact fun s hs => decide_eq_true (by have := hu s hs; omega)
    have := PySem.PyData.shown_le_bulk 8 (by decide) (.list [.tuple [.str x, .str y, .str z]]) (by
      simp only [PyData.leavesShort, PyData.leavesShortAll, Bool.and_true, Bool.and_eq_true]
      have h1 := big x (by rw [ex]; exact aa)
      have h2 := big y (by rw [ey]; exact ab)
      have h3 := big z (by rw [ez]; exact ac)
      simp only [PyData.leavesShort] at h1 h2 h3
      exact ⟨h1, h2, h3⟩)
    refine Nat.le_trans this (Nat.le_trans (m := 40000) ?_ (by decide))
    have e1 : x.cps.size = x.length := rfl
    have e2 : y.cps.size = y.length := rfl
    have e3 : z.cps.size = z.length := rfl
    simp only [PyData.bulk, PyData.bulkAll]
    omega
  · have := hk.le
    refine ⟨.int (k : Nat), .int _, ?_, rfl, ?_, by simp [PyData.depth], .inr ⟨k, rfl, hk⟩⟩
    · have h3 := Nat.log2_le_self k
      simp only [PyData.showable, Int.natAbs_natCast]
      exact decide_eq_true (by omega)
    · have := PyProof.Rows.toString_length_le (v := ((k : Nat) : Int)) (by omega) (k := 4) (by decide) (by
        have : ((10 : Int) ^ 4) = 10000 := by decide
        omega)
      exact Nat.le_trans this (by decide)
end Kb

namespace Kb
open PySem PySem.Spec PyProof.Rows L2 TL
/-! ### dates as texts -/
def lettL : List Nat := tl ("abcdefghijklmnopqrstuvwxyzABCDEFGHIJKLMNOPQRSTUVWXYZ" : Str)
def letB (c : Nat) : Bool := decide (c ∈ lettL)
def tokB (c : Nat) : Bool := decide (c ∈ lettL) || (decide (c ∈ digs) || decide (c = 58))
def toks : List Nat → List Nat → List (List Nat)
  | acc, [] => if acc = [] then [] else [acc]
  | acc, c :: l => if tokB c = true then toks (acc ++ [c]) l else if acc = [] then toks [] l else acc :: toks [] l
def fitT (l : List Nat) : Bool := (sp1 58 l).all (fun p => digB p && decide (p.length ≤ 2)) && decide ((sp1 58 l).length = 3)
def monN : List Str := ["Jan", "Feb", "Mar", "Apr", "May", "Jun", "Jul", "Aug", "Sep", "Oct", "Nov", "Dec"]
def monAt (l : List Nat) (i : Nat) : Bool := decide (lows (l.take 3) = lows ((monN.map tl).getD i []))
/-- the number of the month that a token tells, 0 for none -/
def monI (l : List Nat) : Nat := match (List.range 12).find? (monAt l) with
  | some i => i + 1
  | none => 0
def fitM (l : List Nat) : Bool := onlyB lettL l && decide (monI l ≠ 0)
def fitD (l : List Nat) : Bool := digB l && decide (l.length ≤ 2)
def fitY (l : List Nat) : Bool := digB l && (decide (l.length = 2) || decide (l.length = 4))
def fits (p : Nat) (l : List Nat) : Bool := match p with
  | 0 => fitT l
  | 1 => fitD l
  | 2 => fitM l
  | _ => fitY l
abbrev Fnd := List (Nat × Str)
def hasP (f : Fnd) (p : Nat) : Bool := f.any fun q => q.1 == p
def partI (f : Fnd) (l : List Nat) : Option Nat := (List.range 4).find? fun p => !hasP f p && fits p l
def stepD (f : Fnd) (t : Str) : Fnd := match partI f (tl t) with
  | some p => f ++ [(p, t)]
  | none => f
def leapB (y : Int) : Bool := decide (y % 4 = 0) && (decide (y % 100 ≠ 0) || decide (y % 400 = 0))
def monD : List Int := [31, 28, 31, 30, 31, 30, 31, 31, 30, 31, 30, 31]
def domI (y : Int) (m : Nat) : Int := if m = 2 ∧ leapB y = true then 29 else monD.getD (m - 1) 0
def dbmI (y : Int) (m : Nat) : Int := ((List.range (m - 1)).map fun i => domI y (i + 1)).sum
def dtoI (y : Int) : Int := (y - 1) * 365 + (y - 1) / 4 - (y - 1) / 100 + (y - 1) / 400
def dbfI (y : Int) : Int := dtoI y - dtoI 1970
def valL (l : List Nat) : Int := (NumText.digitsVal l : Nat)
def yearI (l : List Nat) : Int := if 2 < l.length then valL l else if valL l ≤ 69 then 2000 + valL l else 1900 + valL l
/-- the tick of four parts -/
def tickI (t d m y : List Nat) : Option Int :=
  let P := sp1 58 t
  let h := valL (P.getD 0 [])
  let mi := valL (P.getD 1 [])
  let s := valL (P.getD 2 [])
  if 23 < h ∨ 59 < mi ∨ 59 < s ∨ yearI y < 1601 then none else
  if ¬ (1 ≤ valL d ∧ valL d ≤ domI (yearI y) (monI m)) then none else
  if yearI y < 1970 then some 0 else
  some ((dbfI (yearI y) + dbmI (yearI y) (monI m) + valL d - 1) * 86400 + h * 3600 + mi * 60 + s)
def getP (f : Fnd) (p : Nat) : List Nat := match f.find? fun q => q.1 == p with
  | some q => tl q.2
  | none => []
/-- what a text tells -/
def dateF (ts : List Str) : Option Int :=
  let f := ts.foldl stepD []
  if f.length < 4 then none else tickI (getP f 0) (getP f 1) (getP f 2) (getP f 3)
end Kb
namespace Kb
def partN : List PySem.Str := ["time", "day", "month", "year"]
end Kb
namespace Kb
open PySem PySem.Spec PyProof.Rows L2 TL
def keyP (p : Nat) : Key := Sum.inr (partN.getD p "")
def fkv (f : Fnd) : List (Key × V) := f.map fun q => (keyP q.1, V.str q.2)
def FndAt (H : Hp) (a : Addr) (f : Fnd) : Prop := H a = some (.dK (fkv f)) ∧ ∀ q ∈ f, q.1 < 4
theorem keyP_inj : ∀ p q, p < 4 → q < 4 → keyP p = keyP q → p = q := by
  have h : ∀ p, p < 4 → ∀ q, q < 4 → (partN.getD p "" : Str) = partN.getD q "" → p = q := by decide +kernel
  exact fun p q hp hq e => h p hp q hq (Sum.inr.inj e)
theorem valP : ∀ {f : Fnd} {p : Nat}, (∀ q ∈ f, q.1 < 4) → p < 4 → valV (fkv f) (keyP p) = (f.find? fun q => q.1 == p).map fun q => V.str q.2
  | [], _, _, _ => rfl
  | q :: f, p, h, hp => by
    have ih := valP (f := f) (p := p) (fun r hr => h r (List.mem_cons_of_mem _ hr)) hp
    unfold valV fkv at ih ⊢
    rw [List.map_cons]
    by_cases e : q.1 = p
    · rw [List.find?_cons_of_pos (by simp [e]), List.find?_cons_of_pos (by simp [e])]; rfl
    · have : ¬ keyP q.1 = keyP p := fun z => e (keyP_inj _ _ (h q (List.mem_cons_self ..)) hp z)
      rw [List.find?_cons_of_neg (by simp [this]), List.find?_cons_of_neg (by simp [e])]
      exact ih
theorem hasP_find (f : Fnd) (p : Nat) : hasP f p = (f.find? fun q => q.1 == p).isSome := by
  unfold hasP
  rw [Bool.eq_iff_iff, List.find?_isSome, List.any_eq_true]
theorem putP {f : Fnd} {p : Nat} {t : Str} (h : ∀ q ∈ f, q.1 < 4) (hp : p < 4) (hn : hasP f p = false) : putK (fkv f) (keyP p) (.str t) = fkv (f ++ [(p, t)]) := by
  unfold putK
  rw [if_neg]
  · unfold fkv; rw [List.map_append]; rfl
  · intro z
    rw [List.any_eq_true] at z
    obtain ⟨kv, hk, e⟩ := z
    obtain ⟨q, hq, rfl⟩ := List.mem_map.mp hk
    have e := keyP_inj _ _ (h q hq) hp (of_decide_eq_true e)
    unfold hasP at hn
    rw [List.any_eq_false] at hn
    exact hn q hq (by simp [e])
end Kb
namespace Kb
open PySem PySem.Spec PyProof.Rows L2 TL
/-- the parts that were found -/
structure FndOk (f : Fnd) : Prop where
  lt : ∀ q ∈ f, q.1 < 4
  fit : ∀ q ∈ f, fits q.1 (tl q.2) = true ∧ ascii q.2 ∧ q.2.length ≤ 100000
  nd : (f.map (·.1)).Nodup
theorem FndOk.all {f : Fnd} (h : FndOk f) (h4 : 4 ≤ f.length) {p : Nat} (hp : p < 4) : ∃ t : Str, f.find? (fun q => q.1 == p) = some (p, t) ∧ getP f p = tl t ∧ fits p (tl t) = true ∧ ascii t ∧ t.length ≤ 100000 := by
  have hm : p ∈ f.map (·.1) := by
    match f, h4, h.lt, h.nd with
    | a :: b :: c :: d :: r, _, lt, nd =>
      simp only [List.map_cons, List.nodup_cons, List.mem_cons, not_or] at nd
      have l1 := lt a (by simp)
      have l2 := lt b (by simp)
      have l3 := lt c (by simp)
      have l4 := lt d (by simp)
      simp only [List.map_cons, List.mem_cons]
      have : p = a.1 ∨ p = b.1 ∨ p = c.1 ∨ p = d.1 := by
        have n1 := nd.1.1
        have n2 := nd.1.2.1
        have n3 := nd.1.2.2.1
        have n4 := nd.2.1.1
        have n5 := nd.2.1.2.1
        have n6 := nd.2.2.1.1
        omega
      rcases this with e | e | e | e
      · exact .inl e
      · exact .inr (.inl e)
      · exact .inr (.inr (.inl e))
      · exact .inr (.inr (.inr (.inl e)))
  obtain ⟨q, hq, e⟩ := List.mem_map.mp hm
  cases hf : f.find? fun q => q.1 == p with
  | none =>
    have := List.find?_eq_none.mp hf q hq
    simp [e] at this
  | some z =>
    have h1 : z.1 = p := by have := List.find?_some hf; simpa using this
    have h2 := List.mem_of_find?_eq_some hf
    obtain ⟨z1, z2⟩ := z
    have h1 : z1 = p := h1
    subst h1
    obtain ⟨f1, f2, f3⟩ := h.fit _ h2
    exact ⟨z2, rfl, by unfold getP; rw [hf], f1, f2, f3⟩
theorem FndOk.step {f : Fnd} (h : FndOk f) {t : Str} (ht : ascii t) (hl : t.length ≤ 100000) : FndOk (stepD f t) := by
  unfold stepD
  cases e : partI f (tl t) with
  | none => exact h
  | some p =>
    unfold partI at e
    obtain ⟨h1, h2, _⟩ := List.find?_range_eq_some.mp e
    have hp := List.mem_range.mp h2
    rw [Bool.and_eq_true, Bool.not_eq_true'] at h1
    refine ⟨fun q hq => ?_, fun q hq => ?_, ?_⟩
    · rcases List.mem_append.mp hq with m | m
      · exact h.lt q m
      · rw [List.mem_singleton.mp m]; exact hp
    · rcases List.mem_append.mp hq with m | m
      · exact h.fit q m
      · rw [List.mem_singleton.mp m]; exact ⟨h1.2, ht, hl⟩
    · rw [List.map_append, List.nodup_append]
      refine ⟨h.nd, by simp, fun a ha b hb => ?_⟩
      rw [List.map_singleton, List.mem_singleton] at hb
      obtain ⟨q, hq, rfl⟩ := List.mem_map.mp ha
      intro z
      have := h1.1
      unfold hasP at this
      rw [List.any_eq_false] at this
      exact this q hq (by simp [z, hb])
end Kb
namespace Kb
open PySem PySem.Spec PyProof.Rows L2 TL
theorem valL_nn (l : List Nat) : 0 ≤ valL l := Int.natCast_nonneg _
end Kb
namespace Kb
open PySem PySem.Spec PyProof.Rows L2 TL
theorem val_small (l : List Nat) (h : digB l = true) (hl : l.length ≤ 4) : 0 ≤ valL l ∧ valL l ≤ 9999 := by
  have ad := (digB_iff.mp h).1
  have key : ∀ c ∈ l, 48 ≤ c ∧ c ≤ 57 := fun c hc => ad c hc
  unfold valL
  match l, hl, key with
  | [], _, _ => simp [NumText.digitsVal]
  | [a], _, k => have := k a (by simp); simp only [NumText.digitsVal, List.foldl]; omega
  | [a, b], _, k => have := k a (by simp); have := k b (by simp); simp only [NumText.digitsVal, List.foldl]; omega
  | [a, b, c], _, k => have := k a (by simp); have := k b (by simp); have := k c (by simp); simp only [NumText.digitsVal, List.foldl]; omega
  | [a, b, c, d], _, k => have := k a (by simp); have := k b (by simp); have := k c (by simp); have := k d (by simp); simp only [NumText.digitsVal, List.foldl]; omega
  | a :: b :: c :: d :: e :: r, hl, _ => simp at hl
end Kb
namespace Kb
open PySem PySem.Spec PyProof.Rows L2 TL
def mkS (l : List Nat) : Str := ⟨l.toArray⟩
theorem mkS_tl (x : Str) : mkS (tl x) = x := ext_tl rfl
theorem ts_mk {ts : List Str} {L : List (List Nat)} (h : ts.map tl = L) : ts = L.map mkS := by
  rw [← h, List.map_map]
  exact (List.map_id ts).symm.trans (List.map_congr_left fun x _ => (mkS_tl x).symm)
def dateR (l : List Nat) : Option Int := dateF ((toks [] l).map mkS)
theorem toks_mem : ∀ (l acc t : List Nat), t ∈ toks acc l → (∀ s ∈ t, s ∈ acc ∨ s ∈ l) ∧ t.length ≤ acc.length + l.length
  | [], acc, t, h => by
    unfold toks at h
    split at h
    · cases h
    · rw [List.mem_singleton.mp h]; exact ⟨fun s hs => .inl hs, by simp⟩
  | c :: l, acc, t, h => by
    unfold toks at h
    split at h
    · obtain ⟨h1, h2⟩ := toks_mem l _ t h
      refine ⟨fun s hs => ?_, by rw [List.length_append] at h2; simp at h2 ⊢; omega⟩
      rcases h1 s hs with m | m
      · rcases List.mem_append.mp m with m | m
        · exact .inl m
        · exact .inr (by rw [List.mem_singleton.mp m]; exact List.mem_cons_self ..)
      · exact .inr (List.mem_cons_of_mem _ m)
    · split at h
      · obtain ⟨h1, h2⟩ := toks_mem l _ t h
        refine ⟨fun s hs => ?_, by simp at h2 ⊢; omega⟩
        rcases h1 s hs with m | m
        · cases m
        · exact .inr (List.mem_cons_of_mem _ m)
      · rcases List.mem_cons.mp h with rfl | h
        · exact ⟨fun s hs => .inl hs, by simp⟩
        · obtain ⟨h1, h2⟩ := toks_mem l _ t h
          refine ⟨fun s hs => ?_, by simp at h2 ⊢; omega⟩
          rcases h1 s hs with m | m
          · cases m
          · exact .inr (List.mem_cons_of_mem _ m)
theorem stepD_len (f : Fnd) (t : Str) : f.length ≤ (stepD f t).length ∧ (stepD f t).length ≤ f.length + 1 := by
  unfold stepD
  split
  · rw [List.length_append]; exact ⟨by omega, Nat.le_refl _⟩
  · exact ⟨Nat.le_refl _, by omega⟩
end Kb
namespace Kb
theorem toks_len : ∀ (l acc : List Nat), (toks acc l).length ≤ l.length + 1
  | [], acc => by unfold toks; split <;> simp
  | c :: l, acc => by
    have h1 := toks_len l (acc ++ [c])
    have h2 := toks_len l []
    unfold toks
    split
    · simp; omega
    · split
      · simp; omega
      · simp; omega
end Kb

namespace Kb
open PySem PySem.Spec PyProof.Rows L2 TL PySem.Calls PySem.NumText
/-! ### the attributes of lines: what a value tells, the word of a defect -/
def lowS (x : Str) : Str := mkS ((tl x).map lo1)
theorem lowS_eq {x : Str} (h : ascii x) : Txt.lower x = lowS x := ext_tl (by rw [lower_tl h]; rfl)
/-- without one sign c in front -/
def offS (c : Nat) (x : Str) : Str := match tl x with
  | [] => x
  | y :: l => if y = c then mkS l else x
theorem offS_eq (x : Str) {c : Nat} (hc : c < 256) : Txt.removeprefix x ⟨#[c]⟩ = offS c x := by
  unfold offS
  have e : tl (⟨#[c]⟩ : Str) = [c] := rfl
  split
  · next h => exact removeprefix_miss (by rw [e, h]; simp)
  · next y l h =>
    by_cases g : y = c
    · rw [if_pos g]; subst g
      exact ext_tl (removeprefix_hit (b := l) (by rw [e, h]; rfl))
    · rw [if_neg g]
      exact removeprefix_miss (by rw [e, h]; intro q; obtain ⟨r, q⟩ := q; simp at q; exact g q.1.symm)
def flagB (z : Str) : Bool := decide (z = "secure") || decide (z = "httponly") || decide (z = "partitioned")
def defTab : List (Str × V) := [("expires", .str "date"), ("max-age", .str "age"), ("domain", .str "domain"), ("path", .str "path"), ("samesite", .str "same"), ("priority", .str "priority")]
def optI : Option Int → V
  | some n => .int n
  | none => .non
def intR (l : List Nat) : Int := match l with
  | 45 :: l => -(digitsVal l : Int)
  | l => (digitsVal l : Int)
def ageR (x : Str) : V := if digB (tl (offS 45 x)) = true then .int (min (max (intR (tl x)) 0) 34560000) else .non
def domR (x : Str) : V := if hostB (tl (lowS (offS 46 x))) = true then .str (lowS (offS 46 x)) else .non
def samR (x : Str) : V := if lowS x = "strict" ∨ lowS x = "lax" ∨ lowS x = "none" then .str (lowS x) else .non
def priR (x : Str) : V := if lowS x = "low" then .int 0 else if lowS x = "medium" then .int 1 else if lowS x = "high" then .int 2 else .non
def toldR (z x : Str) : V := if z = "expires" then optI (dateR (tl x)) else if z = "max-age" then ageR x else if z = "domain" then domR x else if z = "path" then (if pathB (tl x) = true then .str x else .non) else if z = "samesite" then samR x else priR x
def nonB : V → Bool
  | .non => true
  | _ => false
/-- the defect of a piece but for a second one -/
def defR (z : Str) (v : Option Str) : Option Str :=
  if z = "" ∧ v.isNone = true then some "nothing"
  else if flagB z = false ∧ (lookL defTab z).isSome = false then some "unknown"
  else if (match v with | some x => decide (1024 < x.length) | none => false) = true then some "long"
  else if flagB z = true then (if v.isSome = true then some "value" else none)
  else if (match v with | none => true | some x => nonB (toldR z x)) = true then (match lookL defTab z with | some (.str d) => some d | _ => none)
  else none
def wordR (z : Str) (v : Option Str) (kvs : List (L2.Key × V)) : Option Str := match defR z v with
  | some w => some w
  | none => if (valV kvs (.inr z)).isSome = true then some "again" else none
def keepsB : Option Str → Bool
  | none => true
  | some w => decide (w = "value") || decide (w = "again")
def worthR (z : Str) (v : Option Str) : V := if flagB z = true then .bl true else toldR z (v.getD "")
def stepJ (st : List (Int × Str) × List (L2.Key × V)) (i : Int) (c : Str × Option Str) : List (Int × Str) × List (L2.Key × V) :=
  ((match wordR (lowS c.1) c.2 st.2 with | some w => st.1 ++ [(i, w)] | none => st.1),
   if keepsB (wordR (lowS c.1) c.2 st.2) = true then putK st.2 (.inr (lowS c.1)) (worthR (lowS c.1) c.2) else st.2)
def runJ : Int → List (Str × Option Str) → List (Int × Str) × List (L2.Key × V) → List (Int × Str) × List (L2.Key × V)
  | _, [], st => st
  | i, c :: r, st => runJ (i + 1) r (stepJ st i c)
theorem runJ_snoc : ∀ (L : List (Str × Option Str)) (i : Int) (c : Str × Option Str) (st : List (Int × Str) × List (L2.Key × V)), runJ i (L ++ [c]) st = stepJ (runJ i L st) (i + L.length) c
  | [], i, c, st => by simp [runJ]
  | d :: r, i, c, st => by
    show runJ (i + 1) (r ++ [c]) _ = stepJ (runJ (i + 1) r _) (i + ((r.length + 1 : Nat) : Int)) c
    rw [runJ_snoc r, show i + 1 + (r.length : Int) = i + ((r.length + 1 : Nat) : Int) by omega]
end Kb

namespace Kb
open PySem PySem.Spec PyProof.Rows L2 TL
/-! ### menus: lists of written values, lists of written tuples -/
theorem keep_new {d p : Addr} {H H1 : Hp} {o : HO} (hp : H p = none) (k : Keep d (upd H p o) H1) : Keep d H H1 := Same.then (Same.new hp) k
def Giv (te : TE) (v : V) : Prop := ∀ (σ : L2.St) (H : Hp) (Q : VK), Q v H → te σ H Q
theorem giv_c {v : V} : Giv (tC v) v := fun _ _ _ q => q
def repS (n : Nat) (a : Str) : Str := mkS ((List.replicate n (tl a)).flatten)
theorem giv_mul {a : Str} {n : Int} (h1 : n ≤ 4000 := by decide) (h2 : 0 ≤ n := by decide) (h3 : a.length ≤ 4000 := by decide +kernel) : Giv (tOp rMulS (tC (.str a)) (tC (.int n))) (.str (repS n.toNat a)) := fun σ H Q q =>
  ⟨a, n, rfl, rfl, h1, h2, h3, fun z hz => (ext_tl (hz.trans rfl) : z = repS n.toNat a) ▸ q⟩
def catS (a b : Str) : Str := mkS (tl a ++ tl b)
theorem catS_eq (a b : Str) : a ++ b = catS a b := ext_tl (tl_append ..)
theorem giv_add {ta tb : TE} {a b : Str} (ha : Giv ta (.str a)) (hb : Giv tb (.str b)) (hl : a.length + b.length ≤ 100000 := by decide +kernel) :
    Giv (tOp (fun x y H Q => ∃ i j, x = .str i ∧ y = .str j ∧ i.length + j.length ≤ sizeLine ∧ Q (.str (i ++ j)) H) ta tb) (.str (catS a b)) := fun σ H Q q =>
  ha σ H _ (hb σ H _ ⟨a, b, rfl, rfl, Nat.le_trans hl (by decide), (catS_eq a b).symm ▸ q⟩)
def GivA (t : TA) (vs : List V) : Prop := ∀ (σ : L2.St) (H : Hp) (Q : List V → Hp → Prop), Q vs H → t σ H Q
theorem giv_nil : GivA tNil [] := fun _ _ _ q => q
theorem giv_cons {te : TE} {t : TA} {v : V} {vs : List V} (h : Giv te v) (r : GivA t vs) : GivA (tCons te t) (v :: vs) := fun σ H Q q => h σ H _ (r σ H _ q)
theorem giv_lst {t : TA} {vs : List V} {σ : L2.St} {H : Hp} {Q : VK} (h : GivA t vs) (hl : vs.length ≤ 1000) (q : ∀ p, H p = none → Q (.ref p) (upd H p (.lst vs))) : tLst t σ H Q :=
  h σ H _ ⟨Nat.le_trans hl (by decide), q⟩
def TupsAt (H : Hp) : List Addr → List (List V) → Prop
  | [], [] => True
  | q :: qs, c :: cs => H q = some (.tup c) ∧ TupsAt H qs cs
  | _, _ => False
theorem TupsAt.same {H H' : Hp} (s : Same H H') : ∀ {qs : List Addr} {cs : List (List V)}, TupsAt H qs cs → TupsAt H' qs cs
  | [], [], _ => trivial
  | _ :: _, _ :: _, h => ⟨s _ _ h.1, TupsAt.same s h.2⟩
theorem TupsAt.keep {d : Addr} {n : Nat} {H H' : Hp} (s : Keep d H H') (D : DrawAt H d n) : ∀ {qs : List Addr} {cs : List (List V)}, TupsAt H qs cs → TupsAt H' qs cs
  | [], [], _ => trivial
  | q :: _, _ :: _, h => ⟨s _ _ h.1 (fun z => by obtain ⟨_, _, _, m, _⟩ := D; have := h.1; rw [z, m] at this; cases this), TupsAt.keep s D h.2⟩
theorem TupsAt.app {H : Hp} : ∀ {qs qs2 : List Addr} {cs cs2 : List (List V)}, TupsAt H qs cs → TupsAt H qs2 cs2 → TupsAt H (qs ++ qs2) (cs ++ cs2)
  | [], _, [], _, _, h => h
  | _ :: _, _, _ :: _, _, h, h2 => ⟨h.1, TupsAt.app h.2 h2⟩
theorem TupsAt.len {H : Hp} : ∀ {qs : List Addr} {cs : List (List V)}, TupsAt H qs cs → qs.length = cs.length
  | [], [], _ => rfl
  | _ :: _, _ :: _, h => by rw [List.length_cons, List.length_cons, TupsAt.len h.2]
theorem TupsAt.mem {H : Hp} {v : V} : ∀ {qs : List Addr} {cs : List (List V)}, TupsAt H qs cs → v ∈ qs.map V.ref → ∃ q c, v = .ref q ∧ c ∈ cs ∧ H q = some (.tup c)
  | [], [], _, h => by simp at h
  | q :: _, c :: _, h, hv => by
    rw [List.map_cons] at hv
    rcases List.mem_cons.mp hv with z | z
    · exact ⟨q, c, z, List.mem_cons_self .., h.1⟩
    · obtain ⟨q2, c2, e1, e2, e3⟩ := TupsAt.mem h.2 z
      exact ⟨q2, c2, e1, List.mem_cons_of_mem _ e2, e3⟩
def Rows (t : TA) (L : List (List V)) : Prop := ∀ (σ : L2.St) (H : Hp) (Q : List V → Hp → Prop), (∀ qs H1, Same H H1 → TupsAt H1 qs L → Q (qs.map V.ref) H1) → t σ H Q
theorem rows_nil : Rows tNil [] := fun _ H _ h => h [] H (Same.refl _) trivial
theorem rows_cons {ta t : TA} {c : List V} {L : List (List V)} (h : GivA ta c) (r : Rows t L) (hl : c.length ≤ 1000 := by decide) : Rows (tCons (tTup ta) t) (c :: L) := fun σ H Q q =>
  h σ H _ ⟨Nat.le_trans hl (by decide), fun p hp => r σ _ _ fun qs H1 s1 ht => q (p :: qs) H1 ((Same.new hp).trans s1) ⟨s1 _ _ upd_same, ht⟩⟩
theorem rows_lst {t : TA} {L : List (List V)} {σ : L2.St} {H : Hp} {Q : VK} (R : Rows t L) (hl : L.length ≤ 1000) (q : ∀ p qs H1, Same H H1 → TupsAt H1 qs L → H1 p = some (.lst (qs.map V.ref)) → H p = none → Q (.ref p) H1) : tLst t σ H Q :=
  R σ H _ fun qs H1 s1 ht => ⟨Nat.le_trans (by rw [List.length_map, ht.len]; exact hl : _ ≤ 1000) (by decide), fun p hp => q p qs _ (s1.trans (Same.new hp)) (ht.same (Same.new hp)) upd_same (s1.free hp)⟩
theorem rows_tup {t : TA} {L : List (List V)} {σ : L2.St} {H : Hp} {Q : VK} (R : Rows t L) (hl : L.length ≤ 1000) (q : ∀ p qs H1, Same H H1 → TupsAt H1 qs L → H1 p = some (.tup (qs.map V.ref)) → H p = none → Q (.ref p) H1) : tTup t σ H Q :=
  R σ H _ fun qs H1 s1 ht => ⟨Nat.le_trans (by rw [List.length_map, ht.len]; exact hl : _ ≤ 1000) (by decide), fun p hp => q p qs _ (s1.trans (Same.new hp)) (ht.same (Same.new hp)) upd_same (s1.free hp)⟩
theorem rows_cat {t : TA} {L L1 : List (List V)} {i : Nat} {σ : L2.St} {H : Hp} {Q : VK} {p1 : Addr} {qs1 : List Addr} (R : Rows t L) (hσ : ∀ Q' : VK, Q' (.ref p1) H → tVar i σ H Q') (m1 : H p1 = some (.lst (qs1.map V.ref))) (t1 : TupsAt H qs1 L1) (hl : L1.length ≤ 1000) (hl2 : L.length ≤ 1000)
    (q : ∀ p qs H1, Same H H1 → TupsAt H1 qs (L1 ++ L) → H1 p = some (.lst (qs.map V.ref)) → H p = none → Q (.ref p) H1) : tOp rCat (tVar i) (tLst t) σ H Q :=
  hσ _ (rows_lst R hl2 fun p2 qs2 H2 s2 t2 m2 _ => ⟨p1, p2, _, _, rfl, rfl, s2 _ _ m1, m2, Nat.le_trans (by rw [List.length_map, List.length_map, t1.len, t2.len]; omega : _ ≤ 2000) (by decide), fun p3 hp3 =>
    q p3 (qs1 ++ qs2) _ (s2.trans (Same.new hp3)) (((t1.same s2).app t2).same (Same.new hp3)) (by rw [upd_same, List.map_append]) (s2.free hp3)⟩)
theorem seq_asg {te : TE} {g : TG} {b : TS} {D : Ends} {σ : L2.St} {H : Hp} (h : te σ H fun x H1 => g x σ H1 (b D)) : tSeq (tAsg te g) b D σ H := h
end Kb

namespace Kb
open PySem PySem.Spec PyProof.Rows L2
/-! ### own classes: what of the text is asked; == by an own def -/
structure ClsO (K : PySem.W.Frag) (C : Addr) : Prop where
  cl : Cls K C
  ca : PySem.W.findIn K (.ref C) "__class__" = some (some (.builtin "object.__class__"))
  cn : PySem.W.specialIn K (.builtin "object.__class__") "__get__" = some (some (.builtin "getset_descriptor.__get__"))
  ct : PySem.W.takesIn K (.builtin "object.__class__") = some true
  cm : PySem.W.mroIn K C (.type "object") = some true
theorem ClsO.ty {K : PySem.W.Frag} {H : Hp} {a C dx : Addr} {fs : List (Str × V)} (c : ClsO K C) (e : H a = some (.ins C dx fs)) : TyX K H (.ref a) (.ref C) := .base (.ins e c.cl c.ca c.cn c.ct c.cm)
/-- x == y, x an instance of the class at C, which has an own def for it -/
def rEqOwn (K : PySem.W.Frag) (C : Addr) (sp : Sp) (E : XK) : R2 := fun x y H Q => ∃ a dx fs t, x = .ref a ∧ H a = some (.ins C dx fs) ∧ TyX K H y t ∧ PySem.W.notFirst K C t = true ∧ sp [x, y] H Q E
section
variable {X : Cx} {CX : CXT} {n : Nat} {C g : Addr} {sp : Sp} {E : XK} {fd : FuncData} {ps : List Str}
theorem op_eqOwn {op : CmpOp} (hop : ∀ a b, compareOp op a b = richCompare op a b) (hs : PySem.W.findIn X.K (.ref C) (cmpInfo op).2.1 = some (some (.ref g))) (hf : PySem.W.isFn X.K (.ref g) = true) (F : FnR X.prog X.w X.K X.mg X.base CX n g sp)
    (hr : Room n X.A) (hx : Passes CX X E) : OpR X (compareOp op) (rEqOwn X.K C sp E) := by
  intro pins s σ H x y v u Q I rx ry h
  obtain ⟨a, dx, fs, t, rfl, ha, ty, hn, q⟩ := h
  cases (show v = Value.ref a from rx)
  obtain ⟨mA, O, _⟩ := ins_get I.hok ha
  obtain ⟨od, J, _⟩ := O.look
  obtain ⟨m, hF⟩ := I.fr
  obtain ⟨P, Z, p, hx2⟩ := kit_of I ry ty
  rw [hop]
  refine PySem.W.cmp_K (op := op) (tb := t) hr.units0 hF I.ok.mod.kin J ?_ hn hs hf ?_
  · exact Z.ty _ _ I.kIn p
  refine wpAny_mono (wpAny_call (run_fnR (us := [.ref a, u]) (vs := [.ref a, y]) F hr hx I (.cons rfl (.cons ry .nil)) q)) (fun w s' z => ?_) fun _ _ x => x
  obtain ⟨z', H', I', rz, qz⟩ := z
  exact SlX.cmpback rz ⟨z', H', I', rz, qz⟩
end
end Kb
namespace Kb
open PySem PySem.Spec PyProof.Rows L2
/-! ### defs of a class's body -/
def NoAs (K : PySem.W.Frag) (C : Addr) : List Str → Prop
  | [] => True
  | f :: r => NoAttr K C f ∧ NoAs K C r
theorem NoAs.get {K : PySem.W.Frag} {C : Addr} {f : Str} : ∀ {l : List Str}, NoAs K C l → f ∈ l → NoAttr K C f
  | _ :: _, h, m => (List.mem_cons.mp m).elim (fun e => e ▸ h.1) fun m => NoAs.get h.2 m
/-- the class x stands at C -/
structure OwnC (K : PySem.W.Frag) (mg : Str → Option Value) (x : Str) (fs : List Str) (C : Addr) : Prop where
  g : mg x = some (.ref C)
  o : ClsO K C
  mks : PySem.W.makesIn K C = true
  kp : PySem.W.keepIn K (.ref C) = true
  na : NoAs K C fs
  ty : PySem.W.typeIn K (.ref C) = some (.type "type")
  ic : PySem.W.isClsIn K C = true
def tyV : Value → Bool
  | .type _ => true
  | _ => false
/-- a built-in type's instance is none of an own class -/
theorem OwnC.kitT {K : PySem.W.Frag} {mg : Str → Option Value} {x : Str} {fs : List Str} {C : Addr} (o : OwnC K mg x fs C) {T : String} (h : (fastBuiltinMro T).elim false (·.all tyV) = true) : PySem.W.kitOne K (.type T) (.ref C) = some false ∧ PySem.W.notFirst K C (.type T) = true := by
  have hs : PySem.W.subIn K (.type T) (.ref C) = some false := by
    show (fastBuiltinMro T).map (·.contains (Value.ref C)) = some false
    cases hl : fastBuiltinMro T with
    | none => rw [hl] at h; cases h
    | some l =>
      rw [hl] at h
      have h : l.all tyV = true := h
      rw [Option.map_some]
      refine congrArg some ?_
      rw [Bool.eq_false_iff]
      intro z
      rw [List.contains_iff_exists_mem_beq] at z
      obtain ⟨a, ha, e⟩ := z
      have := List.all_eq_true.mp h a ha
      cases a <;> first | (exact Bool.noConfusion (show false = true from this)) | (exact Bool.noConfusion (show false = true from e)) | (simp [BEq.beq] at e; done)
  have hc := o.ic
  unfold PySem.W.isClsIn at hc
  refine ⟨?_, ?_⟩
  · unfold PySem.W.kitOne PySem.W.kitCls
    simp [hc, o.ty, hs]
  · unfold PySem.W.notFirst
    rw [hs]; simp
/-- .. nor an instance of another own class -/
theorem OwnC.kitC {K : PySem.W.Frag} {mg : Str → Option Value} {x : Str} {fs : List Str} {C D : Addr} (o : OwnC K mg x fs C) (hs : PySem.W.subIn K (.ref D) (.ref C) = some false) (hn : D ≠ C) : PySem.W.kitOne K (.ref D) (.ref C) = some false ∧ PySem.W.notFirst K C (.ref D) = true := by
  have hc := o.ic
  unfold PySem.W.isClsIn at hc
  refine ⟨?_, ?_⟩
  · unfold PySem.W.kitOne PySem.W.kitCls
    simp [hc, o.ty, hs, hn]
  · unfold PySem.W.notFirst
    rw [hs]; simp
theorem OwnC.first {K : PySem.W.Frag} {C : Addr} : PySem.W.notFirst K C (.ref C) = true := by
  unfold PySem.W.notFirst
  simp
/-- the def m of the class at C -/
def MthT (K : PySem.W.Frag) (mg : Str → Option Value) (x m qual : Str) (st : Stmt) (ps : List Str) : Prop :=
  ∃ (C f : Addr) (fd : FuncData), mg x = some (.ref C) ∧ PySem.W.findIn K (.ref C) m = some (some (.ref f)) ∧ PySem.W.isFn K (.ref f) = true ∧ Fun K m qual st f fd ∧ ∀ us : List Value, us.length = ps.length → bindArgs fd ⟨us, []⟩ = pure (ps.zip us)
theorem MthT.mk {K : PySem.W.Frag} {mg : Str → Option Value} {h : Heap} {x m qual : Str} {st : Stmt} {ps : List Str} {C f : Addr} {oc : Value} {od an : Option Addr} {sl : Array (Option Value)} {kV doc pm cd ct : Value} (X : K.In h) (G : h.Ns PySem.mainGlobals mg)
    (b : ∀ (kV doc pm : Value) (an : Option Addr) (cdv ct : Value) (us : List Value), us.length = ps.length → bindArgs (PySem.W.fnOf m qual (defArgs st) (defBody st) (defScope st) .none kV doc pm an cdv ct) ⟨us, []⟩ = pure (ps.zip us))
    (a : PySem.W.nsIn K PySem.mainGlobals x = some (some (.ref C))) (i : PySem.W.findIn K (.ref C) m = some (some (.ref f))) (n : PySem.W.isFn K (.ref f) = true)
    (l : K.lookup f = some ⟨oc, od, .func (PySem.W.fnOf m qual (defArgs st) (defBody st) (defScope st) .none kV doc pm an cd ct), sl⟩)
    (c : PySem.W.codeIn K cd qual = true) (k : PySem.W.keepIn K (.ref f) = true) : MthT K mg x m qual st ps :=
  ⟨C, f, _, PySem.W.mg_of X G a, i, n, fun_mk l c k, b kV doc pm an cd ct⟩
/-- .. and its promise -/
def CalM (P : Program) (w : World) (K : PySem.W.Frag) (mg : Str → Option Value) (base : Heap) (CX : CXT) (k : Nat) (x m : Str) (ps : List Str) (sp : Sp) : Prop :=
  ∃ (C f : Addr) (fd : FuncData), mg x = some (.ref C) ∧ PySem.W.findIn K (.ref C) m = some (some (.ref f)) ∧ PySem.W.isFn K (.ref f) = true ∧ FnOk P w K mg base CX k f fd ps sp ∧ Binds K fd ps []
section
variable {P : Program} {w : World} {K : PySem.W.Frag} {mg : Str → Option Value} {base : Heap}
theorem MthT.ok0 {x m qual : Str} {st : Stmt} {N ps : List Str} {k : Nat} {sp : Sp} (D : MthT K mg x m qual st ps) (S : FnScope N ps (defScope st)) (len : ∀ vs H Q E, sp vs H Q E → vs.length = ps.length)
    (hbody : ∀ (f : Addr) (cdv : Value) (A : Around) (outer : List Env) (s : Shared) (H : Hp) (vs : List V) (Q : VK) (E : XK), Room k (A.deeper (envOfC qual (defScope st) s.heap.objs.size f cdv)) → sp vs H Q E →
      ∃ t, PSs (cxOf CX0 P w K mg base N qual (defScope st) f cdv A outer s H E).nox (defBody st) t ∧ t { nx := fun _ H' => Q .non H', rt := Q } (start N vs) H) : CalM P w K mg base CX0 (k + 1) x m ps sp := by
  obtain ⟨C, f, fd, g, i, n, F, b⟩ := D
  exact ⟨C, f, fd, g, i, n, F.ok S len (hbody f), .all b⟩
end
section
variable {X : Cx} {CX : CXT} {j k : Nat} {x : Str} {ps fs : List Str} {sp : Sp} {E : XK} {C : Addr}
/-- C(e, ..) -/
theorem pe_mkC {p pos : Pos} {e : Expr} {es : List Expr} {t : TA} (o : OwnC X.K X.mg x fs C) (c : CalM X.prog X.w X.K X.mg X.base CX j x "__init__" ps sp) (hr : Room k X.A) (hjk : j + 1 ≤ k) (hg : Gl X x) (hx : Passes CX X E)
    (ha : PA X (e :: es) t) (hdb : (x == ("__debug__" : Str)) = false := by decide) (he : starEach (e :: es) X.env = (false, eval e X.env) :: starEach es X.env := by rfl) (hpl : (backTo pos (starEach es X.env)).any (·.1) = false := by rfl) :
    PE X (.Call (.Name x p) (e :: es) [] pos) (tMake C sp [] E t) := by
  obtain ⟨C', f, fd, g, i, n, F, b⟩ := c
  obtain rfl : C' = C := by have := g.symm.trans o.g; cases this; rfl
  exact pe_make ⟨o.mks, i, n, o.kp⟩ F (hr.mono hjk) hg o.g b .nil hx ha hdb he hpl
/-- x == y by the def of x's class -/
theorem op_eqM (o : OwnC X.K X.mg x fs C) (c : CalM X.prog X.w X.K X.mg X.base CX j x "__eq__" ps sp) (hr : Room k X.A) (hjk : j ≤ k) (hx : Passes CX X E) (hl : ∀ vs H Q E, sp vs H Q E → vs.length = ps.length) : OpR X (compareOp .Eq) (rEqOwn X.K C sp E) := by
  obtain ⟨C', f, fd, g, i, n, F, b⟩ := c
  obtain rfl : C' = C := by have := g.symm.trans o.g; cases this; rfl
  refine op_eqOwn (fun _ _ => rfl) i n ((F.raw b .nil).imp fun vs H Q E h => ?_) (hr.mono hjk) hx
  rw [List.append_nil]; exact h
end
end Kb
namespace Kb
open PySem PySem.Spec PyProof.Rows L2
theorem OwnC.ex {K : PySem.W.Frag} {mg : Str → Option Value} {h : Heap} {x : Str} {fs : List Str} {C : Addr} (X : K.In h) (G : h.Ns PySem.mainGlobals mg) (a : PySem.W.nsIn K PySem.mainGlobals x = some (some (.ref C)))
    (pg : PySem.W.plainGet K C Str.empty = true) (hd : PySem.W.hasDictIn K C = true) (po : PySem.W.plainOver K C = true) (sa : PySem.W.findIn K (.ref C) "__setattr__" = some (some (.builtin "object.__setattr__")))
    (ca : PySem.W.findIn K (.ref C) "__class__" = some (some (.builtin "object.__class__"))) (cn : PySem.W.specialIn K (.builtin "object.__class__") "__get__" = some (some (.builtin "getset_descriptor.__get__")))
    (ct : PySem.W.takesIn K (.builtin "object.__class__") = some true) (cm : PySem.W.mroIn K C (.type "object") = some true) (mks : PySem.W.makesIn K C = true) (kp : PySem.W.keepIn K (.ref C) = true) (ty : PySem.W.typeIn K (.ref C) = some (.type "type")) (ic : PySem.W.isClsIn K C = true) (na : NoAs K C fs) : ∃ C, OwnC K mg x fs C :=
  ⟨C, PySem.W.mg_of X G a, ⟨⟨pg, hd, po, sa⟩, ca, cn, ct, cm⟩, mks, kp, na, ty, ic⟩
theorem two_own {K : PySem.W.Frag} {mg : Str → Option Value} {x y : Str} {D C : Addr} (h1 : mg x = some (.ref D)) (h2 : mg y = some (.ref C)) (h3 : PySem.W.subIn K (.ref D) (.ref C) = some false) (h4 : D ≠ C) :
    ∃ D C, mg x = some (.ref D) ∧ mg y = some (.ref C) ∧ PySem.W.subIn K (.ref D) (.ref C) = some false ∧ D ≠ C := ⟨D, C, h1, h2, h3, h4⟩
/-! ### an __init__ with keyword-only parameters: all of them are told, or none -/
def KwAll (K : PySem.W.Frag) (D : Addr) : List (Str × V) → Prop
  | [] => True
  | q :: r => (∃ u, PySem.W.nsIn K D q.1 = some (some u) ∧ RelV q.2 u) ∧ KwAll K D r
theorem KwAll.all {K : PySem.W.Frag} {D : Addr} : ∀ {l : List (Str × V)}, KwAll K D l → ∀ q ∈ l, ∃ u, PySem.W.nsIn K D q.1 = some (some u) ∧ RelV q.2 u
  | _ :: _, h, q, m => (List.mem_cons.mp m).elim (fun e => e ▸ h.1) fun m => KwAll.all h.2 q m
theorem KwAll.cons {K : PySem.W.Frag} {D : Addr} {f : Str} {v : V} {r : List (Str × V)} {u : Value} (h1 : PySem.W.nsIn K D f = some (some u)) (h2 : RelV v u) (h3 : KwAll K D r) : KwAll K D ((f, v) :: r) := ⟨⟨u, h1, h2⟩, h3⟩
def MthK (K : PySem.W.Frag) (mg : Str → Option Value) (x m qual : Str) (st : Stmt) (n : Nat) (ps : List Str) (kws : List (Str × V)) : Prop :=
  ∃ (C f : Addr) (fd : FuncData), mg x = some (.ref C) ∧ PySem.W.findIn K (.ref C) m = some (some (.ref f)) ∧ PySem.W.isFn K (.ref f) = true ∧ FunD K m qual (defArgs st) (defBody st) (defScope st) [] kws f fd ∧
    (∃ g, KBn K fd ps n (kws.map (·.1)) g (fun vs zs => vs ++ zs)) ∧ ∃ g, KBn K fd ps n [] g (fun vs _ => vs ++ kws.map (·.2))
theorem MthK.mk {K : PySem.W.Frag} {mg : Str → Option Value} {h : Heap} {x m qual : Str} {st : Stmt} {ps : List Str} {n : Nat} {kws : List (Str × V)} {C f D : Addr} {oc : Value} {od an : Option Addr} {sl : Array (Option Value)} {doc pm cd ct : Value} (X : K.In h) (G : h.Ns PySem.mainGlobals mg) (hk : kws ≠ [])
    (b : ∀ (kV doc pm : Value) (an : Option Addr) (cdv ct : Value) (us ws : List Value), us.length = n → ws.length = kws.length → bindArgs (PySem.W.fnOf m qual (defArgs st) (defBody st) (defScope st) .none kV doc pm an cdv ct) ⟨us, (kws.map (·.1)).zip ws⟩ = pure (ps.zip (us ++ ws)))
    (b0 : ∀ (D : Addr) (doc pm : Value) (an : Option Addr) (cdv ct : Value) (us mv : List Value), us.length = n → mv.length = kws.length →
      KwChain D ((kws.map (·.1)).zip mv) (bindArgs (PySem.W.fnOf m qual (defArgs st) (defBody st) (defScope st) .none (.ref D) doc pm an cdv ct) ⟨us, []⟩) (ps.zip (us ++ mv)))
    (a : PySem.W.nsIn K PySem.mainGlobals x = some (some (.ref C))) (i : PySem.W.findIn K (.ref C) m = some (some (.ref f))) (fn : PySem.W.isFn K (.ref f) = true)
    (l : K.lookup f = some ⟨oc, od, .func (PySem.W.fnOf m qual (defArgs st) (defBody st) (defScope st) .none (.ref D) doc pm an cd ct), sl⟩)
    (c : PySem.W.codeIn K cd qual = true) (k : PySem.W.keepIn K (.ref f) = true) (kw : KwAll K D kws) : MthK K mg x m qual st n ps kws := by
  have F : FunD K m qual (defArgs st) (defBody st) (defScope st) [] kws f (PySem.W.fnOf m qual (defArgs st) (defBody st) (defScope st) .none (.ref D) doc pm an cd ct) :=
    ⟨⟨oc, od, .none, .ref D, doc, pm, an, cd, ct, sl, rfl, l, c, .inl ⟨rfl, rfl⟩, .inr ⟨D, rfl, kw.all⟩⟩, k⟩
  refine ⟨C, f, _, PySem.W.mg_of X G a, i, fn, F, ?_, ?_⟩
  · obtain ⟨mv, B⟩ := F.kbinds0 n (kws.map (·.1)) [] (fun us _ ws => us ++ ws) hk (fun q hq => by cases hq) (fun r _ rz => r.append rz) (fun D doc pm an cdv ct us mv ws h1 h2 h3 => b (.ref D) doc pm an cdv ct us ws h1 (by rw [h3, List.length_map]))
    exact ⟨_, B⟩
  · obtain ⟨mv, B⟩ := F.kbinds0 n [] kws (fun us mv _ => us ++ mv) hk (fun q hq => hq) (fun r rm _ => r.append rm) (fun D doc pm an cdv ct us mv ws h1 h2 h3 => b0 D doc pm an cdv ct us mv h1 h2)
    exact ⟨_, B⟩
/-- .. and its promise -/
def CalK (P : Program) (w : World) (K : PySem.W.Frag) (mg : Str → Option Value) (base : Heap) (CX : CXT) (k : Nat) (x m : Str) (n : Nat) (ps : List Str) (kws : List (Str × V)) (sp : Sp) : Prop :=
  ∃ (C f : Addr) (fd : FuncData), mg x = some (.ref C) ∧ PySem.W.findIn K (.ref C) m = some (some (.ref f)) ∧ PySem.W.isFn K (.ref f) = true ∧ FnOk P w K mg base CX k f fd ps sp ∧
    (∃ g, KBn K fd ps n (kws.map (·.1)) g (fun vs zs => vs ++ zs)) ∧ ∃ g, KBn K fd ps n [] g (fun vs _ => vs ++ kws.map (·.2))
section
variable {P : Program} {w : World} {K : PySem.W.Frag} {mg : Str → Option Value} {base : Heap}
theorem MthK.okX {x m qual : Str} {st : Stmt} {N ps : List Str} {k n : Nat} {kws : List (Str × V)} {sp : Sp} (D : MthK K mg x m qual st n ps kws) (S : FnScope N ps (defScope st)) (len : ∀ vs H Q E, sp vs H Q E → vs.length = ps.length)
    (hbody : ∀ (f : Addr) (cdv : Value) (A : Around) (outer : List Env) (s : Shared) (H : Hp) (vs : List V) (Q : VK) (E : XK), Room k (A.deeper (envOfC qual (defScope st) s.heap.objs.size f cdv)) → sp vs H Q E →
      ∃ t, PSs (cxOf (L2.CX P w) P w K mg base N qual (defScope st) f cdv A outer s H E) (defBody st) t ∧ t { nx := fun _ H' => Q .non H', rt := Q } (start N vs) H) : CalK P w K mg base (L2.CX P w) (k + 1) x m n ps kws sp := by
  obtain ⟨C, f, fd, g, i, fn, F, b, b0⟩ := D
  exact ⟨C, f, fd, g, i, fn, F.ok S len (hbody f), b, b0⟩
end
section
variable {X : Cx} {CX : CXT} {j k n : Nat} {x : Str} {ps fs : List Str} {kws : List (Str × V)} {sp : Sp} {E : XK} {C : Addr}
/-- C(e, .., k = v, ..), all keyword-only parameters told -/
theorem pe_mkK {p pos : Pos} {e : Expr} {es : List Expr} {kw : List Keyword} {t tk : TA} (o : OwnC X.K X.mg x fs C) (c : CalK X.prog X.w X.K X.mg X.base CX j x "__init__" (n + 1) ps kws sp) (hr : Room k X.A) (hjk : j + 1 ≤ k) (hg : Gl X x) (hx : Passes CX X E)
    (ha : PA X (e :: es) t) (hkw : PK X kw tk) (hall : (backToKw pos (keywordEach kw X.env)).all (·.1.isSome) = true := by rfl) (hks : (backToKw pos (keywordEach kw X.env)).filterMap (·.1) = kws.map (·.1) := by rfl) (hdb : (x == ("__debug__" : Str)) = false := by decide)
    (he : starEach (e :: es) X.env = (false, eval e X.env) :: starEach es X.env := by rfl) (hpl : ((backTo pos (starEach (e :: es) X.env)).any (·.1) || (backToKw pos (keywordEach kw X.env)).any (·.1.isNone)) = false := by rfl) :
    PE X (.Call (.Name x p) (e :: es) kw pos) (tMakeK C n (kws.map (·.1)).length sp (fun vs zs => vs ++ zs) E t tk) := by
  obtain ⟨C', f, fd, g, i, fn, F, ⟨gb, B⟩, _⟩ := c
  obtain rfl : C' = C := by have := g.symm.trans o.g; cases this; rfl
  exact pe_makeK ⟨o.mks, i, fn, o.kp⟩ F (hr.mono hjk) hg o.g B hx ha hkw hall hks hdb he hpl
/-- C(e, ..), none told -/
theorem pe_mkK0 {p pos : Pos} {e : Expr} {es : List Expr} {t : TA} (o : OwnC X.K X.mg x fs C) (c : CalK X.prog X.w X.K X.mg X.base CX j x "__init__" (n + 1) ps kws sp) (hr : Room k X.A) (hjk : j + 1 ≤ k) (hg : Gl X x) (hx : Passes CX X E)
    (ha : PA X (e :: es) t) (hdb : (x == ("__debug__" : Str)) = false := by decide)
    (he : starEach (e :: es) X.env = (false, eval e X.env) :: starEach es X.env := by rfl) (hpl : ((backTo pos (starEach (e :: es) X.env)).any (·.1) || (backToKw pos (keywordEach [] X.env)).any (·.1.isNone)) = false := by rfl) :
    PE X (.Call (.Name x p) (e :: es) [] pos) (tMakeK C n 0 sp (fun vs _ => vs ++ kws.map (·.2)) E t tNil) := by
  obtain ⟨C', f, fd, g, i, fn, F, _, ⟨gb, B⟩⟩ := c
  obtain rfl : C' = C := by have := g.symm.trans o.g; cases this; rfl
  exact pe_makeK (ks := []) ⟨o.mks, i, fn, o.kp⟩ F (hr.mono hjk) hg o.g B hx ha pk_nil rfl rfl hdb he hpl
end
end Kb
namespace Kb
open PySem PySem.Spec PyProof.Rows L2
/-! ### a display of pairs whose second items are reckoned -/
def GivS (σ : L2.St) (H0 : Hp) (te : TE) (v : V) : Prop := ∀ (H : Hp) (Q : VK), Same H0 H → (∀ H', Same H H' → Q v H') → te σ H Q
def RowsS (σ : L2.St) (H0 : Hp) (t : TA) (L : List (List V)) : Prop := ∀ (H : Hp) (Q : List V → Hp → Prop), Same H0 H → (∀ qs H1, Same H H1 → TupsAt H1 qs L → Q (qs.map V.ref) H1) → t σ H Q
theorem rowsS_nil {σ : L2.St} {H0 : Hp} : RowsS σ H0 tNil [] := fun H _ _ h => h [] H (Same.refl _) trivial
theorem rowsS_cons {σ : L2.St} {H0 : Hp} {a v : V} {te : TE} {t : TA} {L : List (List V)} (h : GivS σ H0 te v) (r : RowsS σ H0 t L) : RowsS σ H0 (tCons (tTup (tCons (tC a) (tCons te tNil))) t) ([a, v] :: L) := fun H Q s q =>
  h H _ s fun H1 s1 => ⟨show 2 ≤ sizeLine by decide, fun p hp => r _ _ (s.trans (s1.trans (Same.new hp))) fun qs H2 s2 ht => q (p :: qs) H2 ((s1.trans (Same.new hp)).trans s2) ⟨s2 _ _ upd_same, ht⟩⟩
theorem rowsS_tup {σ : L2.St} {H0 H : Hp} {t : TA} {L : List (List V)} {Q : VK} (R : RowsS σ H0 t L) (hl : L.length ≤ 1000) (s : Same H0 H) (q : ∀ p qs H1, Same H H1 → TupsAt H1 qs L → H1 p = some (.tup (qs.map V.ref)) → Q (.ref p) H1) : tTup t σ H Q :=
  R H _ s fun qs H1 s1 ht => ⟨Nat.le_trans (by rw [List.length_map, ht.len]; exact hl : _ ≤ 1000) (by decide), fun p hp => q p qs _ (s1.trans (Same.new hp)) (ht.same (Same.new hp)) upd_same⟩
theorem TupsAt.get {H : Hp} : ∀ {qs : List Addr} {cs : List (List V)} {i : Nat} {x : V}, TupsAt H qs cs → (qs.map V.ref)[i]? = some x → ∃ q c, x = .ref q ∧ cs[i]? = some c ∧ H q = some (.tup c)
  | [], [], _, _, _, e => by simp at e
  | q :: _, c :: _, 0, x, h, e => by simp at e; exact ⟨q, c, e.symm, rfl, h.1⟩
  | _ :: qs, _ :: cs, i + 1, x, h, e => by
    obtain ⟨q, c, h1, h2, h3⟩ := TupsAt.get (i := i) (x := x) h.2 (by simpa using e)
    exact ⟨q, c, h1, by simpa using h2, h3⟩
theorem itup_rowsS {K : PySem.W.Frag} {σ : L2.St} {H : Hp} {t : TA} {L : List (List V)} {R' : It → Hp → Prop} (R : RowsS σ H t L) (hl : L.length ≤ 1000) (q : ∀ p qs H1, Same H H1 → TupsAt H1 qs L → H1 p = some (.tup (qs.map V.ref)) → R' (Itt K p) H1) : iTup K (tTup t) σ H R' :=
  rowsS_tup R hl (Same.refl _) fun p qs H1 s1 t1 m1 => ⟨p, rfl, ⟨_, SqT.of m1⟩, q p qs H1 s1 t1 m1⟩
theorem seq_for_rowsS {K : PySem.W.Frag} {σ : L2.St} {H : Hp} {t : TA} {L : List (List V)} {g : TG} {tb b : TS} {D : Ends} (R : RowsS σ H t L) (hl : L.length ≤ 1000)
    (q : ∀ p qs H1, Same H H1 → TupsAt H1 qs L → H1 p = some (.tup (qs.map V.ref)) → ∃ Pv : Nat → L2.St → Hp → Prop, Pv 0 σ H1 ∧ (∀ i σ H2, i ≤ (qs.map V.ref).length → Pv i σ H2 → SqT K H2 p (qs.map V.ref)) ∧
      (∀ i x σ H2, (qs.map V.ref)[i]? = some x → Pv i σ H2 → g x σ H2 fun σ2 H3 => tb { D with nx := Pv (i + 1), ct := Pv (i + 1), bk := b D } σ2 H3) ∧ ∀ σ H2, Pv (qs.map V.ref).length σ H2 → b D σ H2) : tSeq (tFor (iTup K (tTup t)) g tb) b D σ H := by
  unfold tSeq tFor
  exact itup_rowsS R hl fun p qs H1 s1 t1 m1 => let ⟨Pv, h0, h1, h2, h3⟩ := q p qs H1 s1 t1 m1; for_tup (D := { D with nx := b D }) Pv h0 h1 h2 h3
theorem putF_app {f : Str} {v : V} : ∀ {fs : List (Str × V)} (names : List Str), fs.map (·.1) = names → (names.all fun g => !decide (g = f)) = true → putF f v fs = fs ++ [(f, v)]
  | [], _, _, _ => rfl
  | (g, x) :: r, names, h, hn => by
    subst h
    rw [List.map_cons, List.all_cons, Bool.and_eq_true] at hn
    have hg : ¬ g = f := fun e => by rw [e] at hn; simp at hn
    show (if g = f then (g, v) :: r else (g, x) :: putF f v r) = _
    rw [if_neg hg, putF_app (fs := r) _ rfl hn.2]
    rfl
end Kb

namespace Kb
open PySem PySem.Spec PyProof.Rows L2
/-! ### a caught error of a class that is told by its base; isinstance of it -/
/-- isinstance(e, c), e the caught error with its dict -/
def rIsX (K : PySem.W.Frag) (a : Addr) (cls : Value) (d : Option Addr) : List V → Hp → VK → Prop := fun xs H Q =>
  ∃ (D dd : Addr) (fs : List (Str × V)) (c : V) (cv : Value) (b : Bool), xs = [.ref a, c] ∧ cls = .ref D ∧ d = some dd ∧ H dd = some (.xd fs) ∧ (∀ u, RelV c u → u = cv) ∧ ExcC K D ∧ PySem.W.kitOne K (.ref D) cv = some b ∧ Q (.bl b) H
theorem call_isX {X : Cx} {a : Addr} {cls : Value} {d : Option Addr} {oe : Obj} {pn : List (Addr × Obj)} (hz : Zc cls d oe) (hf : ∃ vs, oe.data = .fields vs) : CallR (X.suite a ((a, oe) :: pn)) (.builtin "isinstance") (rIsX X.K a cls d) := by
  intro pins s σ H xs us Q I r h
  obtain ⟨D, dd, fs, c, cv, b, rfl, ec, ed, hd, hcv, C, e, q⟩ := h
  subst ec ed
  obtain ⟨u1, u2, rfl, r1, r2⟩ : ∃ u1 u2, us = [u1, u2] ∧ RelV (.ref a) u1 ∧ RelV c u2 := by
    cases r with
    | cons ru rr =>
      cases rr with
      | cons rt rr => cases rr; exact ⟨_, _, rfl, ru, rt⟩
  obtain rfl : u1 = Value.ref a := r1
  obtain rfl := hcv _ r2
  obtain ⟨ha, _⟩ := I.pin (a, oe) (List.mem_append_left _ List.mem_cons_self)
  obtain ⟨vs, hv⟩ := hf
  obtain ⟨mA, hns, _⟩ := (show ObjOk X.prog X.w H s.heap dd (.xd fs) from I.hok dd _ hd)
  obtain ⟨od, ho, _⟩ := lookIn_ns hns
  have J : PySem.W.InstAt s.heap a oe D (some od) := ⟨ha, hz.1, by unfold PySem.W.notCls; rw [hv] <;> rfl, by rw [hz.2]; exact ho⟩
  have hcl : (PySem.W.clsIn X.K D).isSome = true := by
    obtain ⟨cd, hc, _⟩ := PySem.W.any_some C.hd
    rw [hc]; rfl
  exact PySem.W.kia_one (PySem.W.kitx_exc hcl C.hg C.hk C.hs C.ha C.hn C.ht C.hm) I.kIn J e (fun z => nomatch z) fun tk => ⟨.bl b, H, I.kept (t' := tk) fun _ _ z => z, rfl, q⟩
/-- what is asked of a base class B in an except clause, and of the class x that it catches -/
def BaseX (K : PySem.W.Frag) (mg : Str → Option Value) (B x : Str) : Prop :=
  ∃ C0 C : Addr, mg B = some (.ref C0) ∧ mg x = some (.ref C) ∧ PySem.W.exmOne K (.ref C) (.ref C0) = some true ∧ ExcC K C
theorem exm_sub {K : PySem.W.Frag} {S T : Addr} (h1 : PySem.W.subIn K (.ref T) (.type "BaseException") = some true) (h2 : PySem.W.isClsIn K T = true) (h3 : PySem.W.typeIn K (.ref T) = some (.type "type")) (h4 : PySem.W.subIn K (.ref S) (.ref T) = some true) :
    PySem.W.exmOne K (.ref S) (.ref T) = some true := by
  unfold PySem.W.isClsIn at h2
  unfold PySem.W.exmOne
  simp only [h1]
  unfold PySem.W.kitCls
  simp [h2, h3, h4]
theorem BaseX.mk {K : PySem.W.Frag} {mg : Str → Option Value} {h : Heap} {B x : Str} {T S : Addr} (X : K.In h) (G : h.Ns PySem.mainGlobals mg) (a0 : PySem.W.nsIn K PySem.mainGlobals B = some (some (.ref T))) (a1 : PySem.W.nsIn K PySem.mainGlobals x = some (some (.ref S)))
    (h1 : PySem.W.subIn K (.ref T) (.type "BaseException") = some true) (h2 : PySem.W.isClsIn K T = true) (h3 : PySem.W.typeIn K (.ref T) = some (.type "type")) (h4 : PySem.W.subIn K (.ref S) (.ref T) = some true)
    (c1 : PySem.W.findIn K (.ref S) "__getattribute__" = some (some (.builtin "BaseException.__getattribute__"))) (c2 : PySem.W.findIn K (.ref S) "__getattr__" = some none) (c3 : PySem.W.subIn K (.ref S) (.type "BaseException") = some true) (c4 : PySem.W.hasDictIn K S = true)
    (c5 : PySem.W.findIn K (.ref S) "__class__" = some (some (.builtin "object.__class__"))) (c6 : PySem.W.specialIn K (.builtin "object.__class__") "__get__" = some (some (.builtin "getset_descriptor.__get__"))) (c7 : PySem.W.takesIn K (.builtin "object.__class__") = some true)
    (c8 : PySem.W.mroIn K S (.type "object") = some true) : BaseX K mg B x := ⟨T, S, PySem.W.mg_of X G a0, PySem.W.mg_of X G a1, exm_sub h1 h2 h3 h4, ⟨c1, c2, c3, c4, c5, c6, c7, c8⟩⟩
/-! ### C(e, .., k = v, ..) whose __init__ may raise -/
def tMakeW (C : Addr) (n m : Nat) (sp : Sp) (gV : List V → List V → List V) (W : WX) (t tk : TA) : TE := fun σ => tMakeK C n m sp gV (WE W σ) t tk σ
section
variable {X : Cx} {W : WX} {j k n : Nat} {x : Str} {ps fs : List Str} {kws : List (Str × V)} {sp : Sp} {C : Addr}
theorem pe_mkKX {p pos : Pos} {e : Expr} {es : List Expr} {kw : List Keyword} {t tk : TA} (o : OwnC X.K X.mg x fs C) (c : CalK X.prog X.w X.K X.mg X.base (L2.CX X.prog X.w) j x "__init__" (n + 1) ps kws sp) (hr : Room k X.A) (hjk : j + 1 ≤ k) (hg : Gl X x) (tW : Takes X W)
    (ha : PA X (e :: es) t) (hkw : PK X kw tk) (hall : (backToKw pos (keywordEach kw X.env)).all (·.1.isSome) = true := by rfl) (hks : (backToKw pos (keywordEach kw X.env)).filterMap (·.1) = kws.map (·.1) := by rfl) (hdb : (x == ("__debug__" : Str)) = false := by decide)
    (he : starEach (e :: es) X.env = (false, eval e X.env) :: starEach es X.env := by rfl) (hpl : ((backTo pos (starEach (e :: es) X.env)).any (·.1) || (backToKw pos (keywordEach kw X.env)).any (·.1.isNone)) = false := by rfl) :
    PE X (.Call (.Name x p) (e :: es) kw pos) (tMakeW C n (kws.map (·.1)).length sp (fun vs zs => vs ++ zs) W t tk) := by
  obtain ⟨C', f, fd, g, i, fn, F, ⟨gb, B⟩, _⟩ := c
  obtain rfl : C' = C := by have := g.symm.trans o.g; cases this; rfl
  refine ⟨fun pins s σ H Q I h => ?_⟩
  refine wpAny_Call_Name_kw (ld_glob I hg o.g ?_ hdb)
  refine PySem.W.callWith_KW (h₀ := X.base) I.ok.mod.kin o.kp hall (thn (ha.run pos pins s σ H _ I h) fun us s1 ⟨vs, H1, I1, r, q⟩ => ?_) hpl he
  refine thn (hkw.run pos pins s1 σ H1 _ I1 q) fun ws s2 ⟨zs, H2, I2, rz, l1, l2, q2⟩ => ⟨I2.kIn, ?_⟩
  rw [hks]
  have r1 : Vals (V.ref (s2.heap.objs.size + 1) :: vs) (Value.ref (s2.heap.objs.size + 1) :: us) := .cons rfl r
  have I3 := Inv.made (C := C') I2
  show wpAny _ _ (call (.ref C') us ((kws.map (·.1)).zip ws)) _ _ _
  refine wpAny_call (make_map (f := f) I2.kIn o.mks i (beq_iff_eq.mp fn) (codeAny_mono (F.run _ X.stack _ _ ⟨Value.ref (s2.heap.objs.size + 1) :: us, (kws.map (·.1)).zip ws⟩ (gb (Value.ref (s2.heap.objs.size + 1) :: us) ws) _ _ (WE W σ) ((hr.mono hjk).make C' us ((kws.map (·.1)).zip ws))
    (I3.env0.make C' us ((kws.map (·.1)).zip ws)) (B.to _ (Value.ref (s2.heap.objs.size + 1) :: us) ws I3.kIn (by rw [List.length_cons, ← r.length, l1]) (rz.length.symm.trans l2)) (B.rel r1 rz) (q2 _ _ (I2.hok.fresh (Nat.le_succ _)) (I2.hok.fresh (Nat.le_refl _)) (Nat.ne_of_lt (Nat.lt_succ_self _)))) fun a s' hq => ?_))
  cases a with
  | error z => exact passAt tW σ pins _ _ z s' I3 hq
  | ok fl =>
    cases fl with
    | ret u =>
      obtain ⟨v, H', I4, rv, ev, q4⟩ := I3.after hq
      subst ev
      exact ⟨rv, .ref _, H', I4, rfl, q4⟩
    | next => exact hq.elim
    | brk => exact hq.elim
    | cont => exact hq.elim
end
end Kb

namespace Kb
open PySem PySem.Spec PyProof.Rows L2
/-! ### except (C, D) as e: the error stays a value behind the suite -/
/-- an error of the class cls, its dict at d -/
def ExV (cls : Value) (d : Option Addr) (a : Addr) : HO := .ext fun h => ∃ (o : Obj) (vs : Array Value), h.get? a = some o ∧ Zc cls d o ∧ o.data = .fields vs
theorem exV_ok {P : Program} {w : World} {H : Hp} {h : Heap} {a : Addr} {cls : Value} {d : Option Addr} {o : Obj} {vs : Array Value} (e : h.get? a = some o) (z : Zc cls d o) (dt : o.data = .fields vs) : ObjOk P w H h a (ExV cls d a) :=
  ⟨⟨o, vs, e, z, dt⟩, ⟨o, e⟩, fun _ _ ⟨q, v, x, y⟩ k => ⟨q, v, k q x, y⟩⟩
theorem flying_kept {B h h' : Heap} {l : List Env} {a : Addr} {Z : Obj → Prop} (x : HandSPX.FlyingZ B l a Z h) (k : ∀ b o, h.get? b = some o → h'.get? b = some o) : HandSPX.FlyingZ B l a Z h' := by
  obtain ⟨x1, x2, x3, oe, vs, T, oT, ts, e1, e2, e3, e4, e5, e6, e7, e8, e9⟩ := x
  exact ⟨fun b o e => k b o (x1 b o e), x2, x3.of_keeps fun b o e _ => ⟨o, k b o e, rfl⟩, oe, vs, T, oT, ts, k _ _ e1, e2, e3, e4, e5, e6, k _ _ e7, e8, e9⟩
section
variable {X : Cx} {pins : List (Addr × Obj)} {σ : L2.St} {H : Hp} {s : Shared}
/-- what lies there untracked, new since the entry, is tracked from here on -/
theorem inv_mark {a : Addr} {u : HO} (I : Inv X pins σ H s) (hn : H a = none) (n0 : X.s_0.heap.get? a = none) (nL : a ≠ X.env.locals) (nC : ∀ x c, X.env.cells.lookup x = some c → c ≠ a) (nP : ∀ p ∈ X.pn ++ pins, p.1 ≠ a) (new : ObjOk X.prog X.w (L2.upd H a u) s.heap a u) : Inv X pins σ (L2.upd H a u) s := by
  have ne : ∀ b o, H b = some o → b ≠ a := fun b o e z => by rw [z, hn] at e; cases e
  refine ⟨I.ok, I.os, I.bare, ⟨I.base.keep, I.base.slot, fun b o e n hx => ?_, I.base.there, fun b xs e => ?_, fun b o v e => ?_, fun b ps e => ?_⟩, I.loc, I.cell, ?_, fun x c e => ?_, fun p hp => ?_, I.hok.laidN (fun _ _ z => z) hn new, I.len⟩
  · rw [upd_ne (fun z => by rw [z, n0] at e; cases e)]
    exact I.base.free b o e n hx
  · have q := I.base.tups b xs e
    rw [upd_ne (ne _ _ q)]; exact q
  · have q := I.base.frzs b o v e
    rw [upd_ne (ne _ _ q)]; exact q
  · obtain ⟨m, q⟩ := I.base.tbls b ps e
    exact ⟨m, by rw [upd_ne (ne _ _ q)]; exact q⟩
  · rw [upd_ne nL.symm]; exact I.free
  · rw [upd_ne (nC x c e)]; exact I.freeC x c e
  · obtain ⟨p1, p2, p3⟩ := I.pin p hp
    exact ⟨p1, by rw [upd_ne (nP p hp)]; exact p2, p3⟩
theorem inv_suite0 (I : Inv X pins σ H s) (a : Addr) : Inv (X.suite a (X.pn ++ pins)) [] σ H s :=
  ⟨I.ok.suite _ _, I.os, I.bare, I.base, I.loc, I.cell, I.free, I.freeC, fun p hp => I.pin p (by rw [List.append_nil] at hp; exact hp), I.hok, I.len⟩
theorem inv_unsuite0 {a : Addr} {q : List (Addr × Obj)} (I : Inv (X.suite a (X.pn ++ pins)) q σ H s) (ok : X.Ok) : Inv X pins σ H s :=
  ⟨ok, I.os, I.bare, I.base, I.loc, I.cell, I.free, I.freeC, fun p hp => I.pin p (List.mem_append_left _ hp), I.hok, I.len⟩
end
/-- what is asked where the clause catches all -/
def wTup (K : PySem.W.Frag) (cs : List Value) (i : Nat) (ts : Addr → TS) (D : Ends) : WX := fun cls d σ H => PySem.W.exmAny K cls cs = some true ∧
  ∀ a H', Same H H' → H' a = none → ts a { nx := fun σ' G => D.nx (σ'.set i none) G, rt := D.rt, bk := fun σ' G => D.bk (σ'.set i none) G, ct := fun σ' G => D.ct (σ'.set i none) G } (σ.set i (some (.ref a))) (L2.upd H' a (ExV cls d a))
section
variable {X : Cx}
theorem ps_try_tup {n x1 x2 : Str} {c1 c2 : Value} {i kk : Nat} {body : List Stmt} {st : Stmt} {more : List Stmt} {p1 p2 tp hp pos : Pos} {tb : WX → TS} {ts : Addr → TS} (hs : X.stack = X.env :: X.outer) (hf : X.env.frame = some X.env.locals) (hN : X.N.Nodup) (hi : X.N[i]? = some n) (hln : X.env.kindOf n = some .local) (hx : X.ex = []) (hc1 : Names X x1 c1) (hc2 : Names X x2 c2)
    (hb : ∀ (W : WX) (pn : List (Addr × Obj)) (xe : Value → Shared → Prop), Takes (X.tr pn xe) W → PassesOwn (model X.prog X.w) X.A X.env xe → PSs (X.tr pn xe) body (tb W))
    (hsu : ∀ (a : Addr) (pn : List (Addr × Obj)), PSs (X.suite a pn) (st :: more) (ts a)) :
    PS X (.Try body [.ExceptHandler (some (.Tuple [.Name x1 p1, .Name x2 p2] kk tp)) (some n) (st :: more) hp] [] [] pos) (fun D σ H => tb (wTup X.K [c1, c2] i ts D) D σ H) := by
  refine ⟨fun pins s σ H D I h => wpAny_Try_except ?_⟩
  have ok := I.ok
  have fr0 : X.A.frames = some (X.env :: X.outer) := ok.frames.trans (congrArg some hs)
  refine wpAny_mono ((hb (wTup X.K [c1, c2] i ts D) (X.pn ++ pins) (fun e s1 => wpAny (model X.prog X.w) X.A (noteFrame e X.env) (fun _ s2 => wpAny (model X.prog X.w) X.A (setFlight e none) (fun _ s3 =>
    wpAny (model X.prog X.w) X.A (handleBy e X.env [.ExceptHandler (some (.Tuple [.Name x1 p1, .Name x2 p2] kk tp)) (some n) (st :: more) hp]) (SP X pins D) X.xe s3) X.xe s2) X.xe s1) (fun u s' y => ?_) PassesOwn.looking).run [] s σ H D (I.toTry _) h) (fun f s1 q => ?_) (fun e s1 z => z)
  · obtain ⟨a, B, sI, pins', τ, G, cls, d, rfl, J0, nb, up, sky, na, os, ag, w⟩ := y
    have J : Inv X pins τ G sI := J0.ofTry ok
    have sky : Sky B (X.env :: X.outer) a (Zc cls d) X.env.locals s'.heap := hs ▸ sky
    show wpAny (model X.prog X.w) X.A (noteFrame (.ref a) X.env) _ _ _
    refine Sky.land Zc.steady fr0 hf sky fun h3 fl up3 => ?_
    have J3 : Inv X pins τ G { s' with heap := h3 } := J.landed nb fl.1 (up.trans up3) os ag
    obtain ⟨oe, vs, ea, ez, ed⟩ := fl.there
    have nfr : a ∉ frs (X.env :: X.outer) := fun hm => by
      obtain ⟨_, o', e', hnf⟩ := fl.2.2.1.mem hm
      rw [ea] at e'
      cases e'
      exact hnf _ ed
    have nL : a ≠ X.env.locals := fun z => nfr (List.mem_filterMap.mpr ⟨X.env, List.mem_cons_self, by rw [hf, z]⟩)
    have nF : a ∉ X.fs := fun hm => by
      obtain ⟨e, he, q⟩ := List.mem_filterMap.mp hm
      exact nfr (List.mem_filterMap.mpr ⟨e, .tail _ he, q⟩)
    have nI : sI.heap.get? a = none := by
      cases q : sI.heap.get? a with
      | none => rfl
      | some o =>
        have := nb a o q (by rw [hs]; exact nfr)
        rw [fl.2.1] at this
        cases this
    have n0 : X.s_0.heap.get? a = none := by
      cases q : X.s_0.heap.get? a with
      | none => rfl
      | some o =>
        obtain ⟨o', q'⟩ := J.base.there a o q (by rw [hx]; exact fun z => nomatch z)
        rw [nI] at q'
        cases q'
    have nP : ∀ p ∈ X.pn ++ pins, p.1 ≠ a := fun p hp z => by
      have := (J.pin p hp).1
      rw [z, nI] at this
      cases this
    have S3 := inv_suite0 J3 a
    obtain ⟨ex, w⟩ := w
    refine wpAny_handleBy_cons (codeAny_handlers_test ?_) (fun q => nomatch q)
    have name : ∀ {y : Str} {c : Value} {q : Pos} {Q : Value → Shared → Prop} {E : Value → Shared → Prop}, Names X y c → Q c { s' with heap := h3 } → wpAny (model X.prog X.w) (X.A.mark (some (.ref a))) (eval (.Name y q) X.env) Q E { s' with heap := h3 } := fun {y c q Q E} hc z => by
      obtain ⟨hg, hdb, hm | ⟨hm, hv, hnn⟩⟩ := hc
      · exact ld_glob (X := X.suite a (X.pn ++ pins)) S3 hg hm z hdb
      · exact ld_blt (X := X.suite a (X.pn ++ pins)) S3 hg hm hv z hnn hdb
    refine wpAny_Tuple ?_
    refine wpAny_items_cons (name hc1 ?_)
    refine wpAny_items_cons (name hc2 ?_)
    refine wpAny_items_nil ⟨by show 2 ≤ sizeLine; decide, ?_⟩
    have kp : ∀ b o, h3.get? b = some o → (h3.push { cls := .type "tuple", data := .seq [c1, c2].toArray }).get? b = some o := fun _ _ z => Heap.get?_push_of_some _ z
    have LT : PySem.W.Looks (model X.prog X.w) h3 (typeOf (.ref a)) cls := fun A Q E s k q => wpAny_typeOf_ref (k _ _ ea) (by rw [ez.1]; exact q)
    have fl' := flying_kept fl kp
    refine (PySem.W.exm_tup2 (M := model X.prog X.w) (J3.kIn.keeps kp) (LT.keeps kp) (Heap.get?_push_size h3 rfl) ex).here ?_
    refine codeAny_handlers_suite_as (HandSPX.lands_againZ fl' fun h4 fl4 up4 => ?_)
    have J4 : Inv X pins τ G { s' with heap := h4 } := J.landed nb fl4.1 (((up.trans up3).trans (Heap.UpToSlots.of_keeps kp)).trans up4) os ag
    obtain ⟨o4, v4, e4, z4, d4⟩ := fl4.there
    have nC : ∀ x c, X.env.cells.lookup x = some c → c ≠ a := fun x c e z => by
      obtain ⟨v, o, ho, hd⟩ := J4.cell x c e
      have ho : h4.get? c = some o := ho
      rw [z, e4] at ho
      cases ho
      rw [d4] at hd
      cases hd
    have J5 : Inv X pins τ (L2.upd G a (ExV cls d a)) { s' with heap := h4 } := inv_mark J4 na n0 nL nC nP (exV_ok e4 z4 d4)
    refine store_ok (X := X.suite a (X.pn ++ pins)) (v := .ref a) (inv_suite0 J5 a) hN hi (.inl hln) rfl (fun s5 S5 => ?_) (.inr hln)
    refine wpAny_mono ((hsu a (X.pn ++ pins)).run [] s5 _ _ _ S5 (w a G (Same.refl G) na)) (fun f s6 q => ?_) (fun _ _ z => z.elim)
    have gone : ∀ {σ6 : L2.St} {H6 : Hp} {Q : Shared → Prop}, Inv (X.suite a (X.pn ++ pins)) [] σ6 H6 s6 → (∀ s7, Inv X pins (σ6.set i none) H6 s7 → Q s7) →
        wpAny (model X.prog X.w) X.A (do bindName X.env n .none; unbindBehindTheSuite X.env n hp) (fun _ s7 => Q s7) X.xe s6 := fun {σ6 H6 Q} S6 hq => gone_ok (inv_unsuite0 S6 ok) hN hi hln hq
    match f, q with
    | .next, ⟨_, _, S6, q6⟩ => exact gone S6 fun s7 J7 => ⟨_, _, J7, q6⟩
    | .brk, ⟨_, _, S6, q6⟩ => exact gone S6 fun s7 J7 => ⟨_, _, J7, q6⟩
    | .cont, ⟨_, _, S6, q6⟩ => exact gone S6 fun s7 J7 => ⟨_, _, J7, q6⟩
    | .ret u, ⟨_, _, _, S6, r6, q6⟩ => exact gone S6 fun s7 J7 => ⟨_, _, _, J7, r6, q6⟩
  · match f, q with
    | .next, ⟨_, _, J1, q⟩ => exact wpAny_execs_nil ⟨_, _, J1.ofTry ok, q⟩
    | .brk, ⟨_, _, J1, q⟩ => exact ⟨_, _, J1.ofTry ok, q⟩
    | .cont, ⟨_, _, J1, q⟩ => exact ⟨_, _, J1.ofTry ok, q⟩
    | .ret u, ⟨_, _, _, J1, r, q⟩ => exact ⟨_, _, _, J1.ofTry ok, r, q⟩
end
end Kb
namespace Kb
open PySem PySem.Spec PyProof.Rows L2
/-! ### what is asked of an error that is a value -/
/-- an error of the class at D, with these fields -/
def ErrAt (H : Hp) (a D : Addr) (fs : List (Str × V)) : Prop := ∃ dd : Addr, H a = some (ExV (.ref D) (some dd) a) ∧ H dd = some (.xd fs)
theorem ErrAt.same {H H' : Hp} {a D : Addr} {fs : List (Str × V)} (h : ErrAt H a D fs) (s : Same H H') : ErrAt H' a D fs := let ⟨dd, x, y⟩ := h; ⟨dd, s _ _ x, s _ _ y⟩
section
variable {X : Cx} {pins : List (Addr × Obj)} {σ : L2.St} {H : Hp} {s : Shared}
theorem errAt_inst {a D : Addr} {fs : List (Str × V)} (I : Inv X pins σ H s) (h : ErrAt H a D fs) : ∃ (o od : Obj) (m : Str → Option Value), PySem.W.InstAt s.heap a o D (some od) ∧ (∀ f, PySem.W.lookIn f od = some (m f)) ∧ ∀ f, RelO (fs.lookup f) (m f) := by
  obtain ⟨dd, ha, hd⟩ := h
  obtain ⟨⟨o, vs, q1, q2, q3⟩, _, _⟩ : ObjOk X.prog X.w H s.heap a (ExV (.ref D) (some dd) a) := I.hok a _ ha
  obtain ⟨m, hn, hr⟩ : ObjOk X.prog X.w H s.heap dd (.xd fs) := I.hok dd _ hd
  obtain ⟨od, ho, hl⟩ := lookIn_ns hn
  exact ⟨o, od, m, ⟨q1, q2.1, by unfold PySem.W.notCls; rw [q3] <;> rfl, by rw [q2.2]; exact ho⟩, hl, hr⟩
end
theorem excC_kitx {K : PySem.W.Frag} {x : Addr} {o : Obj} {D : Addr} {od : Obj} (C : ExcC K D) : PySem.W.KitX K (.ref x) (.ref D) (fun h => PySem.W.InstAt h x o D (some od)) := by
  have hcl : (PySem.W.clsIn K D).isSome = true := by
    obtain ⟨cd, hc, _⟩ := PySem.W.any_some C.hd
    rw [hc]; rfl
  exact PySem.W.kitx_exc hcl C.hg C.hk C.hs C.ha C.hn C.ht C.hm
/-- isinstance(e, c), e an error that is a value -/
def rIsE (K : PySem.W.Frag) : List V → Hp → VK → Prop := fun xs H Q => ∃ (a D : Addr) (fs : List (Str × V)) (c : V) (u : Value) (b : Bool), xs = [.ref a, c] ∧ ErrAt H a D fs ∧ ClsV c u ∧ ExcC K D ∧ PySem.W.kitOne K (.ref D) u = some b ∧ Q (.bl b) H
/-- isinstance(e, (c1, c2)) -/
def rIsET (K : PySem.W.Frag) : List V → Hp → VK → Prop := fun xs H Q => ∃ (a D tp : Addr) (fs : List (Str × V)) (cs : List V) (us : List Value) (b : Bool), xs = [.ref a, .ref tp] ∧ ErrAt H a D fs ∧ H tp = some (.tup cs) ∧ Paired ClsV cs us ∧ ExcC K D ∧ PySem.W.kitAny K (.ref D) us = some b ∧ Q (.bl b) H
/-- e.f -/
def tXv (C : Addr) (f : Str) (te : TE) : TE := fun σ H Q => te σ H fun x H1 => ∃ (a : Addr) (fs : List (Str × V)) (v : V), x = .ref a ∧ ErrAt H1 a C fs ∧ fs.lookup f = some v ∧ Q v H1
section
variable {X : Cx}
theorem call_isE : CallR X (.builtin "isinstance") (rIsE X.K) := by
  intro pins s σ H xs us Q I r h
  obtain ⟨a, D, fs, c, u, b, rfl, hE, hc, C, e, q⟩ := h
  obtain ⟨u1, u2, rfl, r1, r2⟩ : ∃ u1 u2, us = [u1, u2] ∧ RelV (.ref a) u1 ∧ RelV c u2 := by
    cases r with
    | cons x1 rr =>
      cases rr with
      | cons x2 r3 => cases r3; exact ⟨_, _, rfl, x1, x2⟩
  cases (show u1 = Value.ref a from r1)
  obtain rfl := hc.eq r2
  obtain ⟨o, od, m, J, _⟩ := errAt_inst I hE
  exact PySem.W.kia_one (excC_kitx C) I.kIn J e (fun z => nomatch z) fun tk => ⟨.bl b, H, I.tok tk, rfl, q⟩
theorem call_isET : CallR X (.builtin "isinstance") (rIsET X.K) := by
  intro pins s σ H xs us Q I r h
  obtain ⟨a, D, tp, fs, cs, ws, b, rfl, hE, hT, hk, C, e, q⟩ := h
  obtain ⟨u1, u2, rfl, r1, r2⟩ : ∃ u1 u2, us = [u1, u2] ∧ RelV (.ref a) u1 ∧ RelV (.ref tp) u2 := by
    cases r with
    | cons x1 rr =>
      cases rr with
      | cons x2 r3 => cases r3; exact ⟨_, _, rfl, x1, x2⟩
  cases (show u1 = Value.ref a from r1)
  cases (show u2 = Value.ref tp from r2)
  obtain ⟨o, od, m, J, _⟩ := errAt_inst I hE
  obtain ⟨_, its, rv, t, h1, h2, n, h3⟩ : ObjOk X.prog X.w H s.heap tp (.tup cs) := I.hok tp _ hT
  cases ClsV.all hk rv
  obtain ⟨oc, oe, dt, sl⟩ := t
  simp only at h2 h3
  subst h2 h3
  exact PySem.W.kia_tup (excC_kitx C) I.kIn J h1 e (fun z => nomatch z) fun tk => ⟨.bl b, H, I.tok tk, rfl, q⟩
theorem pe_xv {C : Addr} {e : Expr} {te : TE} {pos : Pos} {n : Str} (T : XfC X.K C) (hno : PySem.W.findIn X.K (.ref C) n = some none) (he : PE X e te) (hb : attributeBase e n X.env (eval e X.env) = eval e X.env := by rfl) : PE X (.Attribute e n pos) (tXv C n te) := by
  refine ⟨fun pins s σ H Q I h => attr_of hb (thn (he.run pins s σ H _ I h) fun u s1 hh => ?_)⟩
  obtain ⟨x, H1, I1, rx, a, fs, v, ex, hE, l, q⟩ := hh
  subst ex
  cases (show u = Value.ref a from rx)
  obtain ⟨o, od, m, J, hl, hr⟩ := errAt_inst I1 hE
  obtain ⟨z, hz, rz⟩ := RelO.some_of (v := v) (o := m n) (by rw [← l]; exact hr n)
  exact HandSPX.exc_get I1.kIn J T.ga T.gg T.exC (PySem.W.findObj_own T.hdC hno rfl (by rw [hl, hz])) (handed_of rz) ⟨v, H1, I1.tok _, rz, q⟩
end
/-! ### the facts of the classes -/
/-- R is caught by (B1, B2), and is of these classes, or not -/
def ExF (K : PySem.W.Frag) (mg : Str → Option Value) (R B1 B2 : Str) (Ss : List (Str × Bool)) : Prop := ∃ D C1 C2 : Addr, mg R = some (.ref D) ∧ mg B1 = some (.ref C1) ∧ mg B2 = some (.ref C2) ∧ ExcC K D ∧ PySem.W.exmAny K (.ref D) [.ref C1, .ref C2] = some true ∧ ∀ p ∈ Ss, ∃ C : Addr, mg p.1 = some (.ref C) ∧ PySem.W.kitOne K (.ref D) (.ref C) = some p.2
def KitAll (K : PySem.W.Frag) (mg : Str → Option Value) (D : Addr) : List (Str × Bool) → Prop
  | [] => True
  | p :: r => (∃ C : Addr, mg p.1 = some (.ref C) ∧ PySem.W.kitOne K (.ref D) (.ref C) = some p.2) ∧ KitAll K mg D r
theorem KitAll.all {K : PySem.W.Frag} {mg : Str → Option Value} {D : Addr} : ∀ {l : List (Str × Bool)}, KitAll K mg D l → ∀ p ∈ l, ∃ C : Addr, mg p.1 = some (.ref C) ∧ PySem.W.kitOne K (.ref D) (.ref C) = some p.2
  | _ :: _, h, p, m => (List.mem_cons.mp m).elim (fun e => e ▸ h.1) fun m => KitAll.all h.2 p m
theorem KitAll.own {K : PySem.W.Frag} {mg : Str → Option Value} {h : Heap} {D : Addr} {x : Str} {r : List (Str × Bool)} (X : K.In h) (G : h.Ns PySem.mainGlobals mg) (a : PySem.W.nsIn K PySem.mainGlobals x = some (some (.ref D))) (k : KitAll K mg D r) : KitAll K mg D ((x, true) :: r) :=
  ⟨⟨D, PySem.W.mg_of X G a, by unfold PySem.W.kitOne; simp⟩, k⟩
theorem KitAll.not {K : PySem.W.Frag} {mg : Str → Option Value} {h : Heap} {D C : Addr} {x : Str} {r : List (Str × Bool)} (X : K.In h) (G : h.Ns PySem.mainGlobals mg) (a : PySem.W.nsIn K PySem.mainGlobals x = some (some (.ref C))) (ic : PySem.W.isClsIn K C = true) (ty : PySem.W.typeIn K (.ref C) = some (.type "type"))
    (hs : PySem.W.subIn K (.ref D) (.ref C) = some false) (hn : (D == C) = false) (k : KitAll K mg D r) : KitAll K mg D ((x, false) :: r) := by
  have hn : D ≠ C := fun z => by rw [z] at hn; simp at hn
  refine ⟨⟨C, PySem.W.mg_of X G a, ?_⟩, k⟩
  unfold PySem.W.isClsIn at ic
  unfold PySem.W.kitOne PySem.W.kitCls
  simp [ic, ty, hs, hn]
theorem exm_val {K : PySem.W.Frag} {S T : Addr} {b : Bool} (h1 : PySem.W.subIn K (.ref T) (.type "BaseException") = some true) (h2 : PySem.W.isClsIn K T = true) (h3 : PySem.W.typeIn K (.ref T) = some (.type "type")) (h4 : PySem.W.subIn K (.ref S) (.ref T) = some b) : PySem.W.exmOne K (.ref S) (.ref T) = some b := by
  unfold PySem.W.isClsIn at h2
  unfold PySem.W.exmOne
  simp only [h1]
  unfold PySem.W.kitCls
  simp [h2, h3, h4]
theorem ExF.mk {K : PySem.W.Frag} {mg : Str → Option Value} {h : Heap} {R B1 B2 : Str} {Ss : List (Str × Bool)} {S T U : Addr} {b c : Bool} (X : K.In h) (G : h.Ns PySem.mainGlobals mg) (a0 : PySem.W.nsIn K PySem.mainGlobals R = some (some (.ref S))) (a1 : PySem.W.nsIn K PySem.mainGlobals B1 = some (some (.ref T))) (a2 : PySem.W.nsIn K PySem.mainGlobals B2 = some (some (.ref U)))
    (t1 : PySem.W.subIn K (.ref T) (.type "BaseException") = some true) (t2 : PySem.W.isClsIn K T = true) (t3 : PySem.W.typeIn K (.ref T) = some (.type "type")) (t4 : PySem.W.subIn K (.ref S) (.ref T) = some b)
    (u1 : PySem.W.subIn K (.ref U) (.type "BaseException") = some true) (u2 : PySem.W.isClsIn K U = true) (u3 : PySem.W.typeIn K (.ref U) = some (.type "type")) (u4 : PySem.W.subIn K (.ref S) (.ref U) = some c) (bc : (b || c) = true)
    (c1 : PySem.W.findIn K (.ref S) "__getattribute__" = some (some (.builtin "BaseException.__getattribute__"))) (c2 : PySem.W.findIn K (.ref S) "__getattr__" = some none) (c3 : PySem.W.subIn K (.ref S) (.type "BaseException") = some true) (c4 : PySem.W.hasDictIn K S = true)
    (c5 : PySem.W.findIn K (.ref S) "__class__" = some (some (.builtin "object.__class__"))) (c6 : PySem.W.specialIn K (.builtin "object.__class__") "__get__" = some (some (.builtin "getset_descriptor.__get__"))) (c7 : PySem.W.takesIn K (.builtin "object.__class__") = some true)
    (c8 : PySem.W.mroIn K S (.type "object") = some true) (ks : KitAll K mg S Ss) : ExF K mg R B1 B2 Ss := by
  refine ⟨S, T, U, PySem.W.mg_of X G a0, PySem.W.mg_of X G a1, PySem.W.mg_of X G a2, ⟨c1, c2, c3, c4, c5, c6, c7, c8⟩, ?_, ks.all⟩
  have e1 := exm_val (S := S) t1 t2 t3 t4
  have e2 := exm_val (S := S) u1 u2 u3 u4
  simp only [PySem.W.exmAny, e1, e2]
  simpa using bc
end Kb
namespace Kb
open PySem PySem.Spec PyProof.Rows L2
/-! ### a def that a variable holds is called -/
def tFv (i : Nat) (mg : Str → Option Value) (x : Str) (sp : Sp) (W : WX) (t : TA) : TE := fun σ H Q => ∃ g : Addr, σ[i]? = some (some (.ref g)) ∧ mg x = some (.ref g) ∧ t σ H fun vs H1 => sp vs H1 Q (WE W σ)
theorem pe_fv {X : Cx} {W : WX} {i j k : Nat} {x y : Str} {ps : List Str} {sp : Sp} {p pos : Pos} {e : Expr} {es : List Expr} {t : TA} (c : Cal X.prog X.w X.K X.mg X.base (L2.CX X.prog X.w) j x ps sp) (hr : Room k X.A) (hjk : j ≤ k) (hN : X.N[i]? = some y) (hv : Vis X.env.scope y) (tk : Takes X W)
    (ha : PA X (e :: es) t) (hd : (y == ("__debug__" : Str)) = false := by decide) (hcd : (y == ("__classdict__" : Str)) = false := by decide) (he : starEach (e :: es) X.env = (false, eval e X.env) :: starEach es X.env := by rfl) (hpl : (backTo pos (starEach es X.env)).any (·.1) = false := by rfl) :
    PE X (.Call (.Name y p) (e :: es) [] pos) (tFv i X.mg x sp W t) := by
  obtain ⟨f, fd, F, m, kp, b⟩ := c
  refine ⟨fun pins s σ H Q I ⟨g, hs, hm, h⟩ => ?_⟩
  cases m.symm.trans hm
  refine wpAny_Call_Name_kw (thn ((pe_var (pos := p) hN hv hd hcd).run pins s σ H (fun v H1 => v = .ref f ∧ H1 = H) I ⟨_, hs, rfl, rfl⟩) fun u s1 ⟨v, H1, I1, r1, q1, q2⟩ => ?_)
  subst q1 q2
  cases (show u = Value.ref f from r1)
  refine PySem.W.callWith_K (h₀ := X.base) I1.ok.mod.kin kp (thn (ha.run pos pins s1 σ H1 _ I1 h) fun us s2 ⟨vs, H2, I2, r, q⟩ => ⟨I2.kIn, ?_⟩) he hpl
  exact run_fnS F (hr.mono hjk) b (passAt tk σ) I2 r q
theorem pe_alt {X : Cx} {e : Expr} {t u : TE} (h1 : PE X e t) (h2 : PE X e u) : PE X e (fun σ H Q => t σ H Q ∨ u σ H Q) := ⟨fun pins s σ H Q I h => h.elim (h1.run pins s σ H Q I) (h2.run pins s σ H Q I)⟩
end Kb
namespace Kb
open PySem PySem.Spec PyProof.Rows L2
/-- f() -/
theorem pe_c0 {X : Cx} {CX : CXT} {E : XK} {j k : Nat} {x : Str} {ps : List Str} {sp : Sp} {p pos : Pos} (c : Cal X.prog X.w X.K X.mg X.base CX j x ps sp) (hr : Room k X.A) (hjk : j ≤ k) (hg : Gl X x) (hx : Passes CX X E) (hdb : (x == ("__debug__" : Str)) = false := by decide) :
    PE X (.Call (.Name x p) [] [] pos) (tCall sp [] E tNil) := by
  obtain ⟨f, fd, F, m, kp, b⟩ := c
  exact pe_call0 F (hr.mono hjk) hg m kp b .nil hx hdb
end Kb
namespace Kb
open PySem PySem.Spec PyProof.Rows L2
/-- .. one of three -/
def tF3 (i : Nat) (mg : Str → Option Value) (x y z : Str) (sx sy sz : Sp) (W : WX) (t : TA) : TE := fun σ H Q => tFv i mg x sx W t σ H Q ∨ tFv i mg y sy W t σ H Q ∨ tFv i mg z sz W t σ H Q
theorem pe_fv3 {X : Cx} {W : WX} {jx jy jz k : Nat} {x y z n : Str} {px py pz : List Str} {sx sy sz : Sp} {p pos : Pos} {e : Expr} {es : List Expr} {t : TA} (i : Nat) (m : Str → Option Value) (cx : Cal X.prog X.w X.K X.mg X.base (L2.CX X.prog X.w) jx x px sx) (cy : Cal X.prog X.w X.K X.mg X.base (L2.CX X.prog X.w) jy y py sy)
    (cz : Cal X.prog X.w X.K X.mg X.base (L2.CX X.prog X.w) jz z pz sz) (hm : X.mg = m) (hr : Room k X.A) (hx : jx ≤ k) (hy : jy ≤ k) (hz : jz ≤ k) (hN : X.N[i]? = some n) (hv : Vis X.env.scope n) (tk : Takes X W) (ha : PA X (e :: es) t) (hd : (n == ("__debug__" : Str)) = false := by decide)
    (hcd : (n == ("__classdict__" : Str)) = false := by decide) (he : starEach (e :: es) X.env = (false, eval e X.env) :: starEach es X.env := by rfl) (hpl : (backTo pos (starEach es X.env)).any (·.1) = false := by rfl) : PE X (.Call (.Name n p) (e :: es) [] pos) (tF3 i m x y z sx sy sz W t) := by
  subst hm
  exact pe_alt (pe_fv cx hr hx hN hv tk ha hd hcd he hpl) (pe_alt (pe_fv cy hr hy hN hv tk ha hd hcd he hpl) (pe_fv cz hr hz hN hv tk ha hd hcd he hpl))
end Kb

namespace Kb
open PySem PySem.Spec PyProof.Rows L2
/-! ### defs that ask that no repr is under way, called by others of the kind -/
def CalG (P : Program) (w : World) (K : PySem.W.Frag) (mg : Str → Option Value) (base : Heap) (CX : CXT) (k : Nat) (x : Str) (ps : List Str) (sp : Sp) : Prop :=
  ∃ (f : Addr) (fd : FuncData), FnG P w K mg base CX k f fd ps sp ∧ mg x = some (.ref f) ∧ PySem.W.keepIn K (.ref f) = true ∧ Binds K fd ps []
section
variable {P : Program} {w : World} {K : PySem.W.Frag} {mg : Str → Option Value} {base : Heap}
theorem Df.ok0G {x : Str} {st : Stmt} {N ps : List Str} {k : Nat} {sp : Sp} (D : Df K mg x st ps) (S : FnScope N ps (defScope st)) (len : ∀ vs H Q E, sp vs H Q E → vs.length = ps.length)
    (hbody : ∀ (f : Addr) (cdv : Value) (A : Around) (outer : List Env) (s : Shared) (H : Hp) (vs : List V) (Q : VK) (E : XK), A.guards = some [] → Room k (A.deeper (envOfC x (defScope st) s.heap.objs.size f cdv)) → sp vs H Q E →
      ∃ t, PSs (cxOf CX0 P w K mg base N x (defScope st) f cdv A outer s H E).nox (defBody st) t ∧ t { nx := fun _ H' => Q .non H', rt := Q } (start N vs) H) : CalG P w K mg base CX0 (k + 1) x ps sp := by
  obtain ⟨f, fd, F, m, b⟩ := D
  exact ⟨f, fd, Kb.Fun.okG F S len (hbody f), m, F.kp, .all b⟩
end
section
variable {X : Cx} {CX : CXT} {j k : Nat} {x : Str} {f : Addr} {fd : FuncData} {ps : List Str} {ds : List Value} {dvs : List V} {sp : Sp} {E : XK} {p pos : Pos} {e : Expr} {es : List Expr} {t : TA}
theorem run_fnG {pins : List (Addr × Obj)} {σ : L2.St} {H : Hp} {s : Shared} {Q : VK} {us : List Value} {vs : List V} (F : FnG X.prog X.w X.K X.mg X.base CX k f fd ps sp) (hgd : X.A.guards = some []) (hr : Room k X.A) (hb : Binds X.K fd ps ds) (hd : Vals dvs ds) (hx : Passes CX X E)
    (I : Inv X pins σ H s) (r : Vals vs us) (h : sp (vs ++ dvs) H Q E) : wpAny (model X.prog X.w) X.A (call (.ref f) us) (EP X pins σ Q) X.xe s := by
  have r2 : Vals (vs ++ dvs) (us ++ ds) := r.append hd
  have hl : (us ++ ds).length = ps.length := by rw [← r2.length]; exact F.len _ _ _ _ h
  refine wpAny_call (codeAny_mono (F.run X.A X.stack s H ⟨us, []⟩ (us ++ ds) (vs ++ dvs) Q E hgd hr I.env0 (hb s us I.kIn hl) r2 h) fun r s' hq => ?_)
  cases r with
  | error e => exact hx pins σ H s e s' I hq
  | ok fl =>
    cases fl with
    | ret u => exact I.after hq
    | next => exact False.elim hq
    | brk => exact False.elim hq
    | cont => exact False.elim hq
theorem pe_cG (c : CalG X.prog X.w X.K X.mg X.base CX j x ps sp) (hgd : X.A.guards = some []) (hr : Room k X.A) (hjk : j ≤ k) (hg : Gl X x) (hx : Passes CX X E)
    (ha : PA X (e :: es) t) (hdb : (x == ("__debug__" : Str)) = false := by decide) (he : starEach (e :: es) X.env = (false, eval e X.env) :: starEach es X.env := by rfl) (hpl : (backTo pos (starEach es X.env)).any (·.1) = false := by rfl) :
    PE X (.Call (.Name x p) (e :: es) [] pos) (tCall sp [] E t) := by
  obtain ⟨f, fd, F, m, kp, b⟩ := c
  refine ⟨fun pins s σ H Q I h => ?_⟩
  refine wpAny_Call_Name_kw (ld_glob I hg m ?_ hdb)
  refine PySem.W.callWith_K (h₀ := X.base) I.ok.mod.kin kp (thn (ha.run pos pins s σ H _ I h) fun us s1 ⟨vs, H1, I1, r, q⟩ => ⟨I1.kIn, ?_⟩) he hpl
  exact run_fnG (dvs := []) (F.mono hjk) hgd hr b .nil hx I1 r q
end
end Kb

namespace Kb
open PySem PySem.Spec PyProof.Rows L2 LamX NdefX
/-! ### functions as values: what stands in the heap at a call is the callee's base -/
def frzH (H : Hp) (l : List Env) : Hp := fun b => if b ∈ frs l then some (.tup []) else H b
def frz (h : Heap) (H : Hp) (l : List Env) : Heap := hidT h (frzH H l)
theorem frz_get {h : Heap} {H : Hp} {l : List Env} {b : Addr} {o : Obj} (e : h.get? b = some o) (n : H b = none) (nf : b ∉ frs l) : (frz h H l).get? b = some o := hidT_get e ((if_neg nf).trans n)
theorem of_frz {h : Heap} {H : Hp} {l : List Env} {b : Addr} {o : Obj} (e : (frz h H l).get? b = some o) : h.get? b = some o ∧ H b = none ∧ b ∉ frs l := by
  obtain ⟨e1, e2⟩ := of_hidT e
  by_cases hb : b ∈ frs l
  · rw [show frzH H l b = some (.tup []) from if_pos hb] at e2; cases e2
  · exact ⟨e1, (if_neg hb).symm.trans e2, hb⟩
theorem funFrames_re {h base base' : Heap} : ∀ {l : List Env}, h.FunFrames base l → (∀ b ∈ frs l, base'.get? b = none) → h.FunFrames base' l
  | [], _, _ => trivial
  | env :: rest, ⟨hk, ⟨L, o, hf, _, ho, hd⟩, hr⟩, n =>
    ⟨hk, ⟨L, o, hf, n L (List.mem_filterMap.mpr ⟨env, List.mem_cons_self .., hf⟩), ho, hd⟩, funFrames_re hr fun b hb => n b (by
      obtain ⟨e, he, q⟩ := List.mem_filterMap.mp hb
      exact List.mem_filterMap.mpr ⟨e, .tail _ he, q⟩)⟩
theorem env0_frz {P : Program} {w : World} {K : PySem.W.Frag} {mg : Str → Option Value} {base : Heap} {A : Around} {outer : List Env} {s : Shared} {H : Hp} (e0 : Env0 P w K mg base A outer s H) : Env0 P w K mg (frz s.heap H outer) A outer s H := by
  have nf : ∀ b o, base.get? b = some o → b ∉ frs outer := fun b o e hb => by
    have := (e0.funs.mem hb).1
    rw [e] at this; cases this
  have kp : ∀ b o, base.get? b = some o → (frz s.heap H outer).get? b = some o := fun b o e => frz_get (e0.bs b o e).1 (e0.bs b o e).2 (nf b o e)
  refine ⟨e0.frames, ⟨e0.mod.kin.keeps kp, e0.mod.glob.keeps kp, ?_, e0.mod.nolimit.keeps kp⟩, fun b o e => ⟨(of_frz e).1, (of_frz e).2.1⟩, Nat.le_of_eq (hidT_size _ _), funFrames_re e0.funs fun b hb => ?_, e0.frf, e0.hok, e0.bare⟩
  · obtain ⟨mb, h1, h2⟩ := e0.mod.blt
    exact ⟨mb, h1.keeps kp, h2⟩
  · cases q : (frz s.heap H outer).get? b with
    | none => rfl
    | some o => exact absurd hb (of_frz q).2.2
/-- f is a function of the base that keeps the promise -/
structure FV (P : Program) (w : World) (K : PySem.W.Frag) (mg : Str → Option Value) (base : Heap) (k : Nat) (f : Addr) (ps : List Str) (sp : Sp) : Prop where
  ex : ∃ fd : FuncData, ((∃ (oc : Value) (od : Option Addr) (sl : Array (Option Value)), base.get? f = some ⟨oc, od, .func fd, sl⟩) ∨ PySem.W.keepIn K (.ref f) = true) ∧ FnG P w K mg base CX0 k f fd ps sp ∧
    ∀ (s : Shared) (us : List Value), K.In s.heap → us.length = ps.length → BindsTo s fd ⟨us, []⟩ (ps.zip us)
theorem CalG.fv {P : Program} {w : World} {K : PySem.W.Frag} {mg : Str → Option Value} {base : Heap} {k : Nat} {x : Str} {ps : List Str} {sp : Sp} (c : CalG P w K mg base CX0 k x ps sp) {f : Addr} (hm : mg x = some (.ref f)) : FV P w K mg base k f ps sp := by
  obtain ⟨g, fd, F, m, kp, b⟩ := c
  cases m.symm.trans hm
  refine ⟨fd, .inr kp, F, fun s us hK hl => ?_⟩
  have := b s us hK (by rw [List.append_nil]; exact hl)
  rw [List.append_nil] at this
  exact this
/-- a call of a name that holds a function of the base -/
def tFV (i : Nat) (V : Addr → Sp → Prop) (t : TA) : TE := fun σ H Q => ∃ (f : Addr) (sp : Sp), σ[i]? = some (some (.ref f)) ∧ V f sp ∧ t σ H fun vs H1 => sp vs H1 Q E0
section
variable {X : Cx} {j k i : Nat} {ps : List Str} {y : Str} {p pos : Pos} {e : Expr} {es : List Expr} {t : TA}
theorem run_G {pins : List (Addr × Obj)} {σ : L2.St} {H : Hp} {s : Shared} {Q : VK} {us : List Value} {vs : List V} {f : Addr} {fd : FuncData} {sp : Sp} (F : FnG X.prog X.w X.K X.mg X.base CX0 k f fd ps sp) (hgd : X.A.guards = some []) (hr : Room k X.A) (b : BindsTo s fd ⟨us, []⟩ (ps.zip us))
    (I : Inv X pins σ H s) (r : Vals vs us) (h : sp vs H Q E0) : wpAny (model X.prog X.w) X.A (call (.ref f) us) (EP X pins σ Q) X.xe s := by
  refine wpAny_call (codeAny_mono (F.run X.A X.stack s H ⟨us, []⟩ us vs Q E0 hgd hr I.env0 b r h) fun r s' hq => ?_)
  match r, hq with
  | .error e, hq => exact (show False from hq).elim
  | .ok (.ret u), hq => exact I.after hq
theorem pe_fV (P : Program) (w : World) (K : PySem.W.Frag) (mg : Str → Option Value) (base : Heap) (hX : X.prog = P ∧ X.w = w ∧ X.K = K ∧ X.mg = mg ∧ X.base = base) (i : Nat) (hgd : X.A.guards = some []) (hr : Room k X.A) (hjk : j ≤ k) (hN : X.N[i]? = some y) (hv : Vis X.env.scope y) (ha : PA X (e :: es) t) (hd : (y == ("__debug__" : Str)) = false := by decide) (hcd : (y == ("__classdict__" : Str)) = false := by decide)
    (he : starEach (e :: es) X.env = (false, eval e X.env) :: starEach es X.env := by rfl) (hpl : (backTo pos (starEach es X.env)).any (·.1) = false := by rfl) :
    PE X (.Call (.Name y p) (e :: es) [] pos) (tFV i (fun f sp => ∃ ps, FV P w K mg base j f ps sp) t) := by
  obtain ⟨rfl, rfl, rfl, rfl, rfl⟩ := hX
  refine ⟨fun pins s σ H Q I ⟨f, sp, hs, ⟨ps, fd, hfd, F, b⟩, h⟩ => ?_⟩
  refine wpAny_Call_Name_kw (thn ((pe_var (pos := p) hN hv hd hcd).run pins s σ H (fun v H1 => v = .ref f ∧ H1 = H) I ⟨_, hs, rfl, rfl⟩) fun u s1 ⟨v, H1, I1, r1, q1, q2⟩ => ?_)
  subst q1 q2
  cases (show u = Value.ref f from r1)
  have len : ∀ {vs : List V} {us : List Value} {H : Hp} {Q : VK}, Vals vs us → sp vs H Q E0 → us.length = ps.length := fun r q => by rw [← r.length]; exact F.len _ _ _ _ q
  rcases hfd with ⟨oc, od, sl, ho⟩ | kp
  · exact PySem.W.callWith_F ⟨_, _, _, _, I1.bk f _ ho⟩ (thn (ha.run pos pins s1 σ H1 _ I1 h) fun us s2 ⟨vs, H2, I2, r, q⟩ => ⟨⟨_, _, _, _, I2.bk f _ ho⟩, run_G (F.mono hjk) hgd hr (b s2 us I2.kIn (len r q)) I2 r q⟩) he hpl
  · exact PySem.W.callWith_K (h₀ := X.base) I1.ok.mod.kin kp (thn (ha.run pos pins s1 σ H1 _ I1 h) fun us s2 ⟨vs, H2, I2, r, q⟩ => ⟨I2.kIn, run_G (F.mono hjk) hgd hr (b s2 us I2.kIn (len r q)) I2 r q⟩) he hpl
end
end Kb
namespace Kb
open PySem PySem.Spec PyProof.Rows L2 LamX NdefX
/-- a lambda without defaults binds what is handed in -/
def LamBs (params : Arguments) (body : Expr) (scope : Scope) (ps : List Str) : Prop := ∀ (q : Str) (cl : List (Str × Addr)) (doc pm cv ctv : Value) (us : List Value), us.length = ps.length → bindArgs (PySem.W.kdv_fn "<lambda>" q params (.expr body) scope cl .none doc pm cv ctv) ⟨us, []⟩ = pure (ps.zip us)
/-- how its names lie to those of the def that makes it -/
structure LamV (sc scope : Scope) (fr : List Str) : Prop where
  free : ∀ y ∈ scope.names, y.2 = .free → sc.names.lookup y.1 = some .cell ∨ sc.names.lookup y.1 = some .free
  fr : ∀ y ∈ fr, (y, NameKind.free) ∈ scope.names
def lamVB (sc scope : Scope) (fr : List Str) : Bool := (scope.names.all fun y => !decide (y.2 = .free) || (decide (sc.names.lookup y.1 = some .cell) || decide (sc.names.lookup y.1 = some .free))) && fr.all fun y => scope.names.any fun z => decide (z.1 = y) && decide (z.2 = .free)
theorem lamV_by {sc scope : Scope} {fr : List Str} (h : lamVB sc scope fr = true) : LamV sc scope fr := by
  unfold lamVB at h
  simp only [Bool.and_eq_true, Bool.or_eq_true, Bool.not_eq_true', decide_eq_true_eq, decide_eq_false_iff_not, List.all_eq_true, List.any_eq_true] at h
  refine ⟨fun y hy e => (h.1 y hy).elim (fun z => absurd e z) id, fun y hy => ?_⟩
  obtain ⟨⟨a, b⟩, hz, e1, e2⟩ := h.2 y hy
  cases e1
  cases e2
  exact hz
/-- the lambda as a function that captures -/
abbrev lamNF (X : Cx) (params : Arguments) (scope : Scope) (c' : Addr) : NF := ⟨"<lambda>", X.env.qual ++ "<lambda>", params, [], scope, cloFrom X.env.cells scope.names [], c'⟩
/-- what a lambda promises: te, read over what it got and what it captured -/
def lamSp (c' : Addr) (q : Str) (ps : List Str) (N : List Str) (ws : List (Option V)) (te : TE) : Sp := fun vs H Q _ => vs.length = ps.length ∧ H c' = some (CodeO c' q) ∧ te (startF N vs ws) H Q
section
variable {X : Cx} {pins : List (Addr × Obj)} {σ : L2.St} {H : Hp} {s : Shared}
theorem cells_nofr (I : Inv X pins σ H s) (hfn : ∀ y, X.fn y = true) {y : Str} {c : Addr} (hc : X.env.cells.lookup y = some c) : c ∉ frs X.stack := fun hb => by
  rcases List.mem_cons.mp (I.stkSub _ hb) with e | e
  · obtain ⟨v, o, ho, hd⟩ := I.cell y c hc
    obtain ⟨m, ⟨o', es, ep, e', hd', _⟩, _⟩ := I.loc
    rw [← e, ho] at e'
    cases e'
    rw [hd] at hd'
    cases hd'
  · obtain ⟨_, o, ho, _⟩ := I.ok.funs.mem e
    exact absurd (Nat.lt_of_lt_of_le (Heap.lt_size ho) (I.ok.cab y c (hfn y) hc)) (Nat.lt_irrefl _)
theorem lam_FV {params : Arguments} {body : Expr} {scope : Scope} {doc pm ctv : Value} {f c' : Addr} {N ps fr : List Str} {js : List Nat} {k : Nat} {te : TE} (I : Inv X pins σ H s) (hfn : ∀ y, X.fn y = true) (S : NScope N ps fr scope)
    (hfree : ∀ y ∈ scope.names, y.2 = .free → X.env.scope.names.lookup y.1 = some .cell ∨ X.env.scope.names.lookup y.1 = some .free) (hfr : ∀ y ∈ fr, (y, NameKind.free) ∈ scope.names) (hjs : js.map (fun j => X.N[j]?) = fr.map some)
    (hf : s.heap.get? f = some (lamO (X.env.qual ++ "<lambda>") params body scope (cloFrom X.env.cells scope.names []) .none doc pm c' ctv)) (hn : H f = none) (hnf : f ∉ frs X.stack) (hb : LamBs params body scope ps)
    (hbody : ∀ (base : Heap) (A : Around) (outer : List Env) (s : Shared) (H : Hp) (E : XK), A.guards = some [] → Room k (A.deeper (envF (lamNF X params scope c') f s.heap.objs.size)) → PE (ncx CX0 X.prog X.w X.K X.mg base N (lamNF X params scope c') f A outer s H E) body te) :
    FV X.prog X.w X.K X.mg (frz s.heap H X.stack) (k + 1) f ps (lamSp c' (X.env.qual ++ "<lambda>") ps N (js.map (slotAt σ)) te) := by
  have cp := Caps.made I.ok hfree hfr hjs
  have C0 := cells_of I cp
  refine ⟨_, .inl ⟨_, _, _, frz_get hf hn hnf⟩, ⟨fun vs H Q E h => h.1, fun A outer s1 H1 args us vs Q E hgd hr e0 hb0 r h => ?_⟩, fun s us _ hl => .of_eq (hb _ _ _ _ _ _ us hl)⟩
  obtain ⟨hl, hc, ht⟩ := h
  have of1 := (e0.bs f _ (frz_get hf hn hnf)).1
  obtain ⟨⟨oc, vs', t, hoc, hdc, hvc⟩, _, _⟩ := e0.hok c' _ hc
  have kc : ∀ y c, (cloFrom X.env.cells scope.names []).lookup y = some c → ∀ v, s.heap.IsCell c v → s1.heap.IsCell c v ∧ H1 c = none := fun y c e v ⟨o, ho, hd⟩ =>
    have z := e0.bs c o (frz_get ho (C0.all y c e).1 (cells_nofr I hfn (cp.sub y c e)))
    ⟨⟨o, z.1, hd⟩, z.2⟩
  have C : CellsAt (cloFrom X.env.cells scope.names []) fr (js.map (slotAt σ)) s1.heap H1 := by
    refine ⟨C0.len, fun y c e => ?_, C0.inj, fun i y e => ?_⟩
    · obtain ⟨n, v, z⟩ := C0.all y c e
      exact ⟨(kc y c e v z).2, v, (kc y c e v z).1⟩
    · obtain ⟨c, h1, h2⟩ := C0.has i y e
      exact ⟨c, h1, fun v ev => (h2 v ev).imp fun u ⟨a, b⟩ => ⟨a, (kc y c h1 _ b).1⟩⟩
  have lim : s1.heap.NoLimit := e0.mod.nolimit.keeps fun b o e => (e0.bs b o e).1
  refine PySem.W.kla_callFunE hr.depth of1 rfl S.co S.gen rfl ⟨c', oc, vs', t, rfl, hoc, hdc, hvc⟩ (hb0 _ _ _ _ (wpAny_newFunctionEnv S.nocell (fun ⟨n, _⟩ hy => S.par n (List.of_mem_zip hy).1) (fun h₁ hns hsb => ⟨lim.fresh _ hsb, ?_⟩) S.kind))
  show codeAny _ _ (.expr body (envF (lamNF X params scope c') f s1.heap.objs.size)) _ _
  have kp : ∀ b o, s1.heap.get? b = some o → h₁.get? b = some o := fun b o e => hsb.extBut b o (Nat.ne_of_lt (Heap.lt_size e)) (Heap.get?_push_of_some _ e)
  have J : Inv (ncx CX0 X.prog X.w X.K X.mg (frz s.heap H X.stack) N (lamNF X params scope c') f A outer s1 H1 E) [] (startF N vs (js.map (slotAt σ))) H1 { s1 with heap := h₁, toks := s1.toks + (ps.zip us).length } := inv_startN S hr.hd e0 hl r C hns kp
  refine PySem.W.kla_codeExpr (wpAny_mono ((hbody _ A outer s1 H1 E hgd (hr.deeper _)).run [] _ _ H1 Q J ht) (fun v s' ⟨w', H', J', rv, q⟩ => ?_) fun e s' hq => hq)
  exact ⟨w', H', J'.os, J'.bare, J'.base, J'.hok, rv, q⟩
end
end Kb
namespace Kb
open PySem PySem.Spec PyProof.Rows L2 LamX NdefX
/-- g(e, lambda ..): g gets the lambda as a function of its base -/
def tLamV (P : Program) (w : World) (K : PySem.W.Frag) (mg : Str → Option Value) (Tb : Addr) (q : Str) (k : Nat) (ps N : List Str) (js : List Nat) (te te1 : TE) (spg : Heap → Sp) : TE := fun σ H Q => te1 σ H fun v H1 => TabS H1 Tb q ∧
  ∀ (H2 : Hp) (f c' : Addr) (base : Heap), ExtN H1 H2 → TabS H2 Tb q → H2 c' = some (CodeO c' q) → FV P w K mg base k f ps (lamSp c' q ps N (js.map (slotAt σ)) te) → spg base [v, .ref f] H2 Q E0
section
variable {X : Cx}
theorem pe_lamV {x a0 a1 : Str} {cc Tb : Addr} {j k kl : Nat} {params : Arguments} {body e1 : Expr} {scope : Scope} {te te1 : TE} {p lpos pos : Pos} {N ps fr : List Str} {js : List Nat} {spg : Heap → Sp} (hg : Gl X x) (c : ∀ base : Heap, CalG X.prog X.w X.K X.mg base CX0 j x [a0, a1] (spg base))
    (hgd : X.A.guards = some []) (hr : Room k X.A) (hjk : j ≤ k) (TB : TabB X.base X.mg cc Tb) (hcode : X.env.code = .ref cc) (hfn : ∀ y, X.fn y = true) (S : NScope N ps fr scope)
    (LV : LamV X.env.scope scope fr) (hjs : js.map (fun j => X.N[j]?) = fr.map some) (hb : LamBs params body scope ps)
    (hk0 : params.kw_defaults = []) (hd0 : params.defaults = []) (he1 : PE X e1 te1)
    (hbody : ∀ (base : Heap) (A : Around) (outer : List Env) (s : Shared) (H : Hp) (E : XK) (f c' : Addr), A.guards = some [] → Room kl (A.deeper (envF (lamNF X params scope c') f s.heap.objs.size)) → PE (ncx CX0 X.prog X.w X.K X.mg base N (lamNF X params scope c') f A outer s H E) body te)
    (hdb : (x == ("__debug__" : Str)) = false := by decide) (he : starEach [e1, .Lambda params body scope lpos] X.env = (false, eval e1 X.env) :: starEach [.Lambda params body scope lpos] X.env := by rfl) :
    PE X (.Call (.Name x p) [e1, .Lambda params body scope lpos] [] pos) (tLamV X.prog X.w X.K X.mg Tb (X.env.qual ++ "<lambda>") (kl + 1) ps N js te te1 spg) := by
  have hfree := LV.free
  have hfr := LV.fr
  obtain ⟨g, fd0, F0, hm, hkp, _⟩ := c X.base
  refine ⟨fun pins s σ H Q I h => ?_⟩
  have hasC : ∀ y ∈ scope.names, y.2 = .free → ∃ c, X.env.cells.lookup y.1 = some c := fun y hy e => (hfree y hy e).elim (fun z => I.ok.has _ (.inl z)) fun z => I.ok.has _ (.inr z)
  refine wpAny_Call_Name_kw (ld_glob I hg hm ?_ hdb)
  refine PySem.W.callWith_K (h₀ := X.base) I.ok.mod.kin hkp ?_ he (by rfl)
  rw [he]
  show wpAny _ _ (spliced ((false, eval e1 X.env) :: (false, eval (.Lambda params body scope lpos) X.env) :: [])) _ _ s
  have only : ∀ p ∈ [(Tb, X.env.qual ++ "<lambda>")], p.1 = Tb → p.2 = X.env.qual ++ "<lambda>" := fun p hp _ => by rw [List.mem_singleton.mp hp]
  refine Calls.spliced_cons (thn (he1.run pins s σ H _ I h) fun u1 s1 ⟨v, H1, I1, r1, hT, hgo⟩ => ?_)
  refine Calls.spliced_cons (lam_new (T := [(Tb, X.env.qual ++ "<lambda>")]) (ds := []) I1 TB hcode (List.mem_singleton.mpr rfl) only (fun p hp => by rw [List.mem_singleton.mp hp]; exact hT) hasC hk0 (.inl ⟨hd0, rfl⟩) rfl fun f c' dV doc pm ctv H2 s2 I2 eN T2 hf hfn2 hnf hco hD => ?_)
  obtain rfl : dV = .none := by
    rcases hD with ⟨_, z⟩ | ⟨t, z, _⟩
    · exact z
    · exact absurd rfl z
  refine Calls.spliced_nil ⟨I2.kIn, ?_⟩
  obtain ⟨g', fd, F, hm', _, hbi⟩ := c (frz s2.heap H2 X.stack)
  cases hm.symm.trans hm'
  have hB := hbi s2 [u1, .ref f] I2.kIn rfl
  refine wpAny_call (codeAny_mono (F.run X.A X.stack s2 H2 ⟨[u1, .ref f], []⟩ [u1, .ref f] [v, .ref f] Q E0 hgd (hr.mono hjk) (env0_frz I2.env0) hB (.cons r1 (.cons rfl .nil)) (hgo H2 f c' _ eN (T2 _ (List.mem_singleton.mpr rfl)) hco (lam_FV I2 hfn S hfree hfr hjs hf hfn2 hnf hb fun base A outer s H E h1 h2 => hbody base A outer s H E f c' h1 h2))) fun r s3 hq => ?_)
  match r, hq with
  | .error e, hq => exact (show False from hq).elim
  | .ok (.ret u), hq => exact I2.after hq
end
end Kb
namespace Kb
open PySem PySem.Spec PyProof.Rows L2 LamX NdefX
theorem FV.mono {P : Program} {w : World} {K : PySem.W.Frag} {mg : Str → Option Value} {base : Heap} {j k : Nat} {f : Addr} {ps : List Str} {sp : Sp} (h : FV P w K mg base j f ps sp) (hjk : j ≤ k) : FV P w K mg base k f ps sp := by
  obtain ⟨fd, a, F, b⟩ := h
  exact ⟨fd, a, F.mono hjk, b⟩
theorem Cal.g {P : Program} {w : World} {K : PySem.W.Frag} {mg : Str → Option Value} {base : Heap} {CX : CXT} {k : Nat} {x : Str} {ps : List Str} {sp : Sp} (c : Cal P w K mg base CX k x ps sp) : CalG P w K mg base CX k x ps sp := by
  obtain ⟨f, fd, F, m, kp, b⟩ := c
  exact ⟨f, fd, ⟨F.len, fun A outer s H args us vs Q E _ hr => F.run A outer s H args us vs Q E hr⟩, m, kp, b⟩
/-- a def that makes lambdas -/
theorem DfC.okG {P : Program} {w : World} {K : PySem.W.Frag} {mg : Str → Option Value} {base : Heap} {x : Str} {st : Stmt} {N ps : List Str} {k : Nat} {sp : Sp} {c Tb : Addr} (D : DfC K mg x st ps c Tb) (S : FnScope N ps (defScope st)) (len : ∀ vs H Q E, sp vs H Q E → vs.length = ps.length)
    (hbody : ∀ (f : Addr) (A : Around) (outer : List Env) (s : Shared) (H : Hp) (vs : List V) (Q : VK) (E : XK), A.guards = some [] → Room k (A.deeper (envOfC x (defScope st) s.heap.objs.size f (.ref c))) → sp vs H Q E →
      ∃ t, PSs (cxOf CX0 P w K mg base N x (defScope st) f (.ref c) A outer s H E).nox (defBody st) t ∧ t { nx := fun _ H' => Q .non H', rt := Q } (start N vs) H) : CalG P w K mg base CX0 (k + 1) x ps sp := by
  obtain ⟨f, fd, F, hc, m, tb, b⟩ := D
  refine ⟨f, fd, Kb.Fun.okGC F hc S len fun A outer s H vs Q E => hbody f A outer s H vs Q E, m, F.kp, fun s us hK hl => ?_⟩
  rw [List.append_nil] at hl ⊢
  exact .of_eq (b us hl)
theorem walkGTx {l : PySem.W.OpenLaw} {n k : Nat} {q : Program} {loose : List Str} {XP : (Str → Option Value) → Heap → Prop} {YP : World → Heap → Prop} {d dx : DefRec} {K : Params → PySem.W.Frag} {CX : World → CXT} {sp : World → Addr → Sp} {x : Str}
    (hn : l.most = some n) (hn2 : n ≤ sizeLine) (hdf : d.params.defaults = []) (hr : Room k callerA) (hY : ∀ (w : World) (h : Heap), YP w h → (K w.params).In h) (hrec : (recsOf q).find? (fun e => e.name == dx.name) = some dx)
    (F : ∀ (w : World) (mg : Str → Option Value) (fa : Addr) (h : Heap), (K w.params).In h → h.Ns PySem.mainGlobals mg → mg d.name = some (.ref fa) →
      ∃ (fd : FuncData) (c Tb : Addr), PySem.W.tabIn (K w.params) dx.name = some (c, Tb) ∧ (K w.params).lookup Tb = none ∧ (∀ (s : Shared) (u : Value), BindsTo s fd ⟨[u], []⟩ [(x, u)]) ∧
        ∀ base : Heap, (K w.params).In base → base.Ns PySem.mainGlobals mg → TabB base mg c Tb → FnG l.prog w (K w.params) mg base (CX w) k fa fd [x] (sp w Tb))
    (hsp : ∀ (w : World) (H : Hp) (a Tb : Addr) (ns : List Int), ns.length ≤ n → H Tb = some (.tbl #[]) → SqL (K w.params) H a (ns.map V.int) → sp w Tb [.ref a] H (fun v _ => v = .bl true) fun _ _ _ => False)
    (hCX : ∀ (w : World) (H : Hp) (s : Shared) (e : Value) (s' : Shared), CX w [] H s (fun _ _ _ => False) e s' → False) :
    PySem.W.WalkO q loose XP YP l.row.toRowW d [] (fun f vs => PySem.call f vs) := by
  refine Att.attach_call hn hdf fun w s₀ s₁ mg mb fa o pm cd doc a vs ns G Y ho hd hcd hmg hobj hints hlen hg => ?_
  have KX := hY w _ Y
  obtain ⟨fd, c, Tb, tb, nT, hb, hF⟩ := F w mg fa _ KX G.T.g hmg
  obtain ⟨C, hT⟩ := PySem.W.tab_of G.T KX hrec tb
  exact law_callGT KX G.T.g G.T.b G.T.builtins G.T.nolimit hg hT nT C G.T.bmain hobj hints (Nat.le_trans hlen hn2) hr hF hb (fun H h1 h2 => hsp w H a Tb ns hlen h1 h2) fun H e s' => hCX w H s₁ e s'
end Kb

namespace Kb
open PySem PySem.Spec PyProof.Rows L2
/-! ### o.m(e, ..) of an own class -/
section
variable {X : Cx} {CX : CXT} {j k : Nat} {x m qual : Str} {st : Stmt} {ps ps0 fs : List Str} {sp : Sp} {E : XK} {C : Addr}
theorem pe_methO {apos pos : Pos} {o e : Expr} {es : List Expr} {ta : TE} {t : TA} {pl : Sem Bool} (oc : OwnC X.K X.mg x fs C) (D : MthT X.K X.mg x m qual st ps0) (c : CalM X.prog X.w X.K X.mg X.base CX j x m ps sp) (hr : Room k X.A) (hjk : j ≤ k) (hx : Passes CX X E) (he : PE X o ta) (ha : PA X (e :: es) t)
    (hst : starEach (e :: es) X.env = (false, eval e X.env) :: starEach es X.env := by rfl) (hpl : (backTo pos (starEach es X.env)).any (·.1) = false := by rfl)
    (ht : eval (.Call (.Attribute o m apos) (e :: es) [] pos) X.env = (do
      let ov ← eval o X.env
      standAt apos.atName
      let (f, first) ← holding [ov] (getMethod ov m pl)
      callWith pos f first (backTo pos (starEach (e :: es) X.env)) (backToKw pos (keywordEach [] X.env))) := by rfl) :
    PE X (.Call (.Attribute o m apos) (e :: es) [] pos) (tMeth C m sp [] E ta t) := by
  obtain ⟨C1, f1, fd1, g1, i1, n1, F1, _⟩ := D
  obtain ⟨C2, f2, fd2, g2, i2, n2, F2, b2⟩ := c
  obtain rfl : C1 = C := by have := g1.symm.trans oc.g; cases this; rfl
  obtain rfl : C2 = C1 := by have := g2.symm.trans g1; cases this; rfl
  obtain rfl : f1 = f2 := by have := i1.symm.trans i2; cases this; rfl
  exact pe_meth he oc.o.cl ⟨i2, n2, F1.kp⟩ (F2.mono hjk) hr b2 .nil hx ha hst hpl ht
end
end Kb

namespace Kb
open PySem PySem.Spec PyProof.Rows L2
/-! ### a if t else b as a test; a dict comprehension that is set to a name -/
section
variable {X : Cx}
def tIfT (c a b : TT) : TT := fun σ H Q => c σ H fun k H1 => if k = true then a σ H1 Q else b σ H1 Q
theorem pt_ifx {c a b : Expr} {tc ta tb : TT} {pos : Pos} (hc : PT X c tc) (ha : PT X a ta) (hb : PT X b tb) : PT X (.IfExp c a b pos) (tIfT tc ta tb) := by
  refine ⟨fun pins s σ H Q I h => ?_⟩
  rw [arm_isTrue_IfExp]
  refine wpAny_bind (thn (hc.run pins s σ H _ I h) fun k s1 ⟨H1, I1, q1⟩ => ?_)
  cases k with
  | true => exact ha.run pins s1 σ H1 Q I1 q1
  | false => exact hb.run pins s1 σ H1 Q I1 q1
theorem sw_trueD {kx vx : Expr} {gs : List Comprehension} {scope : Scope} {pos py : Pos} {y : Str} {l : Nat} {env : Env} (hk : env.scope.kind = .function) (hy : env.scope.names.lookup y = some .local) (hl : (py.line == pos.line) = true)
    (ha : (scope.names.any fun (n, k) => n == y && (k == .local || k == .cell)) = false) : swapsWith (.DictComp kx vx gs scope pos) (some (.Name y py)) l env = pure true := by
  have ky : env.kindOf y = some .local := hy
  have hb : env.blockKind = .function := by unfold Env.blockKind; rw [hk]; rfl
  unfold swapsWith
  simp only [hb, ky, ha, Expr.pos, hl]
  rfl
theorem ps_setDc {i : Nat} {y : Str} {py : Pos} {kx vx tg iter : Expr} {ifs : List Expr} {scope : Scope} {own : List (Str × Nat)} {pos spos : Pos} {wi : TI} {g : TG} {tt : TT} {tk tv : TE} (hc : X.calm = true) (hN : X.N.Nodup) (hy : X.N[i]? = some y) (hyl : X.env.scope.names.lookup y = some .local)
    (hsw : swapsWith (.DictComp kx vx [⟨tg, iter, ifs, 0⟩] scope pos) (some (.Name y py)) spos.line X.env = pure true) (hi : PI X tg iter wi) (ok : BlkOk X.N X.env.scope scope own)
    (hg : ∀ (s : Shared) (H : Hp) (C : Addr) (cl : List (Str × Addr)) (fp : List Addr), PG (X.blk s H scope (compEnvC scope cl C X.env) fp) tg g) (ht : ∀ (s : Shared) (H : Hp) (C : Addr) (cl : List (Str × Addr)) (fp : List Addr), PTs (X.blk s H scope (compEnvC scope cl C X.env) fp) ifs tt)
    (hk : ∀ (s : Shared) (H : Hp) (C : Addr) (cl : List (Str × Addr)) (fp : List Addr), PE (X.blk s H scope (compEnvC scope cl C X.env) fp) kx tk)
    (he : ∀ (s : Shared) (H : Hp) (C : Addr) (cl : List (Str × Addr)) (fp : List Addr), PE (X.blk s H scope (compEnvC scope cl C X.env) fp) vx tv) (hs : ∀ x, foldedSetIterable iter X.env x = pure x := by intro _; rfl) :
    PS X (.Assign [.Name y py] (.DictComp kx vx [⟨tg, iter, ifs, 0⟩] scope pos) spos) (tAsg (tDc wi g tt tk tv (own.map (·.2))) (gName i)) := by
  refine ⟨fun pins s σ H D I h => ?_⟩
  rw [exec_Assign_Name_used _ _ _ _ hsw]
  refine wpAny_bind (wpAny_standAt (wpAny_bind ?_))
  show wpAny _ X.A (do let _ ← comprehension (.DictComp kx vx [⟨tg, iter, ifs, 0⟩] scope pos) scope X.env (firstIterPos [⟨tg, iter, ifs, 0⟩] pos) newDict false (eval iter X.env) (some (assign (.Name y py) X.env))) _ _ s
  have h : tDc wi g tt tk tv (own.map (·.2)) σ H (fun x H1 => gName i x σ H1 D.nx) := h
  refine wpAny_bind (thn (dc_core (Qf := fun _ s' => SP X pins D .next s') hc hN I hi ok hg ht hk he hs h fun L C s' m H' I' q hn f => ?_) fun _ s' hq => wpAny_pure (wpAny_pure hq))
  show wpAny _ _ (assign (.Name y py) X.env (.ref L)) _ _ _
  refine wpAny_assign_Name (store_ok2 (v := V.ref L) I' hN hy (.inl hyl) rfl (fun s2 I2 ⟨a, sb, ha⟩ => ?_) (.inr hyl))
  obtain ⟨f0, f1, f2, f3, f4, f5⟩ := f
  have haC : C ≠ a := by
    rcases ha with z | z
    · rw [z]; exact f1
    · exact fun e => f4 y a z e.symm
  refine ⟨m, hn.sameBut sb haC, fun h3 sb3 => ?_⟩
  exact ⟨_, H', I2.turned (t' := s2.toks) (fun b o hb e => (sb3.2 b hb).trans e) f0 f1 f3 f4 f5, q⟩
end
end Kb

namespace Kb
open PySem PySem.Spec PyProof.Rows L2 TL
/-- a dict comprehension over enumerate(tuple) -/
theorem dc_enumT {K : PySem.W.Frag} {a : Addr} {xs : List V} {g : TG} {tt : TT} {tk tv : TE} {vs : List Nat} {σ : L2.St} {H1 : Hp} {D : Addr} {Qd : Hp → Prop} (Pv : Nat → Hp → Prop) (h0 : Pv 0 (L2.upd H1 D (.dK []))) (hG : ∀ i H, i ≤ xs.length → Pv i H → SqT K H a xs)
    (hs : ∀ i x T H, xs[i]? = some x → Pv i H → H T = none → g (.ref T) (wipe σ vs) (L2.upd H T (.tup [.int (i : Nat), x])) fun σ2 H2 => wipe σ2 vs = wipe σ vs ∧ tt σ2 H2 fun b H3 =>
      if b = true then tk σ2 H3 fun y H4 => tv σ2 H4 fun z H5 => ∃ kvs k, y = kV k ∧ H5 D = some (.dK kvs) ∧ kvs.length < sizeLine ∧ Pv (i + 1) (L2.upd H5 D (.dK (putK kvs k z))) else Pv (i + 1) H3) (hd : ∀ H, Pv xs.length H → Qd H) :
    ∃ W : Nat → Nat → Hp → Prop, (∃ m, W 0 m (L2.upd H1 D (.dK []))) ∧ ∀ i m H, W i m H →
      ((Itet K a).stop i H ∧ Qd H) ∨ ((Itet K a).go i H ∧ ∃ Nx : Hp → Prop, (∀ H', Nx H' → ∃ m', m' < m ∧ W (i + 1) m' H') ∧ ∀ x H', (Itet K a).yld i H x H' → g x (wipe σ vs) H' fun σ2 H2 => wipe σ2 vs = wipe σ vs ∧ tt σ2 H2 fun b H3 =>
        if b = true then tk σ2 H3 fun y H4 => tv σ2 H4 fun z H5 => ∃ kvs k, y = kV k ∧ H5 D = some (.dK kvs) ∧ kvs.length < sizeLine ∧ Nx (L2.upd H5 D (.dK (putK kvs k z))) else Nx H3) := by
  refine ⟨fun i m H => m = xs.length - i ∧ i ≤ xs.length ∧ Pv i H, ⟨xs.length, by simp, Nat.zero_le _, h0⟩, ?_⟩
  rintro i m H ⟨rfl, hi, p⟩
  have q := hG i H hi p
  by_cases hlt : i < xs.length
  · refine .inr ⟨walk_enumT.goes i H hlt q, Pv (i + 1), fun H' p' => ⟨xs.length - (i + 1), by omega, rfl, hlt, p'⟩, fun x H' y => ?_⟩
    obtain ⟨T, x1, y1, rfl, hT, rfl, h1, h2⟩ := walk_enumT.yields i H x H' hlt q y
    cases h1
    exact hs i y1 T H h2 p hT
  · have e : i = xs.length := by omega
    subst e
    exact .inl ⟨walk_enumT.stops H q, hd H p⟩
/-- all but one object is kept -/
def KeepA (a : Addr) (H H' : Hp) : Prop := ∀ b o, H b = some o → b ≠ a → H' b = some o
theorem KeepA.refl {a : Addr} {H : Hp} : KeepA a H H := fun _ _ h _ => h
theorem KeepA.same {a : Addr} {H H1 H2 : Hp} (k : KeepA a H H1) (s : Same H1 H2) : KeepA a H H2 := fun b o h n => s _ _ (k b o h n)
theorem KeepA.upd {a : Addr} {H H1 : Hp} {o : HO} (k : KeepA a H H1) : KeepA a H (L2.upd H1 a o) := fun b u h n => (upd_ne n).trans (k b u h n)
theorem KeepA.updN {a L : Addr} {H H1 : Hp} {o : HO} (k : KeepA a H H1) (h : H L = none) : KeepA a H (L2.upd H1 L o) := fun b u e n => (upd_ne (fun z => by rw [z, h] at e; cases e)).trans (k b u e n)
theorem KeepA.newer {a L : Addr} {H H1 : Hp} (k : KeepA a H H1) (n : L ≠ a) (h : H1 L = none) : H L = none := by
  cases e : H L with
  | none => rfl
  | some o => rw [k L o e n] at h; cases h
theorem KeepA.tups {a : Addr} {H H1 : Hp} {o : HO} (k : KeepA a H H1) (ha : H a = some o) (no : ∀ xs, o ≠ .tup xs) : ∀ {qs : List Addr} {cs : List (List V)}, TupsAt H qs cs → TupsAt H1 qs cs
  | [], [], _ => trivial
  | q :: _, c :: _, h => ⟨k _ _ h.1 (fun z => by have := h.1; rw [z, ha] at this; exact no _ (Option.some.inj this)), KeepA.tups k ha no h.2⟩
end Kb

namespace Kb
open PySem PySem.Spec PyProof.Rows L2
/-! ### an __init__ whose keyword-only parameters are all told: of its defaults nothing is asked but that there are some -/
def MthQ (K : PySem.W.Frag) (mg : Str → Option Value) (x m qual : Str) (st : Stmt) (n : Nat) (ps ks : List Str) : Prop := ∃ kws : List (Str × V), kws.map (·.1) = ks ∧ MthK K mg x m qual st n ps kws
theorem MthQ.mk {K : PySem.W.Frag} {mg : Str → Option Value} {x m qual : Str} {st : Stmt} {n : Nat} {ps ks : List Str} {kws : List (Str × V)} (h : MthK K mg x m qual st n ps kws) (e : kws.map (·.1) = ks) : MthQ K mg x m qual st n ps ks := ⟨kws, e, h⟩
def CalQ (P : Program) (w : World) (K : PySem.W.Frag) (mg : Str → Option Value) (base : Heap) (CX : CXT) (k : Nat) (x m : Str) (n : Nat) (ps ks : List Str) (sp : Sp) : Prop := ∃ kws : List (Str × V), kws.map (·.1) = ks ∧ CalK P w K mg base CX k x m n ps kws sp
section
variable {P : Program} {w : World} {K : PySem.W.Frag} {mg : Str → Option Value} {base : Heap}
theorem MthQ.okX {x m qual : Str} {st : Stmt} {N ps ks : List Str} {k n : Nat} {sp : Sp} (D : MthQ K mg x m qual st n ps ks) (S : FnScope N ps (defScope st)) (len : ∀ vs H Q E, sp vs H Q E → vs.length = ps.length)
    (hbody : ∀ (f : Addr) (cdv : Value) (A : Around) (outer : List Env) (s : Shared) (H : Hp) (vs : List V) (Q : VK) (E : XK), Room k (A.deeper (envOfC qual (defScope st) s.heap.objs.size f cdv)) → sp vs H Q E →
      ∃ t, PSs (cxOf (L2.CX P w) P w K mg base N qual (defScope st) f cdv A outer s H E) (defBody st) t ∧ t { nx := fun _ H' => Q .non H', rt := Q } (start N vs) H) : CalQ P w K mg base (L2.CX P w) (k + 1) x m n ps ks sp := by
  obtain ⟨kws, e, d⟩ := D
  exact ⟨kws, e, d.okX S len hbody⟩
end
section
variable {X : Cx} {W : WX} {j k n : Nat} {x : Str} {ps fs ks : List Str} {sp : Sp} {C : Addr}
theorem pe_mkQX {p pos : Pos} {e : Expr} {es : List Expr} {kw : List Keyword} {t tk : TA} (o : OwnC X.K X.mg x fs C) (c : CalQ X.prog X.w X.K X.mg X.base (L2.CX X.prog X.w) j x "__init__" (n + 1) ps ks sp) (hr : Room k X.A) (hjk : j + 1 ≤ k) (hg : Gl X x) (tW : Takes X W)
    (ha : PA X (e :: es) t) (hkw : PK X kw tk) (hall : (backToKw pos (keywordEach kw X.env)).all (·.1.isSome) = true := by rfl) (hks : (backToKw pos (keywordEach kw X.env)).filterMap (·.1) = ks := by rfl) (hdb : (x == ("__debug__" : Str)) = false := by decide)
    (he : starEach (e :: es) X.env = (false, eval e X.env) :: starEach es X.env := by rfl) (hpl : ((backTo pos (starEach (e :: es) X.env)).any (·.1) || (backToKw pos (keywordEach kw X.env)).any (·.1.isNone)) = false := by rfl) :
    PE X (.Call (.Name x p) (e :: es) kw pos) (tMakeW C n ks.length sp (fun vs zs => vs ++ zs) W t tk) := by
  obtain ⟨kws, q, d⟩ := c
  subst q
  exact pe_mkKX o d hr hjk hg tW ha hkw hall hks hdb he hpl
theorem pe_mkQ {p pos : Pos} {e : Expr} {es : List Expr} {kw : List Keyword} {t tk : TA} {E : XK} (o : OwnC X.K X.mg x fs C) (c : CalQ X.prog X.w X.K X.mg X.base (L2.CX X.prog X.w) j x "__init__" (n + 1) ps ks sp) (hr : Room k X.A) (hjk : j + 1 ≤ k) (hg : Gl X x) (hx : Passes (L2.CX X.prog X.w) X E)
    (ha : PA X (e :: es) t) (hkw : PK X kw tk) (hall : (backToKw pos (keywordEach kw X.env)).all (·.1.isSome) = true := by rfl) (hks : (backToKw pos (keywordEach kw X.env)).filterMap (·.1) = ks := by rfl) (hdb : (x == ("__debug__" : Str)) = false := by decide)
    (he : starEach (e :: es) X.env = (false, eval e X.env) :: starEach es X.env := by rfl) (hpl : ((backTo pos (starEach (e :: es) X.env)).any (·.1) || (backToKw pos (keywordEach kw X.env)).any (·.1.isNone)) = false := by rfl) :
    PE X (.Call (.Name x p) (e :: es) kw pos) (tMakeK C n ks.length sp (fun vs zs => vs ++ zs) E t tk) := by
  obtain ⟨kws, q, d⟩ := c
  subst q
  exact pe_mkK o d hr hjk hg hx ha hkw hall hks hdb he hpl
end
end Kb
namespace Kb
open PySem PySem.Spec PyProof.Rows L2
/-- what follows is read once, however it is reached -/
theorem step_cut {R : Hp → Prop} {H1 : Hp} {A : Prop} (h : (∀ H2, Same H1 H2 → R H2) → A) (r : ∀ H2, Same H1 H2 → R H2) : A := h r
end Kb
namespace Kb
open PySem PySem.Spec PyProof.Rows L2
section
variable {σ : L2.St} {H0 : Hp}
theorem givS_var {i : Nat} {v : V} (h : σ[i]? = some (some v)) : GivS σ H0 (tVar i) v := fun H _ _ q => ⟨v, h, q H (Same.refl H)⟩
theorem givS_c {v : V} : GivS σ H0 (tC v) v := fun H _ _ q => q H (Same.refl H)
theorem givS_orT {ta tb : TE} (a : GivS σ H0 ta (.bl true)) : GivS σ H0 (tOrV ta tb) (.bl true) := fun H Q s q => a H _ s fun H1 s1 => ⟨true, rfl, iteT (q H1 s1)⟩
theorem givS_orF {ta tb : TE} {v : V} (a : GivS σ H0 ta (.bl false)) (b : GivS σ H0 tb v) : GivS σ H0 (tOrV ta tb) v := fun H Q s q => a H _ s fun H1 s1 => ⟨false, rfl, iteF (b H1 Q (s.trans s1) fun H2 s2 => q H2 (s1.trans s2))⟩
theorem givS_andT {ta tb : TE} {v : V} (a : GivS σ H0 ta (.bl true)) (b : GivS σ H0 tb v) : GivS σ H0 (tAndV ta tb) v := fun H Q s q => a H _ s fun H1 s1 => ⟨true, rfl, iteT (b H1 Q (s.trans s1) fun H2 s2 => q H2 (s1.trans s2))⟩
theorem givS_andF {ta tb : TE} (a : GivS σ H0 ta (.bl false)) : GivS σ H0 (tAndV ta tb) (.bl false) := fun H Q s q => a H _ s fun H1 s1 => ⟨false, rfl, iteF (q H1 s1)⟩
theorem givS_isN {te : TE} {v : V} (a : GivS σ H0 te v) : GivS σ H0 (tOp (fun x y H Q => y = V.non ∧ Q (.bl (decide (x = V.non))) H) te (tC .non)) (.bl (decide (v = V.non))) := fun H Q s q => a H _ s fun H1 s1 => ⟨rfl, q H1 s1⟩
theorem givS_isNT {te : TE} (a : GivS σ H0 te .non) : GivS σ H0 (tOp (fun x y H Q => y = V.non ∧ Q (.bl (decide (x = V.non))) H) te (tC .non)) (.bl true) := givS_isN a
theorem givS_isNR {te : TE} {p : Addr} (a : GivS σ H0 te (.ref p)) : GivS σ H0 (tOp (fun x y H Q => y = V.non ∧ Q (.bl (decide (x = V.non))) H) te (tC .non)) (.bl false) := givS_isN a
theorem givS_cast {te : TE} {v w : V} (a : GivS σ H0 te v) (e : v = w) : GivS σ H0 te w := e ▸ a
end
end Kb
namespace Kb
open PySem PySem.Spec PyProof.Rows L2
section
variable {σ : L2.St} {H0 : Hp}
theorem givS_eq {ta tb : TE} {v w : V} {b : Bool} (a : GivS σ H0 ta v) (c : GivS σ H0 tb w) (hs : scal v w = true) (e : decide (v = w) = b) : GivS σ H0 (tOp rEq ta tb) (.bl b) := fun H Q s q => a H _ s fun H1 s1 => c H1 _ (s.trans s1) fun H2 s2 => ⟨hs, by rw [e]; exact q H2 (s1.trans s2)⟩
theorem givS_ne {ta tb : TE} {v w : V} {b : Bool} (a : GivS σ H0 ta v) (c : GivS σ H0 tb w) (hs : scal v w = true) (e : (!decide (v = w)) = b) : GivS σ H0 (tOp rNe ta tb) (.bl b) := fun H Q s q => a H _ s fun H1 s1 => c H1 _ (s.trans s1) fun H2 s2 => ⟨hs, by rw [e]; exact q H2 (s1.trans s2)⟩
/-- x in (a, b), all flat -/
theorem givS_inTup {K : PySem.W.Frag} {ta : TE} {t : TA} {v : V} {xs : List V} {b : Bool} (a : GivS σ H0 ta v) (g : GivA t xs) (hl : xs.length ≤ 100) (h1 : flatV v = true) (h2 : xs.all flatV = true) (e : inV v xs = b) : GivS σ H0 (tOp (rIn K false) ta (tTup t)) (.bl b) := fun H Q s q => a H _ s fun H1 s1 =>
  g σ H1 _ ⟨Nat.le_trans hl (by decide), fun p hp => ⟨p, xs, rfl, .inr (SqT.of upd_same), h1, h2, by show Q (.bl (inV v xs)) _; rw [e]; exact q _ (s1.trans (Same.new hp))⟩⟩
theorem givS_fld {K : PySem.W.Frag} {te : TE} {f : Str} {a C dx : Addr} {fs : List (Str × V)} {v : V} (g : GivS σ H0 te (.ref a)) (ha : ∀ H, Same H0 H → H a = some (.ins C dx fs)) (c : Cls K C) (n : NoAttr K C f) (l : fs.lookup f = some v) : GivS σ H0 (tFld K te f) v := fun H Q s q =>
  g H _ s fun H1 s1 => ⟨a, C, dx, fs, v, rfl, ha H1 (s.trans s1), c, n, l, q H1 s1⟩
end
end Kb
namespace Kb
open PySem PySem.Spec PyProof.Rows L2
/-- self.f = e, within __init__ -/
theorem sfld_step {K : PySem.W.Frag} {σ : L2.St} {H : Hp} {D : Ends} {rest : TS} {f : Str} {te : TE} {a C dx : Addr} {fs fs' : List (Str × V)} {v : V} (h0 : σ[0]? = some (some (.ref a))) (ha : H a = some (.ins C dx fs)) (c : Cls K C) (n : NoAttr K C f) (hl : fs.length < 1000) (g : GivS σ H te v) (e : putF f v fs = fs')
    (k : ∀ H', KeepA a H H' → H' a = some (.ins C dx fs') → rest D σ H') : tSeq (sFld K (tVar 0) te f) rest D σ H :=
  g H _ (Same.refl _) fun H1 s1 => ⟨_, h0, a, C, dx, fs, rfl, s1 _ _ ha, c, n, hl, by rw [e]; exact k _ ((KeepA.refl.same s1).upd) upd_same⟩
theorem sfld_last {K : PySem.W.Frag} {σ : L2.St} {H : Hp} {D : Ends} {f : Str} {te : TE} {a C dx : Addr} {fs fs' : List (Str × V)} {v : V} (h0 : σ[0]? = some (some (.ref a))) (ha : H a = some (.ins C dx fs)) (c : Cls K C) (n : NoAttr K C f) (hl : fs.length < 1000) (g : GivS σ H te v) (e : putF f v fs = fs')
    (k : ∀ H', KeepA a H H' → H' a = some (.ins C dx fs') → D.nx σ H') : sFld K (tVar 0) te f D σ H :=
  g H _ (Same.refl _) fun H1 s1 => ⟨_, h0, a, C, dx, fs, rfl, s1 _ _ ha, c, n, hl, by rw [e]; exact k _ ((KeepA.refl.same s1).upd) upd_same⟩
theorem KeepA.trans {a : Addr} {H H1 H2 : Hp} (k : KeepA a H H1) (l : KeepA a H1 H2) : KeepA a H H2 := fun b o h n => l b o (k b o h n) n
end Kb
namespace Kb
open PySem PySem.Spec PyProof.Rows L2
theorem atI_m1 {α : Type} {xs : List α} {v : α} (h : xs[xs.length - 1]? = some v) : atI xs (-1) = some v := by
  rw [← List.getLast?_eq_getElem?] at h
  obtain ⟨ys, rfl⟩ := List.getLast?_eq_some_iff.mp h
  exact atI_last ys v
end Kb
namespace Kb
open PySem PySem.Spec PyProof.Rows L2
/-- t[n], a tuple -/
theorem givS_ixT {K : PySem.W.Frag} {σ : L2.St} {H0 : Hp} {te : TE} {p : Addr} {xs : List V} {v : V} (n : Nat) (g : GivS σ H0 te (.ref p)) (h : ∀ H, Same H0 H → SqT K H p xs) (e : xs[n]? = some v) : GivS σ H0 (tOp (rIxT K) te (tC (.int (n : Nat)))) v := fun H Q s q =>
  g H _ s fun H1 s1 => ⟨p, xs, (n : Nat), v, rfl, rfl, h H1 (s.trans s1), atI_nat e, q H1 s1⟩
end Kb
namespace Kb
open PySem PySem.Spec PyProof.Rows L2
section
variable {σ : L2.St} {H0 : Hp}
theorem givS_or {ta tb : TE} {b c : Bool} (a : GivS σ H0 ta (.bl b)) (g : b = false → GivS σ H0 tb (.bl c)) : GivS σ H0 (tOrV ta tb) (.bl (b || c)) := by
  cases b with
  | true => exact givS_orT a
  | false => exact givS_orF a (g rfl)
theorem givS_and {ta tb : TE} {b c : Bool} (a : GivS σ H0 ta (.bl b)) (g : b = true → GivS σ H0 tb (.bl c)) : GivS σ H0 (tAndV ta tb) (.bl (b && c)) := by
  cases b with
  | true => exact givS_andT a (g rfl)
  | false => exact givS_andF a
theorem givS_notV {ta : TE} {b : Bool} (a : GivS σ H0 ta (.bl b)) : GivS σ H0 (tNotV ta) (.bl (!b)) := fun H Q s q => a H _ s fun H1 s1 => ⟨b, rfl, q H1 s1⟩
end
end Kb
namespace Kb
open PySem PySem.Spec PyProof.Rows L2
theorem TupsAt.putL {H : Hp} {L : Addr} {xs : List V} {o : HO} (hm : H L = some (.lst xs)) : ∀ {qs : List Addr} {cs : List (List V)}, TupsAt H qs cs → TupsAt (L2.upd H L o) qs cs
  | [], [], _ => trivial
  | q :: _, c :: _, h => ⟨(upd_ne (fun z => by have := h.1; rw [z, hm] at this; cases this)).trans h.1, TupsAt.putL hm h.2⟩
theorem TupsAt.one {H : Hp} {q : Addr} {c : List V} (h : H q = some (.tup c)) : TupsAt H [q] [c] := ⟨h, trivial⟩
end Kb
namespace Kb
theorem cut1 {α : Type} {R : α → Prop} {P : α → Prop} {A : Prop} (h : (∀ x, P x → R x) → A) (r : ∀ x, P x → R x) : A := h r
end Kb
namespace Kb
theorem ite_y {b : Bool} {A B : Prop} (h : b = true) (q : A) : if b = true then A else B := by rw [if_pos h]; exact q
theorem ite_n {b : Bool} {A B : Prop} (h : b = false) (q : B) : if b = true then A else B := by rw [if_neg (by rw [h]; decide)]; exact q
end Kb
namespace Kb
open PySem PySem.Spec PyProof.Rows L2
/-- an expression is read apart from what follows -/
theorem te_cut {te : TE} {σ : L2.St} {H : Hp} {Q : VK} {R : V → Hp → Prop} (h : ∀ Q' : VK, (∀ v H', R v H' → Q' v H') → te σ H Q') (q : ∀ v H', R v H' → Q v H') : te σ H Q := h Q q
theorem tif_cut {t : TT} {ta tb : TE} {σ : L2.St} {H : Hp} {Q : VK} {R : V → Hp → Prop} (h : ∀ Q' : VK, (∀ v H', R v H' → Q' v H') → tIf t ta tb σ H Q') (q : ∀ v H', R v H' → Q v H') : tIf t ta tb σ H Q := h Q q
end Kb
namespace Kb
open PySem PySem.Spec PyProof.Rows L2
theorem TupsAt.take {H : Hp} : ∀ {qs : List Addr} {cs : List (List V)} (n : Nat), TupsAt H qs cs → TupsAt H (qs.take n) (cs.take n)
  | [], [], n, _ => by simp [TupsAt]
  | _ :: _, _ :: _, 0, _ => trivial
  | _ :: _, _ :: _, n + 1, h => ⟨h.1, TupsAt.take n h.2⟩
end Kb
namespace Kb
open PySem PySem.Spec PyProof.Rows L2
theorem TupsAt.putK {H : Hp} {L : Addr} {kvs : List (L2.Key × V)} {o : HO} (hm : H L = some (.dK kvs)) : ∀ {qs : List Addr} {cs : List (List V)}, TupsAt H qs cs → TupsAt (L2.upd H L o) qs cs
  | [], [], _ => trivial
  | q :: _, c :: _, h => ⟨(upd_ne (fun z => by have := h.1; rw [z, hm] at this; cases this)).trans h.1, TupsAt.putK hm h.2⟩
end Kb
namespace Kb
open PySem PySem.Spec PyProof.Rows L2
theorem TupsAt.set {H : Hp} {q : Addr} {c : List V} (h : H q = some (.tup c)) : ∀ {qs : List Addr} {cs : List (List V)} (n : Nat), TupsAt H qs cs → TupsAt H (qs.set n q) (cs.set n c)
  | [], [], n, _ => by simp [TupsAt]
  | _ :: _, _ :: _, 0, g => ⟨h, g.2⟩
  | _ :: _, _ :: _, n + 1, g => ⟨g.1, TupsAt.set h n g.2⟩
end Kb

namespace Kb
open PySem PySem.Spec PyProof.Rows L2
/-! ### a new list, not the table of modules; repr of a list with an empty dict in it -/
def tLstS (ta : TA) : TE := fun σ H Q => ta σ H fun xs H1 => xs.length ≤ sizeLine ∧ ∀ p, H1 p = none → (p == sysModules) = false → Q (.ref p) (upd H1 p (.lst xs))
section
variable {X : Cx}
theorem pe_lstS {es : List Expr} {ta : TA} {pos : Pos} (h : PA X es ta) : PE X (.List es pos) (tLstS ta) := by
  refine ⟨fun pins s σ H Q I hq => ?_⟩
  refine wpAny_List_spliced (thn (h.run pos pins s σ H _ I hq) fun us s1 ⟨xs, H1, I1, r, z, q⟩ => ⟨by rw [← r.length]; exact z, ?_⟩)
  have fr : H1 s1.heap.objs.size = none := I1.hok.fresh (Nat.le_refl _)
  have nm : (s1.heap.objs.size == sysModules) = false := beq_eq_false_iff_ne.mpr (Nat.ne_of_gt I1.big)
  exact ⟨.ref s1.heap.objs.size, upd H1 s1.heap.objs.size (.lst xs), I1.laid (t' := s1.toks) (fun b u e => Heap.get?_push_of_some _ e) (Nat.le_refl _) ⟨z, us, 0, r, Heap.get?_push_size _ rfl⟩, rfl, q _ fr nm⟩
def rReprE (K : PySem.W.Frag) : List V → Hp → VK → Prop := fun xs H Q => rRepr K xs H Q ∨
  ∃ L d : Addr, xs = [.ref L] ∧ H L = some (.lst [.ref d]) ∧ H d = some (.dK []) ∧ (L == sysModules) = false ∧ Q (.str (PyData.list [.dict []]).shown) H
theorem call_reprE (hu : X.A.units + 65 < cLine) (hg : X.A.guards = some []) : CallR X (.builtin "repr") (rReprE X.K) := by
  intro pins s σ H xs us Q I r h
  rcases h with h | ⟨L, d, rfl, hL, hd, nm, q⟩
  · exact call_reprD hu hg pins s σ H xs us Q I r h
  · obtain ⟨u, rfl, r1⟩ := vals1 r
    cases r1
    obtain ⟨_, its, n, hv, eL⟩ := I.hok L _ hL
    obtain ⟨_, sd, vs, kv, dd⟩ := I.hok d _ hd
    have e1 : its = [.ref d] := by
      cases hv with
      | cons a b => cases b; cases a; rfl
    subst e1
    have e2 : vs = [] := by cases kv; rfl
    subst e2
    obtain ⟨o, es, ep, eo, ex, ed, _, hp, _⟩ := dd
    have hes : es.toList = [] := by
      cases h : es.toList with
      | nil => rfl
      | cons x r => rw [h] at hp; cases hp
    have rd : Reads s.heap (.ref L) (.list [.dict []]) (L :: ((d :: [] ++ []) ++ [])) := by
      refine .list eL rfl rfl (.cons (.dict (kvs := []) eo ex.1 ed ?_ ?_) .nil)
      · rw [hes]; exact .nil
      · rw [hes]; exact .nil
    refine repr_of_reads' rd (by simp [PyData.showable, PyData.showableAll, PyData.showableKv]) (fun _ => ?_) hg (by simp [PyData.depth, PyData.depthAll, PyData.depthKv]; omega) (fun _ _ e => e) (fun h' t tk k => ⟨.str _, H, I.kept (t' := tk) k, ⟨t, rfl⟩, q⟩) ?_
    · have n1 : sysModules ≠ L := fun z => by rw [z] at nm; simp at nm
      have n2 : sysModules ≠ d := fun z => by rw [z] at sd; simp at sd
      simp [n1, n2]
    · decide
end
end Kb

namespace Kb
open PySem PySem.Spec PyProof.Rows L2 TL
/-! ### how long the repr of data is -/
mutual
def wtD : PyData → Nat
  | .none => 4
  | .bool _ => 5
  | .int i => (toString i : Str).length
  | .str x => 10 * x.length + 2
  | .list xs => 3 + wtAll xs
  | .tuple xs => 3 + wtAll xs
  | .dict _ => 0
def wtAll : List PyData → Nat
  | [] => 0
  | x :: xs => wtD x + 2 + wtAll xs
end
mutual
def plainD : PyData → Prop
  | .str x => ∀ c ∈ tl x, c < 128
  | .list xs => plainAll xs
  | .tuple xs => plainAll xs
  | .dict _ => False
  | _ => True
def plainAll : List PyData → Prop
  | [] => True
  | x :: xs => plainD x ∧ plainAll xs
end
theorem textFrom_le : ∀ (ts : List Str) (k : Nat) (acc : Str), (textFrom k acc ts).length ≤ acc.length + (ts.map fun t => t.length + 2).sum
  | [], k, acc => by show acc.length ≤ acc.length + 0; omega
  | t :: r, k, acc => by
    show (textFrom (k + 1) (acc ++ (if k > 0 then ", " else "" : String) ++ t) r).length ≤ _
    have ih := textFrom_le r (k + 1) (acc ++ (if k > 0 then ", " else "" : String) ++ t)
    have h2 : ((if k > 0 then ", " else "" : String) : Str).length ≤ 2 := by
      split
      · decide +kernel
      · decide +kernel
    rw [Str.length_append, Str.length_append] at ih
    rw [List.map_cons, List.sum_cons]
    omega
theorem join_le : ∀ ts : List Str, (Str.join ", " ts).length ≤ (ts.map fun t => t.length + 2).sum
  | [] => by show (0 : Nat) ≤ _; omega
  | t :: r => by
    have := join_length_add (t :: r) (by simp)
    have e : piled (t :: r) = ((t :: r).map fun t => t.length + 2).sum := rfl
    omega
mutual
theorem shown_le : ∀ d : PyData, plainD d → d.shown.length ≤ wtD d
  | .none, _ => by decide +kernel
  | .bool b, _ => by cases b <;> decide +kernel
  | .int i, _ => by simp only [PyData.shown, wtD]; exact Nat.le_refl _
  | .str x, h => by
    simp only [PyData.shown, wtD]
    exact PySem.StrLaws.reprText_len x fun c hc => by
      simp only [plainD] at h
      have := h c hc
      omega
  | .list xs, h => by
    simp only [plainD] at h
    simp only [PyData.shown, wtD, listText]
    have a := textFrom_le (PyData.shownAll xs) 0 "["
    have b := shownAll_le xs h
    rw [Str.length_append]
    have c1 : ("[" : Str).length = 1 := by decide +kernel
    have c2 : ("]" : Str).length = 1 := by decide +kernel
    omega
  | .tuple xs, h => by
    simp only [plainD] at h
    simp only [PyData.shown, wtD, tupleText]
    have a := join_le (PyData.shownAll xs)
    have b := shownAll_le xs h
    rw [Str.length_append, Str.length_append]
    have c1 : ("(" : Str).length = 1 := by decide +kernel
    have c2 : ((if (PyData.shownAll xs).length == 1 then ",)" else ")" : String) : Str).length ≤ 2 := by
      split <;> decide +kernel
    omega
  | .dict _, h => by simp only [plainD] at h
theorem shownAll_le : ∀ xs : List PyData, plainAll xs → ((PyData.shownAll xs).map fun t => t.length + 2).sum ≤ wtAll xs
  | [], _ => by simp [PyData.shownAll, wtAll]
  | x :: xs, h => by
    simp only [plainAll] at h
    have a := shown_le x h.1
    have b := shownAll_le xs h.2
    simp only [PyData.shownAll, wtAll, List.map_cons, List.sum_cons]
    omega
end
theorem shown_fits {d : PyData} (h : plainD d) (hw : wtD d ≤ 1000000) : d.shown.length ≤ sizeLine := Nat.le_trans (Nat.le_trans (shown_le d h) hw) (by decide)
end Kb

namespace Kb
open PySem PySem.Spec PyProof.Rows L2 TL
/-! ### what a law that makes lambdas keeps -/
def qLaw : Str := ("law" : Str) ++ ".<locals>." ++ "<lambda>"
/-- the heap's objects but tables stay, the law's table tells lambdas -/
def LamInv (Tb : Addr) (H H' : Hp) : Prop := LamX.ExtN H H' ∧ LamX.TabS H' Tb qLaw
theorem LamInv.same {Tb : Addr} {H H1 H2 : Hp} (h : LamInv Tb H H1) (s : Same H1 H2) : LamInv Tb H H2 := ⟨h.1.trans (.of s), TabS.same h.2 s⟩
theorem LamInv.ext {Tb : Addr} {H H1 H2 : Hp} (h : LamInv Tb H H1) (e : LamX.ExtN H1 H2) (t : LamX.TabS H2 Tb qLaw) : LamInv Tb H H2 := ⟨h.1.trans e, t⟩
/-- nothing but a table may have stood there -/
def FreshN (H : Hp) (d : Addr) : Prop := ∀ o, H d = some o → ∃ ps, o = .tbl ps
theorem FreshN.of {H H1 : Hp} {d : Addr} (e : LamX.ExtN H H1) (h : H1 d = none) : FreshN H d := fun o ho => by
  cases o with
  | tbl ps => exact ⟨ps, rfl⟩
  | _ => exact absurd ((e _ _ ho fun ps z => by cases z).symm.trans h) (by simp)
theorem LamInv.keep {Tb d : Addr} {H H1 H2 : Hp} {n : Nat} (h : LamInv Tb H H1) (k : Keep d H1 H2) (hd : FreshN H d) (D : DrawAt H1 d n) : LamInv Tb H H2 :=
  ⟨fun b o e m => k b o (h.1 b o e m) fun z => by subst z; obtain ⟨ps, q⟩ := hd o e; exact m ps q, TabS.keepD h.2 k D⟩
theorem LamInv.put {Tb p : Addr} {H H1 : Hp} {xs ys : List V} (h : LamInv Tb H H1) (fr : FreshN H p) (hp : H1 p = some (.lst xs)) : LamInv Tb H (upd H1 p (.lst ys)) := by
  refine ⟨fun b o e m => ?_, ?_⟩
  · have : b ≠ p := fun z => by subst z; obtain ⟨ps, q⟩ := fr o e; exact m ps q
    rw [upd_ne this]; exact h.1 b o e m
  · obtain ⟨ps, h1, h2, h3⟩ := h.2
    have n1 : Tb ≠ p := fun z => by rw [z, hp] at h1; cases h1
    refine ⟨ps, (upd_ne n1).trans h1, h2, fun pos cv hc => ?_⟩
    obtain ⟨c, e1, e2⟩ := h3 pos cv hc
    have n2 : c ≠ p := fun z => by rw [z, hp] at e2; unfold LamX.CodeO at e2; cases e2
    exact ⟨c, e1, (upd_ne n2).trans e2⟩
theorem repr_bb {K : PySem.W.Frag} {H : Hp} {p : Addr} {a b : Bool} (h : SqL K H p [V.bl a, V.bl b]) : Dp K H (.ref p) (.list [.bool a, .bool b]) ∧ (PyData.list [.bool a, .bool b]).showable = true ∧ (PyData.list [.bool a, .bool b]).hasDict = false ∧ (PyData.list [.bool a, .bool b]).shown.length ≤ sizeLine ∧ (PyData.list [.bool a, .bool b]).depth ≤ 64 :=
  ⟨.lst h (.cons (.bl _) (.cons (.bl _) .nil)), rfl, rfl, shown_fits (by simp only [plainD, plainAll, and_self]) (by simp only [wtD, wtAll]; cases a <;> cases b <;> decide), by simp [PyData.depth, PyData.depthAll]⟩
theorem ty_ext {K : PySem.W.Frag} {H H' : Hp} {v : V} {t : Value} (s : LamX.ExtN H H') (h : TyX K H v t) : TyX K H' v t := by
  cases h with
  | base h =>
    refine .base ?_
    cases h with
    | non => exact .non
    | bl x => exact .bl x
    | int i => exact .int i
    | str x => exact .str x
    | flt x => exact .flt x
    | lst e => exact .lst (s _ _ e fun ps z => by cases z)
    | frz e => exact .frz (s _ _ e fun ps z => by cases z)
    | tup e => exact .tup (s _ _ e fun ps z => by cases z)
    | dK e => exact .dK (s _ _ e fun ps z => by cases z)
    | dT e => exact .dT (s _ _ e fun ps z => by cases z)
    | ins e cl ha hn htk hm => exact .ins (s _ _ e fun ps z => by cases z) cl ha hn htk hm
  | byt b => exact .byt b
  | set e => exact .set (s _ _ e fun ps z => by cases z)
  | kList e c => exact .kList e c
  | kTuple e c => exact .kTuple e c
  | kDict e c => exact .kDict e c
  | fTuple e => exact .fTuple (s _ _ e fun ps z => by cases z)
  | fDict e => exact .fDict (s _ _ e fun ps z => by cases z)
end Kb

namespace Kb
open PySem PySem.Spec PyProof.Rows L2 TL
/-! ### draws from a row of great cells: a dict and its list -/
def gkv (m : Int) (g : Addr) (t : Int) : List (L2.Key × V) := [(Sum.inr "mixed", .int m), (Sum.inr "great", .ref g), (Sum.inr "turn", .int t)]
/-- all but the draw and its list is kept -/
def KeepD (d g : Addr) (H H' : Hp) : Prop := ∀ b o, H b = some o → b ≠ d → b ≠ g → H' b = some o
structure GAt (H : Hp) (d g : Addr) (n : Nat) : Prop where
  ne : g ≠ d
  ex : ∃ (gs : List Int) (m t : Int), H d = some (.dK (gkv m g t)) ∧ H g = some (.lst (gs.map V.int)) ∧ gs.length ≤ 64 ∧ (∀ x ∈ gs, 0 ≤ x) ∧ 0 ≤ m ∧ m < 2305843009213693951 ∧ 0 ≤ t ∧ t + (n : Int) ≤ 1000000000
theorem KeepD.refl {d g : Addr} {H : Hp} : KeepD d g H H := fun _ _ h _ _ => h
theorem KeepD.trans {d g : Addr} {H H1 H2 : Hp} (a : KeepD d g H H1) (b : KeepD d g H1 H2) : KeepD d g H H2 := fun c o h n k => b c o (a c o h n k) n k
theorem Same.keepD {d g : Addr} {H H' : Hp} (a : Same H H') : KeepD d g H H' := fun c o h _ _ => a c o h
theorem KeepD.same {d g : Addr} {H H1 H2 : Hp} (a : KeepD d g H H1) (b : Same H1 H2) : KeepD d g H H2 := fun c o h n k => b c o (a c o h n k)
theorem Same.thenD {d g : Addr} {H H1 H2 : Hp} (a : Same H H1) (b : KeepD d g H1 H2) : KeepD d g H H2 := fun c o h n k => b c o (a c o h) n k
theorem KeepD.updD {d g : Addr} {H H' : Hp} {o : HO} (a : KeepD d g H H') : KeepD d g H (upd H' d o) := fun c u h n k => (upd_ne n).trans (a c u h n k)
theorem KeepD.updG {d g : Addr} {H H' : Hp} {o : HO} (a : KeepD d g H H') : KeepD d g H (upd H' g o) := fun c u h n k => (upd_ne k).trans (a c u h n k)
theorem KeepD.updN {d g L : Addr} {H H' : Hp} {o : HO} (k : KeepD d g H H') (h : H L = none) : KeepD d g H (upd H' L o) := fun b q e n m => (upd_ne (fun z => by rw [z, h] at e; cases e)).trans (k b q e n m)
theorem KeepD.newer {d g L : Addr} {H H' : Hp} (k : KeepD d g H H') (n : L ≠ d) (m : L ≠ g) (h : H' L = none) : H L = none := by
  cases e : H L with
  | none => rfl
  | some o => rw [k L o e n m] at h; cases h
theorem GAt.less {H : Hp} {d g : Addr} {n m : Nat} (h : GAt H d g n) (e : m ≤ n) : GAt H d g m := by
  obtain ⟨ne, gs, x, t, h1, h2, h3, h4, h5, h6, h7, h8⟩ := h
  exact ⟨ne, gs, x, t, h1, h2, h3, h4, h5, h6, h7, by omega⟩
theorem GAt.same {H H' : Hp} {d g : Addr} {n : Nat} (h : GAt H d g n) (s : Same H H') : GAt H' d g n := by
  obtain ⟨ne, gs, x, t, h1, h2, h3⟩ := h
  exact ⟨ne, gs, x, t, s _ _ h1, s _ _ h2, h3⟩
theorem GAt.upd {H : Hp} {d g L : Addr} {n : Nat} {o : HO} (h : GAt H d g n) (a : L ≠ d) (b : L ≠ g) : GAt (L2.upd H L o) d g n := by
  obtain ⟨ne, gs, x, t, h1, h2, h3⟩ := h
  exact ⟨ne, gs, x, t, (upd_ne a.symm).trans h1, (upd_ne b.symm).trans h2, h3⟩
theorem GAt.new {H : Hp} {d g L : Addr} {n : Nat} (h : GAt H d g n) (e : H L = none) : L ≠ d ∧ L ≠ g := by
  obtain ⟨ne, gs, x, t, h1, h2, h3⟩ := h
  exact ⟨(fun z => by rw [z, h1] at e; cases e), (fun z => by rw [z, h2] at e; cases e)⟩
theorem GAt.tup {H : Hp} {d g q : Addr} {n : Nat} {c : List V} (h : GAt H d g n) (e : H q = some (.tup c)) : q ≠ d ∧ q ≠ g := by
  obtain ⟨ne, gs, x, t, h1, h2, h3⟩ := h
  exact ⟨(fun z => by rw [z, h1] at e; cases e), (fun z => by rw [z, h2] at e; cases e)⟩
theorem KeepD.tups {d g : Addr} {n : Nat} {H H' : Hp} (k : KeepD d g H H') (D : GAt H d g n) : ∀ {qs : List Addr} {cs : List (List V)}, TupsAt H qs cs → TupsAt H' qs cs
  | [], [], _ => trivial
  | q :: _, c :: _, h => ⟨k _ _ h.1 (D.tup h.1).1 (D.tup h.1).2, KeepD.tups k D h.2⟩
theorem GAt.put {H : Hp} {d g q : Addr} {n : Nat} {c : List V} {o : HO} (h : GAt H d g n) (e : H q = some (.tup c)) : (L2.upd H d o) q = some (HO.tup c) ∧ (L2.upd H g o) q = some (HO.tup c) :=
  ⟨(upd_ne (h.tup e).1).trans e, (upd_ne (h.tup e).2).trans e⟩
theorem gne1 : ¬ (("mixed" : Str) = "great") := by decide +kernel
theorem gne2 : ¬ (("mixed" : Str) = "turn") := by decide +kernel
theorem gne3 : ¬ (("great" : Str) = "turn") := by decide +kernel
theorem gkv_merge (m : Int) (g : Addr) (t : Int) : mergeK [] (gkv m g t) = gkv m g t := by
  simp [mergeK, gkv, putK, gne1, gne2, gne3]
theorem gget_mixed {H : Hp} {d g : Addr} {m t : Int} (h : H d = some (.dK (gkv m g t))) : DGet H d (.str "mixed") (some (.int m)) := by
  have e := DGet.k (k := (Sum.inr "mixed" : Key)) h
  rw [show valV (gkv m g t) (Sum.inr "mixed" : Key) = some (.int m) by simp [valV, gkv]] at e
  exact e
theorem gget_great {H : Hp} {d g : Addr} {m t : Int} (h : H d = some (.dK (gkv m g t))) : DGet H d (.str "great") (some (.ref g)) := by
  have e := DGet.k (k := (Sum.inr "great" : Key)) h
  rw [show valV (gkv m g t) (Sum.inr "great" : Key) = some (.ref g) by simp [valV, gkv, gne1]] at e
  exact e
theorem gget_turn {H : Hp} {d g : Addr} {m t : Int} (h : H d = some (.dK (gkv m g t))) : DGet H d (.str "turn") (some (.int t)) := by
  have e := DGet.k (k := (Sum.inr "turn" : Key)) h
  rw [show valV (gkv m g t) (Sum.inr "turn" : Key) = some (.int t) by simp [valV, gkv, gne2, gne3]] at e
  exact e
theorem gput_mixed {H : Hp} {d g : Addr} {m t : Int} (x : Int) (h : H d = some (.dK (gkv m g t))) : DPut H d (.str "mixed") (.int x) (upd H d (.dK (gkv x g t))) := by
  have e := DPut.k (k := (Sum.inr "mixed" : Key)) (v := .int x) h (Nat.lt_of_lt_of_le (by show 3 < 10; decide) (by decide))
  rw [show putK (gkv m g t) (Sum.inr "mixed" : Key) (.int x) = gkv x g t by simp [putK, gkv, Ne.symm gne1, Ne.symm gne2]] at e
  exact e
theorem gput_turn {H : Hp} {d g : Addr} {m t : Int} (x : Int) (h : H d = some (.dK (gkv m g t))) : DPut H d (.str "turn") (.int x) (upd H d (.dK (gkv m g x))) := by
  have e := DPut.k (k := (Sum.inr "turn" : Key)) (v := .int x) h (Nat.lt_of_lt_of_le (by show 3 < 10; decide) (by decide))
  rw [show putK (gkv m g t) (Sum.inr "turn" : Key) (.int x) = gkv m g x by simp [putK, gkv, gne2, gne3]] at e
  exact e
end Kb

namespace Kb
open PySem PySem.Spec PyProof.Rows L2 TL
/-! ### str of data -/
def textD : PyData → Str
  | .str x => x
  | d => d.shown
def rStrD (K : PySem.W.Frag) : List V → Hp → VK → Prop := fun xs H Q => ∃ x d, xs = [x] ∧ Dp K H x d ∧ d.showable = true ∧ d.hasDict = false ∧ (textD d).length ≤ sizeLine ∧ d.depth ≤ 60 ∧ Q (.str (textD d)) H
section
variable {X : Cx}
theorem call_strD (hu : X.A.units + 65 < cLine) (hg : X.A.guards = some []) : CallR X (.type "str") (rStrD X.K) := by
  intro pins s σ H xs us Q I r ⟨x, d, e, hd, hs, hn, hz, hp, q⟩
  subst e
  obtain ⟨u, rfl, r1⟩ := vals1 r
  obtain ⟨as, rd⟩ := Dp.reads I d x u hd r1
  have ref : ∀ a : Addr, u = .ref a → d.shown.length ≤ sizeLine → Q (.str d.shown) H → wpAny (model X.prog X.w) X.A (call (Value.type "str") [u]) (EP X pins σ Q) X.xe s := fun a e hz q => by
    subst e
    exact str_of_reads rd hs (fun q => by rw [hn] at q; cases q) hg (by omega) (fun _ _ e => e) (fun h' t tk k => ⟨.str d.shown, H, I.kept (t' := tk) k, ⟨t, rfl⟩, q⟩) hz
  cases rd with
  | none => exact PySem.P.str_of_none ⟨.str "None", H, I.tok _, ⟨_, rfl⟩, q⟩
  | bool b => exact PySem.P.str_of_bool ⟨.str (if b then "True" else "False"), H, I.tok _, ⟨_, rfl⟩, q⟩
  | int i t => exact PySem.P.str_of_int (by simpa [PyData.showable] using hs) ⟨.str (toString i), H, I.tok _, ⟨_, rfl⟩, q⟩
  | str y t => exact PySem.P.str_of_str ⟨.str y, H, I, ⟨_, rfl⟩, q⟩
  | list h1 h2 h3 h4 => exact ref _ rfl hz q
  | tuple h1 h2 h3 h4 => exact ref _ rfl hz q
  | dict h1 h2 h3 h4 h5 => exact ref _ rfl hz q
end
end Kb
namespace Kb
open PySem PySem.Spec PyProof.Rows L2 TL
mutual
theorem Dp.ext {K : PySem.W.Frag} {H H' : Hp} (e : LamX.ExtN H H') : ∀ {v : V} {d : PyData}, Dp K H v d → Dp K H' v d
  | _, _, .non => .non
  | _, _, .bl b => .bl b
  | _, _, .int i => .int i
  | _, _, .str x => .str x
  | _, _, .lst s a => .lst (Kb.ExtN.seqL e s) (DpAll.ext e a)
  | _, _, .tup s a => .tup (Kb.ExtN.seqT e s) (DpAll.ext e a)
theorem DpAll.ext {K : PySem.W.Frag} {H H' : Hp} (e : LamX.ExtN H H') : ∀ {vs : List V} {ds : List PyData}, DpAll K H vs ds → DpAll K H' vs ds
  | _, _, .nil => .nil
  | _, _, .cons a b => .cons (Dp.ext e a) (DpAll.ext e b)
end
theorem Dp.same {K : PySem.W.Frag} {H H' : Hp} {v : V} {d : PyData} (h : Dp K H v d) (s : Same H H') : Dp K H' v d := Dp.ext (.of s) h
/-! ### the repr of plain data is plain -/
theorem repr_lt : ∀ c, c < 128 → (Builtin.Str.reprChar 39 c).all (· < 128) = true ∧ (Builtin.Str.reprChar 34 c).all (· < 128) = true := by decide +kernel
theorem foldl_lt (q : Nat) (hq : q = 39 ∨ q = 34) : ∀ (l : List Nat) (acc : Array Nat), (∀ c ∈ l, c < 128) → (∀ c ∈ acc.toList, c < 128) → ∀ c ∈ (l.foldl (fun out c => out ++ (Builtin.Str.reprChar q c).toArray) acc).toList, c < 128
  | [], acc, _, h => h
  | x :: l, acc, hl, h => by
    refine foldl_lt q hq l _ (fun c hc => hl c (List.mem_cons_of_mem _ hc)) fun c hc => ?_
    rw [Array.toList_append] at hc
    rcases List.mem_append.mp hc with z | z
    · exact h c z
    · obtain ⟨h1, h2⟩ := repr_lt x (hl x (List.mem_cons_self ..))
      rcases hq with rfl | rfl
      · exact of_decide_eq_true (List.all_eq_true.mp h1 c (by simpa using z))
      · exact of_decide_eq_true (List.all_eq_true.mp h2 c (by simpa using z))
theorem quote_is (x : Str) : reprQuote x = 39 ∨ reprQuote x = 34 := by
  unfold reprQuote
  split
  · exact .inr rfl
  · exact .inl rfl
theorem ascii_repr {x : Str} (h : ascii x) : ascii (reprText x) := by
  have hq := quote_is x
  intro c hc
  unfold reprText at hc
  have hc : c ∈ ((x.cps.foldl (fun out c => out ++ (Builtin.Str.reprChar (reprQuote x) c).toArray) #[reprQuote x]).push (reprQuote x)).toList := hc
  rw [Array.toList_push, ← Array.foldl_toList] at hc
  have q128 : reprQuote x < 128 := by rcases hq with e | e <;> rw [e] <;> decide
  rcases List.mem_append.mp hc with z | z
  · exact foldl_lt _ hq _ _ h (fun d hd => by rw [List.mem_singleton.mp (show d ∈ [reprQuote x] from hd)]; exact q128) c z
  · rw [List.mem_singleton.mp z]; exact q128
theorem ascii_textFrom : ∀ (ts : List Str) (k : Nat) (acc : Str), ascii acc → (∀ t ∈ ts, ascii t) → ascii (textFrom k acc ts)
  | [], k, acc, h, _ => h
  | t :: r, k, acc, h, ht => by
    show ascii (textFrom (k + 1) (acc ++ (if k > 0 then ", " else "" : String) ++ t) r)
    refine ascii_textFrom r _ _ ((h.app ?_).app (ht t (List.mem_cons_self ..))) fun x hx => ht x (List.mem_cons_of_mem _ hx)
    split
    · exact ascii_lit (by decide +kernel)
    · exact ascii_lit (by decide +kernel)
theorem ascii_listText {ts : List Str} (h : ∀ t ∈ ts, ascii t) : ascii (listText ts) := by
  unfold listText
  exact (ascii_textFrom ts 0 _ (ascii_lit (by decide +kernel)) h).app (ascii_lit (by decide +kernel))
theorem ascii_sjoin {sep : Str} (hs : ascii sep) : ∀ ts : List Str, (∀ t ∈ ts, ascii t) → ascii (Str.join sep ts)
  | [], _ => by unfold Str.join; exact ascii_lit (by decide +kernel)
  | [x], h => by unfold Str.join; exact h x (List.mem_cons_self ..)
  | x :: y :: r, h => by
    unfold Str.join
    exact ((h x (List.mem_cons_self ..)).app hs).app (ascii_sjoin hs (y :: r) fun t ht => h t (List.mem_cons_of_mem _ ht))
theorem ascii_tupleText {ts : List Str} (h : ∀ t ∈ ts, ascii t) : ascii (tupleText ts) := by
  unfold tupleText
  refine ((ascii_lit (by decide +kernel)).app (ascii_sjoin (ascii_lit (by decide +kernel)) ts h)).app ?_
  split
  · exact ascii_lit (by decide +kernel)
  · exact ascii_lit (by decide +kernel)
/-- data whose repr and str can be told -/
structure OkD (d : PyData) : Prop where
  s : d.showable = true
  n : d.hasDict = false
  p : plainD d
  w : wtD d ≤ 5000
  z : d.depth ≤ 10
  l : d.canLay0 = true
  a : ascii d.shown
def DatV (K : PySem.W.Frag) (H : Hp) (v : V) : Prop := ∃ d, OkD d ∧ Dp K H v d
theorem OkD.shown {d : PyData} (h : OkD d) : d.shown.length ≤ sizeLine := shown_fits h.p (Nat.le_trans h.w (by decide))
theorem OkD.shaped {d : PyData} (h : OkD d) : SeqAt.shaped d = true := by
  unfold SeqAt.shaped
  rw [h.l, decide_eq_true (Nat.le_trans h.z (by decide))]; rfl
theorem OkD.str {x : Str} (h : ascii x) (hl : x.length ≤ 400) : OkD (.str x) := ⟨rfl, rfl, by simp only [plainD]; exact h, by simp only [wtD]; omega, by simp [PyData.depth], lay_str h, by simp only [PyData.shown]; exact ascii_repr h⟩
theorem OkD.non : OkD .none := ⟨rfl, rfl, trivial, by decide, by decide, by decide, ascii_lit (by decide +kernel)⟩
theorem OkD.bool (b : Bool) : OkD (.bool b) := ⟨rfl, rfl, trivial, by cases b <;> decide, by cases b <;> decide, by cases b <;> decide, by cases b <;> exact ascii_lit (by decide +kernel)⟩
theorem OkD.five : OkD (.int 5) := ⟨by decide +kernel, rfl, trivial, by decide +kernel, by decide, by decide +kernel, ascii_lit (by decide +kernel)⟩
end Kb
namespace Kb
open PySem PySem.Spec PyProof.Rows L2 TL
/-- data of moderate size -/
structure SmD (d : PyData) : Prop where
  o : OkD d
  w : wtD d ≤ 900
  z : d.depth ≤ 4
theorem sm_all : ∀ ds : List PyData, (∀ d ∈ ds, SmD d) → PyData.showableAll ds = true ∧ PyData.hasDictAll ds = false ∧ plainAll ds ∧ wtAll ds ≤ 902 * ds.length ∧ PyData.depthAll ds ≤ 4 ∧ PyData.canLayAll0 ds = true ∧ ∀ t ∈ PyData.shownAll ds, ascii t
  | [], _ => by simp [PyData.showableAll, PyData.hasDictAll, plainAll, wtAll, PyData.depthAll, PyData.canLayAll0, PyData.shownAll]
  | d :: ds, h => by
    obtain ⟨a, b, c⟩ := h d (List.mem_cons_self ..)
    obtain ⟨i1, i2, i3, i4, i5, i6, i7⟩ := sm_all ds fun x hx => h x (List.mem_cons_of_mem _ hx)
    refine ⟨by simp [PyData.showableAll, a.s, i1], by simp [PyData.hasDictAll, a.n, i2], by simp only [plainAll]; exact ⟨a.p, i3⟩, ?_, ?_, by simp [PyData.canLayAll0, a.l, i6], fun t ht => ?_⟩
    · simp only [wtAll, List.length_cons]; omega
    · simp only [PyData.depthAll]; omega
    · simp only [PyData.shownAll] at ht
      rcases List.mem_cons.mp ht with rfl | q
      · exact a.a
      · exact i7 t q
theorem SmD.list {ds : List PyData} (h : ∀ d ∈ ds, SmD d) (hl : ds.length ≤ 5) : OkD (.list ds) := by
  obtain ⟨i1, i2, i3, i4, i5, i6, i7⟩ := sm_all ds h
  exact ⟨by simp [PyData.showable, i1], by simp [PyData.hasDict, i2], by simp only [plainD]; exact i3, by simp only [wtD]; omega, by simp only [PyData.depth]; omega, by simp [PyData.canLay0, i6], by simp only [PyData.shown]; exact ascii_listText i7⟩
theorem SmD.tuple {ds : List PyData} (h : ∀ d ∈ ds, SmD d) (hl : ds.length ≤ 5) : OkD (.tuple ds) := by
  obtain ⟨i1, i2, i3, i4, i5, i6, i7⟩ := sm_all ds h
  exact ⟨by simp [PyData.showable, i1], by simp [PyData.hasDict, i2], by simp only [plainD]; exact i3, by simp only [wtD]; omega, by simp only [PyData.depth]; omega, by simp [PyData.canLay0, i6], by simp only [PyData.shown]; exact ascii_tupleText i7⟩
theorem SmD.str {x : Str} (h : ascii x) (hl : x.length ≤ 60) : SmD (.str x) := ⟨OkD.str h (by omega), by simp only [wtD]; omega, by simp [PyData.depth]⟩
theorem SmD.non : SmD .none := ⟨OkD.non, by decide, by decide⟩
/-- a tuple of texts and nothing else -/
theorem shaped_pair {x y : Str} (hx : ascii x) (hy : ascii y) : SeqAt.shaped (.tuple [.str x, .str y]) = true := by
  have h1 := lay_str hx
  have h2 := lay_str hy
  simp only [PyData.canLay0] at h1 h2
  simp [SeqAt.shaped, PyData.canLay0, PyData.canLayAll0, PyData.depth, PyData.depthAll, h1, h2]
theorem SmD.all1 {a : PyData} (ha : SmD a) : ∀ d ∈ [a], SmD d := fun d hd => by rw [List.mem_singleton.mp hd]; exact ha
theorem SmD.all2 {a b : PyData} (ha : SmD a) (hb : SmD b) : ∀ d ∈ [a, b], SmD d := fun d hd => by
  simp only [List.mem_cons, List.not_mem_nil, or_false] at hd
  rcases hd with rfl | rfl
  · exact ha
  · exact hb
theorem SmD.all3 {a b c : PyData} (ha : SmD a) (hb : SmD b) (hc : SmD c) : ∀ d ∈ [a, b, c], SmD d := fun d hd => by
  simp only [List.mem_cons, List.not_mem_nil, or_false] at hd
  rcases hd with rfl | rfl | rfl
  · exact ha
  · exact hb
  · exact hc
end Kb
namespace Kb
open PySem PySem.Spec PyProof.Rows L2 TL
theorem shaped_all : ∀ ds : List PyData, (∀ d ∈ ds, d.canLay0 = true ∧ d.depth ≤ 60) → PyData.canLayAll0 ds = true ∧ PyData.depthAll ds ≤ 60
  | [], _ => by simp [PyData.canLayAll0, PyData.depthAll]
  | a :: r, h => by
    obtain ⟨h1, h2⟩ := h a (List.mem_cons_self ..)
    obtain ⟨h3, h4⟩ := shaped_all r fun d hd => h d (List.mem_cons_of_mem _ hd)
    exact ⟨by simp [PyData.canLayAll0, h1, h3], by simp only [PyData.depthAll]; omega⟩
theorem shaped_list {ds : List PyData} (h : ∀ d ∈ ds, d.canLay0 = true ∧ d.depth ≤ 60) : SeqAt.shaped (.list ds) = true := by
  obtain ⟨h1, h2⟩ := shaped_all ds h
  unfold SeqAt.shaped
  simp only [PyData.canLay0, PyData.depth, h1, Bool.true_and]
  exact decide_eq_true (by omega)
theorem shaped_tuple {ds : List PyData} (h : ∀ d ∈ ds, d.canLay0 = true ∧ d.depth ≤ 60) : SeqAt.shaped (.tuple ds) = true := by
  obtain ⟨h1, h2⟩ := shaped_all ds h
  unfold SeqAt.shaped
  simp only [PyData.canLay0, PyData.depth, h1, Bool.true_and]
  exact decide_eq_true (by omega)
theorem eqv_same {d : PyData} (h : SeqAt.shaped d = true) : PyData.eqv d d = true := SeqAt.eqv_refl _ (SeqAt.canLay_of_shaped h)
end Kb
namespace Kb
open PySem PySem.Spec PyProof.Rows L2 TL
theorem OkD.text {d : PyData} (h : OkD d) : (textD d).length ≤ 5000 := by
  have a := shown_le d h.p
  have b := h.w
  cases d with
  | str x => simp only [wtD] at b; show x.length ≤ 5000; omega
  | none => exact Nat.le_trans a b
  | bool _ => exact Nat.le_trans a b
  | int _ => exact Nat.le_trans a b
  | list _ => exact Nat.le_trans a b
  | tuple _ => exact Nat.le_trans a b
  | dict _ => exact Nat.le_trans a b
end Kb

namespace Kb
open PySem PySem.Spec PyProof.Rows L2 TL
/-! ### data whose repr is told, by weight and depth -/
structure RpD (d : PyData) (B k : Nat) : Prop where
  s : d.showable = true
  n : d.hasDict = false
  p : plainD d
  w : wtD d ≤ B
  z : d.depth ≤ k
theorem RpD.mono {d : PyData} {B k B' k' : Nat} (h : RpD d B k) (hB : B ≤ B') (hk : k ≤ k') : RpD d B' k' := ⟨h.s, h.n, h.p, Nat.le_trans h.w hB, Nat.le_trans h.z hk⟩
theorem RpD.str {x : Str} {m : Nat} (h : ascii x) (hl : x.length ≤ m) : RpD (.str x) (10 * m + 2) 0 := ⟨rfl, rfl, by simp only [plainD]; exact h, by simp only [wtD]; omega, by simp [PyData.depth]⟩
theorem RpD.non : RpD .none 4 0 := ⟨rfl, rfl, trivial, by simp [wtD], by simp [PyData.depth]⟩
theorem RpD.bool (b : Bool) : RpD (.bool b) 5 0 := ⟨rfl, rfl, trivial, by simp [wtD], by simp [PyData.depth]⟩
theorem rp_all {B k : Nat} : ∀ ds : List PyData, (∀ d ∈ ds, RpD d B k) → PyData.showableAll ds = true ∧ PyData.hasDictAll ds = false ∧ plainAll ds ∧ wtAll ds ≤ (B + 2) * ds.length ∧ PyData.depthAll ds ≤ k
  | [], _ => by simp [PyData.showableAll, PyData.hasDictAll, plainAll, wtAll, PyData.depthAll]
  | d :: ds, h => by
    have a := h d (List.mem_cons_self ..)
    obtain ⟨i1, i2, i3, i4, i5⟩ := rp_all ds fun x hx => h x (List.mem_cons_of_mem _ hx)
    refine ⟨by simp [PyData.showableAll, a.s, i1], by simp [PyData.hasDictAll, a.n, i2], by simp only [plainAll]; exact ⟨a.p, i3⟩, ?_, ?_⟩
    · have := a.w
      simp only [wtAll, List.length_cons]
      rw [Nat.mul_succ]
      omega
    · have := a.z
      simp only [PyData.depthAll]; omega
theorem RpD.list {B k m : Nat} {ds : List PyData} (h : ∀ d ∈ ds, RpD d B k) (hl : ds.length ≤ m) : RpD (.list ds) (3 + (B + 2) * m) (k + 1) := by
  obtain ⟨i1, i2, i3, i4, i5⟩ := rp_all ds h
  have : (B + 2) * ds.length ≤ (B + 2) * m := Nat.mul_le_mul_left _ hl
  exact ⟨by simp [PyData.showable, i1], by simp [PyData.hasDict, i2], by simp only [plainD]; exact i3, by simp only [wtD]; omega, by simp only [PyData.depth]; omega⟩
theorem RpD.tuple {B k m : Nat} {ds : List PyData} (h : ∀ d ∈ ds, RpD d B k) (hl : ds.length ≤ m) : RpD (.tuple ds) (3 + (B + 2) * m) (k + 1) := by
  obtain ⟨i1, i2, i3, i4, i5⟩ := rp_all ds h
  have : (B + 2) * ds.length ≤ (B + 2) * m := Nat.mul_le_mul_left _ hl
  exact ⟨by simp [PyData.showable, i1], by simp [PyData.hasDict, i2], by simp only [plainD]; exact i3, by simp only [wtD]; omega, by simp only [PyData.depth]; omega⟩
theorem RpD.shown {d : PyData} {B k : Nat} (h : RpD d B k) (hB : B ≤ 1000000) : d.shown.length ≤ sizeLine := shown_fits h.p (Nat.le_trans h.w hB)
/-- what the rule of repr asks -/
theorem RpD.repr {K : PySem.W.Frag} {H : Hp} {x : V} {d : PyData} {B k : Nat} {Q : VK} (h : RpD d B k) (hB : B ≤ 1000000) (hk : k ≤ 64) (hd : Dp K H x d) (q : Q (.str d.shown) H) : rRepr K [x] H Q :=
  ⟨x, d, rfl, hd, h.s, h.n, h.shown hB, Nat.le_trans h.z hk, q⟩
end Kb

namespace Kb
open PySem PySem.Spec PyProof.Rows L2 TL
/-! ### what is told is right -/
theorem lookL_in {z : Str} {v : V} : ∀ {l : List (Str × V)}, lookL l z = some v → ∃ p ∈ l, v = p.2
  | [], h => by cases h
  | p :: r, h => by
    unfold lookL at h
    split at h
    · exact ⟨p, List.mem_cons_self .., (Option.some.inj h).symm⟩
    · obtain ⟨q, hq, e⟩ := lookL_in h; exact ⟨q, List.mem_cons_of_mem _ hq, e⟩
theorem defTab_word {z : Str} {d : V} (h : lookL defTab z = some d) : ∃ w, d = .str w ∧ keepsB (some w) = false := by
  obtain ⟨p, hp, rfl⟩ := lookL_in h
  simp only [defTab, List.mem_cons, List.not_mem_nil, or_false] at hp
  rcases hp with rfl | rfl | rfl | rfl | rfl | rfl <;> exact ⟨_, rfl, by decide +kernel⟩
/-- a piece of an attribute with a value that counts tells something -/
theorem keep_told {z : Str} {v : Option Str} {kv : List (L2.Key × V)} (h : keepsB (wordR z v kv) = true) (hf : flagB z = false) : ∃ x, v = some x ∧ x.length ≤ 1024 ∧ nonB (toldR z x) = false := by
  have no : ∀ w, keepsB (some w) = false → defR z v = some w → False := fun w hw e => by unfold wordR at h; rw [e] at h; rw [show keepsB (some w) = true from h] at hw; cases hw
  cases v with
  | none =>
    exfalso
    by_cases e1 : z = ""
    · exact no "nothing" (by decide +kernel) (by unfold defR; rw [if_pos ⟨e1, rfl⟩])
    cases ht : lookL defTab z with
    | none => exact no "unknown" (by decide +kernel) (by unfold defR; rw [if_neg (fun q => e1 q.1), if_pos ⟨hf, by rw [ht]; rfl⟩])
    | some d =>
      obtain ⟨w, rfl, hw⟩ := defTab_word ht
      exact no w hw (by unfold defR; rw [if_neg (fun q => e1 q.1), if_neg (fun q => by rw [ht] at q; exact absurd (show true = false from q.2) (by decide)), if_neg (by decide), if_neg (by rw [hf]; decide), if_pos rfl, ht])
  | some x =>
    have n0 : ¬ (z = "" ∧ (some x).isNone = true) := fun q => absurd (show false = true from q.2) (by decide)
    cases ht : lookL defTab z with
    | none => exact (no "unknown" (by decide +kernel) (by unfold defR; rw [if_neg n0, if_pos ⟨hf, by rw [ht]; rfl⟩])).elim
    | some d =>
      obtain ⟨w, rfl, hw⟩ := defTab_word ht
      have n1 : ¬ (flagB z = false ∧ (some (V.str w)).isSome = false) := fun q => absurd (show true = false from q.2) (by decide)
      by_cases hl : 1024 < x.length
      · exact (no "long" (by decide +kernel) (by unfold defR; rw [if_neg n0, ht, if_neg n1, if_pos (show decide (1024 < x.length) = true from decide_eq_true hl)])).elim
      · refine ⟨x, rfl, by omega, ?_⟩
        cases hn : nonB (toldR z x) with
        | false => rfl
        | true => exact (no w hw (by unfold defR; rw [if_neg n0, ht, if_neg n1, if_neg (fun q => hl (of_decide_eq_true (show decide (1024 < x.length) = true from q))), if_neg (by rw [hf]; decide), if_pos (show nonB (toldR z x) = true from hn)])).elim
def ToldOk (kv : List (L2.Key × V)) : Prop := ∀ (z : Str) (v : V), valV kv (.inr z) = some v → (flagB z = true ∧ v = .bl true) ∨ (flagB z = false ∧ ∃ x, v = toldR z x ∧ nonB v = false)
theorem stepJ_ok {st : List (Int × Str) × List (L2.Key × V)} {i : Int} {c : Str × Option Str} (h : ToldOk st.2) : ToldOk (stepJ st i c).2 := by
  unfold stepJ
  by_cases hk : keepsB (wordR (lowS c.1) c.2 st.2) = true
  · show ToldOk (if _ then _ else _)
    rw [if_pos hk]
    intro z v hv
    rw [valV_put] at hv
    by_cases e : (Sum.inr z : L2.Key) = Sum.inr (lowS c.1)
    · rw [if_pos e] at hv
      have ez : z = lowS c.1 := Sum.inr.inj e
      have hv := Option.some.inj hv
      subst hv
      unfold worthR
      cases hf : flagB (lowS c.1) with
      | true => exact .inl ⟨by rw [ez]; exact hf, by rw [if_pos rfl]⟩
      | false =>
        obtain ⟨x, ex, _, hn⟩ := keep_told hk hf
        rw [if_neg (by decide), ex]
        exact .inr ⟨by rw [ez]; exact hf, x, by rw [ez]; rfl, hn⟩
    · rw [if_neg e] at hv
      exact h z v hv
  · show ToldOk (if _ then _ else _)
    rw [if_neg hk]
    exact h
theorem runJ_ok : ∀ (L : List (Str × Option Str)) (i : Int) (st : List (Int × Str) × List (L2.Key × V)), ToldOk st.2 → ToldOk (runJ i L st).2
  | [], _, _, h => h
  | c :: r, i, st, h => runJ_ok r (i + 1) _ (stepJ_ok h)
end Kb

namespace Kb
open PySem PySem.Spec PyProof.Rows L2 TL
/-! ### joined tokens -/
def tokOk (t : List Nat) : Prop := t ≠ [] ∧ ∀ s ∈ t, tokB s = true
theorem toks_run : ∀ (t acc l : List Nat), (∀ s ∈ t, tokB s = true) → toks acc (t ++ l) = toks (acc ++ t) l
  | [], acc, l, _ => by rw [List.append_nil]; rfl
  | c :: t, acc, l, h => by
    rw [List.cons_append, toks, if_pos (h c (List.mem_cons_self ..)), toks_run t _ l fun s hs => h s (List.mem_cons_of_mem _ hs), List.append_assoc]; rfl
theorem toks_skip : ∀ (s l : List Nat), (∀ c ∈ s, tokB c = false) → toks [] (s ++ l) = toks [] l
  | [], l, _ => rfl
  | c :: s, l, h => by
    rw [List.cons_append, toks, if_neg (by rw [h c (List.mem_cons_self ..)]; exact Bool.false_ne_true), if_pos rfl, toks_skip s l fun x hx => h x (List.mem_cons_of_mem _ hx)]
theorem toks_sep {acc s l : List Nat} (ha : acc ≠ []) (hs : s ≠ []) (h : ∀ c ∈ s, tokB c = false) : toks acc (s ++ l) = acc :: toks [] l := by
  obtain ⟨c, r, rfl⟩ := List.exists_cons_of_ne_nil hs
  rw [List.cons_append, toks, if_neg (by rw [h c (List.mem_cons_self ..)]; exact Bool.false_ne_true), if_neg ha, toks_skip r l fun x hx => h x (List.mem_cons_of_mem _ hx)]
theorem toks_join {s : List Nat} (hs : s ≠ []) (h : ∀ c ∈ s, tokB c = false) : ∀ T : List (List Nat), (∀ t ∈ T, tokOk t) → toks [] (joinL s T) = T
  | [], _ => rfl
  | [t], hT => by
    obtain ⟨h1, h2⟩ := hT t (List.mem_singleton.mpr rfl)
    show toks [] t = _
    have := toks_run t [] [] h2
    rw [List.append_nil, List.nil_append] at this
    rw [this, toks, if_neg h1]
  | t :: u :: r, hT => by
    obtain ⟨h1, h2⟩ := hT t (List.mem_cons_self ..)
    show toks [] (t ++ (s ++ joinL s (u :: r))) = _
    rw [toks_run t [] _ h2, List.nil_append, toks_sep h1 hs h, toks_join hs h (u :: r) fun x hx => hT x (List.mem_cons_of_mem _ hx)]
theorem date_join {s : Str} {T : List Str} (hs : tl s ≠ []) (h : ∀ c ∈ tl s, tokB c = false) (hT : ∀ t ∈ T, tokOk (tl t)) : dateR (tl (Txt.join s T)) = dateF T := by
  unfold dateR
  rw [join_tl, toks_join hs h _ fun l hl => by obtain ⟨t, ht, rfl⟩ := List.mem_map.mp hl; exact hT t ht, ← ts_mk rfl]
/-! ### four tokens, each for its part -/
theorem partI_eq (f : Fnd) (l : List Nat) : partI f l = if (!hasP f 0 && fits 0 l) = true then some 0 else if (!hasP f 1 && fits 1 l) = true then some 1 else if (!hasP f 2 && fits 2 l) = true then some 2 else if (!hasP f 3 && fits 3 l) = true then some 3 else none := by
  unfold partI
  rw [show List.range 4 = [0, 1, 2, 3] by decide]
  simp only [List.find?_cons, List.find?_nil]
  cases (!hasP f 0 && fits 0 l) <;> cases (!hasP f 1 && fits 1 l) <;> cases (!hasP f 2 && fits 2 l) <;> cases (!hasP f 3 && fits 3 l) <;> rfl
structure KT (l : List Nat) : Prop where
  a : fits 0 l = true
  b : fits 1 l = false
  c : fits 2 l = false
  d : fits 3 l = false
structure KD (l : List Nat) : Prop where
  a : fits 0 l = false
  b : fits 1 l = true
  c : fits 2 l = false
structure KM (l : List Nat) : Prop where
  a : fits 0 l = false
  b : fits 1 l = false
  c : fits 2 l = true
  d : fits 3 l = false
structure KY (l : List Nat) : Prop where
  a : fits 0 l = false
  b : fits 1 l = false
  c : fits 2 l = false
  d : fits 3 l = true
theorem few_none {T : List Str} (h : T.length < 4) : dateF T = none := by
  have : ∀ (T : List Str) (f : Fnd), (T.foldl stepD f).length ≤ f.length + T.length := by
    intro T
    induction T with
    | nil => intro f; exact Nat.le_refl _
    | cons t T ih =>
      intro f
      have h1 := ih (stepD f t)
      have h2 := (stepD_len f t).2
      rw [List.foldl_cons, List.length_cons]
      omega
  have h1 := this T []
  unfold dateF
  rw [if_pos (by simp at h1; omega)]
section
variable {a b c d e x : Str}
theorem run4 (ha : KT (tl a)) (hb : KD (tl b)) (hc : KM (tl c)) (hd : KY (tl d)) : dateF [a, b, c, d] = tickI (tl a) (tl b) (tl c) (tl d) ∧ dateF [a, b, c, d, e] = tickI (tl a) (tl b) (tl c) (tl d) := by
  obtain ⟨a0, a1, a2, a3⟩ := ha
  obtain ⟨b0, b1, b2⟩ := hb
  obtain ⟨c0, c1, c2, c3⟩ := hc
  obtain ⟨d0, d1, d2, d3⟩ := hd
  constructor <;> (simp [dateF, stepD, partI_eq, hasP, getP, *])
theorem run5_0 (ha : KT (tl a)) (hb : KD (tl b)) (hc : KM (tl c)) (hd : KY (tl d)) (x0 : fits 0 (tl x) = false) (x1 : fits 1 (tl x) = false) (x2 : fits 2 (tl x) = false) (x3 : fits 3 (tl x) = false) :
    dateF [x, b, c, d] = none ∧ dateF [x, b, c, d, a] = tickI (tl a) (tl b) (tl c) (tl d) := by
  obtain ⟨a0, a1, a2, a3⟩ := ha
  obtain ⟨b0, b1, b2⟩ := hb
  obtain ⟨c0, c1, c2, c3⟩ := hc
  obtain ⟨d0, d1, d2, d3⟩ := hd
  constructor <;> (simp [dateF, stepD, partI_eq, hasP, getP, *])
theorem run5_1 (ha : KT (tl a)) (hb : KD (tl b)) (hc : KM (tl c)) (hd : KY (tl d)) (x0 : fits 0 (tl x) = false) (x1 : fits 1 (tl x) = false) (x2 : fits 2 (tl x) = false) (x3 : fits 3 (tl x) = false) :
    dateF [a, x, c, d] = none ∧ dateF [a, x, c, d, b] = tickI (tl a) (tl b) (tl c) (tl d) := by
  obtain ⟨a0, a1, a2, a3⟩ := ha
  obtain ⟨b0, b1, b2⟩ := hb
  obtain ⟨c0, c1, c2, c3⟩ := hc
  obtain ⟨d0, d1, d2, d3⟩ := hd
  constructor <;> (simp [dateF, stepD, partI_eq, hasP, getP, *])
theorem run5_2 (ha : KT (tl a)) (hb : KD (tl b)) (hc : KM (tl c)) (hd : KY (tl d)) (x0 : fits 0 (tl x) = false) (x1 : fits 1 (tl x) = false) (x2 : fits 2 (tl x) = false) (x3 : fits 3 (tl x) = false) :
    dateF [a, b, x, d] = none ∧ dateF [a, b, x, d, c] = tickI (tl a) (tl b) (tl c) (tl d) := by
  obtain ⟨a0, a1, a2, a3⟩ := ha
  obtain ⟨b0, b1, b2⟩ := hb
  obtain ⟨c0, c1, c2, c3⟩ := hc
  obtain ⟨d0, d1, d2, d3⟩ := hd
  constructor <;> (simp [dateF, stepD, partI_eq, hasP, getP, *])
theorem run5_3 (ha : KT (tl a)) (hb : KD (tl b)) (hc : KM (tl c)) (hd : KY (tl d)) (x0 : fits 0 (tl x) = false) (x2 : fits 2 (tl x) = false) (x3 : fits 3 (tl x) = false) :
    dateF [a, b, c, x] = none ∧ dateF [a, b, c, x, d] = tickI (tl a) (tl b) (tl c) (tl d) := by
  obtain ⟨a0, a1, a2, a3⟩ := ha
  obtain ⟨b0, b1, b2⟩ := hb
  obtain ⟨c0, c1, c2, c3⟩ := hc
  obtain ⟨d0, d1, d2, d3⟩ := hd
  constructor <;> (simp [dateF, stepD, partI_eq, hasP, getP, *])
end
end Kb
namespace Kb
open PySem PySem.Spec PyProof.Rows L2 TL
/-! ### drawn tokens -/
def num2B (n : Nat) : Bool := digB (numL n) && (decide ((numL n).length ≤ 2) && decide (NumText.digitsVal (numL n) = n))
theorem num2_ok : ∀ n, n < 100 → num2B n = true := by decide +kernel
theorem num2 {n : Nat} (h : n < 100) : digB (numL n) = true ∧ (numL n).length ≤ 2 ∧ valL (numL n) = n := by
  have := num2_ok n h
  unfold num2B at this
  simp only [Bool.and_eq_true, decide_eq_true_eq] at this
  exact ⟨this.1, this.2.1, by unfold valL; rw [this.2.2]⟩
theorem num_dig (n : Nat) : digB (numL n) = true := by
  rw [digB_iff]
  refine ⟨fun c hc => ?_, ?_⟩
  · obtain ⟨ch, hch, e⟩ := List.mem_map.mp (show c ∈ (Nat.toDigits 10 n).map Char.toNat from hc)
    have r := PyProof.Rows.digit_range (Nat.isDigit_of_mem_toDigits (by decide) (by decide) hch)
    rw [← e]
    exact r
  · intro e
    have h1 := tDigits_len_ge 10 n
    have h2 : ((Nat.toDigits 10 n).map Char.toNat).length = 0 := by
      have e : (Nat.toDigits 10 n).map Char.toNat = [] := e
      rw [e]; rfl
    rw [List.length_map] at h2
    omega
theorem num4 {n : Nat} (h : 1000 ≤ n) (h2 : n < 10000) : digB (numL n) = true ∧ (numL n).length = 4 ∧ valL (numL n) = n := by
  refine ⟨num_dig n, ?_, ?_⟩
  · have a := digits10_le (k := 4) (by decide) (show n < 10 ^ 4 by omega)
    have b := digits10_ge (k := 3) (show 10 ^ 3 ≤ n by omega)
    show ((Nat.toDigits 10 n).map Char.toNat).length = 4
    rw [List.length_map]
    omega
  · unfold valL
    have := PySem.W.KIN.val_back n
    show ((NumText.digitsVal ((Nat.toDigits 10 n).map Char.toNat) : Nat) : Int) = n
    rw [this]
theorem dig_no58 {l : List Nat} (h : digB l = true) : 58 ∉ l := fun m => by
  have := (digB_iff.mp h).1 58 m
  omega
theorem dig_nolet {l : List Nat} (h : digB l = true) : onlyB lettL l = false := by
  obtain ⟨h1, h2⟩ := digB_iff.mp h
  obtain ⟨c, r, rfl⟩ := List.exists_cons_of_ne_nil h2
  have hc := h1 c (List.mem_cons_self ..)
  have key : ∀ c, c < 58 → decide (c ∈ lettL) = false := by decide +kernel
  unfold onlyB
  rw [List.all_cons, key c (by omega), Bool.false_and, Bool.false_and]
theorem dig_tok {l : List Nat} (h : digB l = true) : tokOk l := by
  obtain ⟨h1, h2⟩ := digB_iff.mp h
  refine ⟨h2, fun s hs => ?_⟩
  unfold tokB
  rw [decide_eq_true (digs_iff.mpr (h1 s hs))]
  simp
theorem KD_of {l : List Nat} (h : digB l = true) (h2 : l.length ≤ 2) : KD l := by
  refine ⟨?_, ?_, ?_⟩
  · show fitT l = false
    unfold fitT
    rw [sp1_of_free (dig_no58 h)]
    simp
  · show fitD l = true
    unfold fitD
    rw [h, decide_eq_true h2]; rfl
  · show fitM l = false
    unfold fitM
    rw [dig_nolet h, Bool.false_and]
theorem KY_of {l : List Nat} (h : digB l = true) (h2 : l.length = 4) : KY l := by
  refine ⟨?_, ?_, ?_, ?_⟩
  · show fitT l = false
    unfold fitT
    rw [sp1_of_free (dig_no58 h)]
    simp
  · show fitD l = false
    unfold fitD
    rw [h, h2]; rfl
  · show fitM l = false
    unfold fitM
    rw [dig_nolet h, Bool.false_and]
  · show fitY l = true
    unfold fitY
    rw [h, h2]; rfl
def timeL (p q r : List Nat) : List Nat := joinL [58] [p, q, r]
theorem time_sp {p q r : List Nat} (hp : digB p = true) (hq : digB q = true) (hr : digB r = true) : sp1 58 (timeL p q r) = [p, q, r] :=
  sp1_joinL (by simp) fun l hl => by
    simp only [List.mem_cons, List.not_mem_nil, or_false] at hl
    rcases hl with rfl | rfl | rfl
    · exact dig_no58 hp
    · exact dig_no58 hq
    · exact dig_no58 hr
theorem time_mem (p q r : List Nat) : 58 ∈ timeL p q r := by
  show 58 ∈ p ++ ([58] ++ joinL [58] [q, r])
  simp
theorem KT_of {p q r : List Nat} (hp : digB p = true) (hq : digB q = true) (hr : digB r = true) (lp : p.length ≤ 2) (lq : q.length ≤ 2) (lr : r.length ≤ 2) : KT (timeL p q r) ∧ tokOk (timeL p q r) := by
  have nd : digB (timeL p q r) = false := by
    rw [Bool.eq_false_iff]
    exact fun h => dig_no58 h (time_mem p q r)
  refine ⟨⟨?_, ?_, ?_, ?_⟩, ⟨fun e => (by have := time_mem p q r; rw [e] at this; cases this), fun s hs => ?_⟩⟩
  · show fitT _ = true
    unfold fitT
    rw [time_sp hp hq hr]
    simp [hp, hq, hr, lp, lq, lr]
  · show fitD _ = false
    unfold fitD
    rw [nd, Bool.false_and]
  · show fitM _ = false
    unfold fitM onlyB
    have : (timeL p q r).all (fun c => decide (c ∈ lettL)) = false := by
      rw [List.all_eq_false]
      exact ⟨58, time_mem p q r, by decide +kernel⟩
    rw [this, Bool.false_and, Bool.false_and]
  · show fitY _ = false
    unfold fitY
    rw [nd, Bool.false_and]
  · have hs : s ∈ p ++ ([58] ++ (q ++ ([58] ++ r))) := hs
    simp only [List.mem_append, List.mem_singleton] at hs
    rcases hs with h | rfl | h | rfl | h
    · exact (dig_tok hp).2 s h
    · decide
    · exact (dig_tok hq).2 s h
    · decide
    · exact (dig_tok hr).2 s h
theorem tick_of {p q r d m y : List Nat} (hp : digB p = true) (hq : digB q = true) (hr : digB r = true) : tickI (timeL p q r) d m y =
    if 23 < valL p ∨ 59 < valL q ∨ 59 < valL r ∨ yearI y < 1601 then none else if ¬ (1 ≤ valL d ∧ valL d ≤ domI (yearI y) (monI m)) then none else if yearI y < 1970 then some 0 else
      some ((dbfI (yearI y) + dbmI (yearI y) (monI m) + valL d - 1) * 86400 + valL p * 3600 + valL q * 60 + valL r) := by
  unfold tickI
  rw [time_sp hp hq hr]
  rfl
def mon15 : List Str := ["jan", "Feb", "MAR", "april", "May", "jun", "JULY", "aug", "Sep", "oct", "Nov", "decem"]
def monB (i : Nat) (c : Str) : Bool := !fits 0 (tl c) && (!fits 1 (tl c) && (fits 2 (tl c) && (!fits 3 (tl c) && (decide (monI (tl c) = i + 1) && ((tl c).all tokB && (decide (tl c ≠ []) && ((tl c).all (· < 128) && decide (c.length ≤ 10))))))))
theorem mon15_ok : ∀ i, i < 12 → monB i (mon15.getD i "") = true := by decide +kernel
theorem mon15_at {c : Str} (h : c ∈ mon15) : ∃ i, i < 12 ∧ c = mon15.getD i "" ∧ KM (tl c) ∧ monI (tl c) = i + 1 ∧ tokOk (tl c) ∧ ascii c ∧ c.length ≤ 10 := by
  obtain ⟨i, hi⟩ := List.mem_iff_getElem?.mp h
  have hi2 : i < 12 := (List.getElem?_eq_some_iff.mp hi).1
  have e : mon15.getD i "" = c := by rw [List.getD_eq_getElem?_getD, hi]; rfl
  have := mon15_ok i hi2
  rw [e] at this
  unfold monB at this
  simp only [Bool.and_eq_true, Bool.not_eq_true', decide_eq_true_eq] at this
  obtain ⟨h0, h1, h2, h3, h4, h5, h6, h7, h8⟩ := this
  exact ⟨i, hi2, e.symm, ⟨h0, h1, h2, h3⟩, h4, ⟨h6, fun s hs => List.all_eq_true.mp h5 s hs⟩, ascii_lit h7, h8⟩
/-- drawn right tokens -/
structure G15 (a b c d : Str) (hh mm ss dd yy : Nat) : Prop where
  ea : tl a = timeL (numL hh) (numL mm) (48 :: numL ss)
  h1 : hh < 24
  h2 : mm < 60
  h3 : ss < 10
  eb : tl b = numL dd
  h4 : 1 ≤ dd ∧ dd ≤ 28
  ec : c ∈ mon15
  ed : tl d = numL yy
  h5 : 1601 ≤ yy ∧ yy ≤ 9999
theorem sec_ok : ∀ n, n < 10 → digB (48 :: numL n) = true ∧ (48 :: numL n).length ≤ 2 ∧ valL (48 :: numL n) = n := by
  have : ∀ n, n < 10 → (digB (48 :: numL n) && (decide ((48 :: numL n).length ≤ 2) && decide (NumText.digitsVal (48 :: numL n) = n))) = true := by decide +kernel
  intro n hn
  have := this n hn
  simp only [Bool.and_eq_true, decide_eq_true_eq] at this
  exact ⟨this.1, this.2.1, by unfold valL; rw [this.2.2]⟩
theorem dom_ge (y : Int) {m : Nat} (h1 : 1 ≤ m) (h2 : m ≤ 12) : 28 ≤ domI y m := by
  have key : ∀ i, i < 12 → (28 : Int) ≤ monD.getD i 0 := by decide
  unfold domI
  split
  · omega
  · exact key (m - 1) (by omega)
theorem year4 {l : List Nat} (h : l.length = 4) : yearI l = valL l := by unfold yearI; rw [if_pos (by omega)]
theorem G15.facts {a b c d : Str} {hh mm ss dd yy : Nat} (g : G15 a b c d hh mm ss dd yy) : KT (tl a) ∧ KD (tl b) ∧ KM (tl c) ∧ KY (tl d) ∧ (tokOk (tl a) ∧ tokOk (tl b) ∧ tokOk (tl c) ∧ tokOk (tl d)) ∧ yearI (tl d) = yy ∧ ∃ n, tickI (tl a) (tl b) (tl c) (tl d) = some n := by
  obtain ⟨a1, a2, a3⟩ := num2 (n := hh) (by have := g.h1; omega)
  obtain ⟨b1, b2, b3⟩ := num2 (n := mm) (by have := g.h2; omega)
  obtain ⟨c1, c2, c3⟩ := sec_ok ss g.h3
  obtain ⟨d1, d2, d3⟩ := num2 (n := dd) (by have := g.h4; omega)
  obtain ⟨e1, e2, e3⟩ := num4 (n := yy) (by have := g.h5; omega) (by have := g.h5; omega)
  obtain ⟨i, hi, _, km, em, tm, _⟩ := mon15_at g.ec
  obtain ⟨kt, tt⟩ := KT_of a1 b1 c1 a2 b2 c2
  have yv : yearI (tl d) = yy := by rw [g.ed, year4 e2, e3]
  refine ⟨by rw [g.ea]; exact kt, by rw [g.eb]; exact KD_of d1 d2, km, by rw [g.ed]; exact KY_of e1 e2, ⟨by rw [g.ea]; exact tt, by rw [g.eb]; exact dig_tok d1, tm, by rw [g.ed]; exact dig_tok e1⟩, yv, ?_⟩
  rw [g.ea, tick_of a1 b1 c1, yv, g.eb, d3, a3, b3, c3]
  have h1 := g.h1
  have h2 := g.h2
  have h3 := g.h3
  have h4 := g.h4
  have h5 := g.h5
  have hd := dom_ge (yy : Int) (m := monI (tl c)) (by omega) (by omega)
  rw [if_neg (by omega), if_neg (by omega)]
  split
  · exact ⟨_, rfl⟩
  · exact ⟨_, rfl⟩
end Kb
namespace Kb
open PySem PySem.Spec PyProof.Rows L2 TL
/-- a tuple as the target of a comprehension: the kit's frame is named -/
theorem pg_tupB {X : Cx} {pos : Pos} {es : List Expr} {k : Nat} {t : TGs} {n : Nat} (K' : PySem.W.Frag) (hK : X.K = K') (hc : X.calm = true) (h : PGs X es t)
    (hn : (assignEach es X.env).length = n := by rfl) (hst : (assignEach es X.env).findIdx? (·.1) = none := by rfl) : PG X (.Tuple es k pos) (gTup K' n t) := by
  subst hK
  exact pg_tup hc h hn hst
end Kb
namespace Kb
open PySem PySem.Spec PyProof.Rows L2 TL
section
variable {K : PySem.W.Frag} {a : Addr} {xs : List V}
/-- a comprehension over enumerate(list) -/
theorem lc_enum {g : TG} {tt : TT} {te : TE} {vs : List Nat} {σ : L2.St} {H1 : Hp} {D : Addr} {Qd : Hp → Prop} (Pv : Nat → Hp → Prop) (h0 : Pv 0 (upd H1 D (.lst []))) (hG : ∀ i H, i ≤ xs.length → Pv i H → SqL K H a xs)
    (hs : ∀ i x T H, xs[i]? = some x → Pv i H → H T = none → g (.ref T) (wipe σ vs) (upd H T (.tup [.int (i : Nat), x])) fun σ2 H2 => wipe σ2 vs = wipe σ vs ∧ tt σ2 H2 fun b H3 =>
      if b = true then te σ2 H3 fun y H4 => ∃ acc, H4 D = some (.lst acc) ∧ acc.length < sizeLine ∧ Pv (i + 1) (upd H4 D (.lst (acc ++ [y]))) else Pv (i + 1) H3) (hd : ∀ H, Pv xs.length H → Qd H) :
    ∃ W : Nat → Nat → Hp → Prop, (∃ m, W 0 m (upd H1 D (.lst []))) ∧ ∀ i m H, W i m H →
      ((Ite K a).stop i H ∧ Qd H) ∨ ((Ite K a).go i H ∧ ∃ Nx : Hp → Prop, (∀ H', Nx H' → ∃ m', m' < m ∧ W (i + 1) m' H') ∧ ∀ x H', (Ite K a).yld i H x H' → g x (wipe σ vs) H' fun σ2 H2 => wipe σ2 vs = wipe σ vs ∧ tt σ2 H2 fun b H3 =>
        if b = true then te σ2 H3 fun y H4 => ∃ acc, H4 D = some (.lst acc) ∧ acc.length < sizeLine ∧ Nx (upd H4 D (.lst (acc ++ [y]))) else Nx H3) := by
  refine lc_it walk_enum Pv h0 hG (fun i x H H' hi p y => ?_) hd
  obtain ⟨T, x, y, rfl, hT, rfl, h1, h2⟩ := y
  cases h1
  exact hs i y T H h2 p hT
end
end Kb
namespace Kb
open PySem PySem.Spec PyProof.Rows L2 TL
/-! ### tokens out of their range -/
def low3 (c : Str) : Str := cutS (Txt.lower c) none (some 3)
def mon30 : List Str := ["apr", "jun", "sep", "nov"]
def lowB (i : Nat) : Bool := (decide (low3 (mon15.getD i "") ∈ mon30) == decide (i ∈ [3, 5, 8, 10])) && ((decide (low3 (mon15.getD i "") = ("feb" : Str)) == decide (i = 1)) && decide ((mon15.getD i "").length ≤ 100))
theorem low_ok : ∀ i, i < 12 → lowB i = true := by decide +kernel
theorem most_dom (y : Int) : ∀ i, i < 12 → (if i = 1 then 28 + (if leapB y = true then 1 else 0) else if i ∈ [3, 5, 8, 10] then 30 else 31 : Int) = domI y (i + 1) := by
  intro i hi
  by_cases h1 : i = 1
  · subst h1
    unfold domI
    cases leapB y <;> decide
  · have key : ∀ i, i < 12 → i ≠ 1 → (if i ∈ [3, 5, 8, 10] then 30 else 31 : Int) = monD.getD i 0 := by decide
    rw [if_neg h1, key i hi h1]
    unfold domI
    rw [if_neg (by omega)]; rfl
theorem most_ok {c : Str} (h : c ∈ mon15) : (Txt.lower c).length ≤ 1000 ∧ ∃ q f : Bool, decide (low3 c ∈ mon30) = q ∧ decide (V.str (low3 c) = V.str "feb") = f ∧ ∀ y, (if f = true then 28 + (if leapB y = true then 1 else 0) else if q = true then 30 else 31 : Int) = domI y (monI (tl c)) := by
  obtain ⟨i, hi, e, _, em, _, ac, lc⟩ := mon15_at h
  have := low_ok i hi
  unfold lowB at this
  rw [← e] at this
  simp only [Bool.and_eq_true, beq_iff_eq, decide_eq_true_eq] at this
  obtain ⟨h1, h2, _⟩ := this
  refine ⟨by rw [len_tl, lower_tl ac, List.length_map, ← len_tl]; omega, _, decide (i = 1), h1, ?_, fun y => ?_⟩
  · rw [← h2, Bool.eq_iff_iff, decide_eq_true_eq, decide_eq_true_eq, V.str.injEq]
  · rw [em, ← most_dom y i hi]
    simp only [decide_eq_true_eq]
def Bey (a b c e : Str) (i : Nat) (x : Str) : Prop := tokOk (tl x) ∧ x.length ≤ 10 ∧ ascii x ∧
  ((i = 0 ∧ KT (tl x) ∧ tickI (tl x) (tl b) (tl c) (tl e) = none) ∨ (i = 1 ∧ KD (tl x) ∧ tickI (tl a) (tl x) (tl c) (tl e) = none) ∨ (i = 3 ∧ KY (tl x) ∧ tickI (tl a) (tl b) (tl c) (tl x) = none))
theorem low3_len (c : Str) : (low3 c).length ≤ 3 := by
  have := cut_len (x := Txt.lower c) (lo := none) (hi := some 3)
  rw [len_tl]
  unfold low3
  rw [cutS_to _ (by decide)]
  show ((tl (Txt.lower c)).take 3).length ≤ 3
  rw [List.length_take]; omega
theorem dig_ascii {l : List Nat} (h : digB l = true) : ∀ s ∈ l, s < 128 := fun s hs => by have := (digB_iff.mp h).1 s hs; omega
theorem time_ascii {p q r : List Nat} (hp : digB p = true) (hq : digB q = true) (hr : digB r = true) : ∀ s ∈ timeL p q r, s < 128 := fun s hs => by
  have hs : s ∈ p ++ ([58] ++ (q ++ ([58] ++ r))) := hs
  simp only [List.mem_append, List.mem_singleton] at hs
  rcases hs with h | rfl | h | rfl | h
  · exact dig_ascii hp s h
  · decide
  · exact dig_ascii hq s h
  · decide
  · exact dig_ascii hr s h
theorem bey_time {a b c e x : Str} {p q r : List Nat} (hp : digB p = true) (hq : digB q = true) (hr : digB r = true) (lp : p.length ≤ 2) (lq : q.length ≤ 2) (lr : r.length ≤ 2) (bad : 23 < valL p ∨ 59 < valL q ∨ 59 < valL r) (et : tl x = timeL p q r) : Bey a b c e 0 x := by
  obtain ⟨kt, tt⟩ := KT_of hp hq hr lp lq lr
  refine ⟨by rw [et]; exact tt, ?_, fun s hs => time_ascii hp hq hr s (by rw [← et]; exact hs), .inl ⟨rfl, by rw [et]; exact kt, ?_⟩⟩
  · rw [len_tl, et]
    show (p ++ ([58] ++ (q ++ ([58] ++ r)))).length ≤ 10
    simp only [List.length_append, List.length_singleton]
    omega
  · rw [et, tick_of hp hq hr, if_pos (by omega)]
theorem bey_day {a b c e x : Str} {hh mm ss dd yy : Nat} (g : G15 a b c e hh mm ss dd yy) (hx : digB (tl x) = true) (lx : (tl x).length ≤ 2) (bad : valL (tl x) < 1 ∨ domI (yy : Int) (monI (tl c)) < valL (tl x)) : Bey a b c e 1 x := by
  obtain ⟨a1, _⟩ := num2 (n := hh) (by have := g.h1; omega)
  obtain ⟨b1, _⟩ := num2 (n := mm) (by have := g.h2; omega)
  obtain ⟨c1, _⟩ := sec_ok ss g.h3
  obtain ⟨_, _, _, _, _, yv, _⟩ := g.facts
  refine ⟨dig_tok hx, by rw [len_tl]; omega, fun s hs => dig_ascii hx s hs, .inr (.inl ⟨rfl, KD_of hx lx, ?_⟩)⟩
  rw [g.ea, tick_of a1 b1 c1, yv]
  split
  · rfl
  · rw [if_pos (by omega)]
theorem bey_year {a b c e x : Str} {hh mm ss dd yy : Nat} (g : G15 a b c e hh mm ss dd yy) (hx : digB (tl x) = true) (lx : (tl x).length = 4) (bad : valL (tl x) < 1601) : Bey a b c e 3 x := by
  obtain ⟨a1, _⟩ := num2 (n := hh) (by have := g.h1; omega)
  obtain ⟨b1, _⟩ := num2 (n := mm) (by have := g.h2; omega)
  obtain ⟨c1, _⟩ := sec_ok ss g.h3
  refine ⟨dig_tok hx, by rw [len_tl]; omega, fun s hs => dig_ascii hx s hs, .inr (.inr ⟨rfl, KY_of hx lx, ?_⟩)⟩
  rw [g.ea, tick_of a1 b1 c1, year4 lx, if_pos (by omega)]
end Kb
namespace Kb
open PySem PySem.Spec PyProof.Rows L2 TL
theorem dom_le (y : Int) {m : Nat} (h1 : 1 ≤ m) (h2 : m ≤ 12) : domI y m ≤ 31 := by
  have key : ∀ i, i < 12 → monD.getD i 0 ≤ (31 : Int) := by decide
  unfold domI
  split
  · omega
  · exact key (m - 1) (by omega)
theorem nlog (m : Nat) (h : m < 20000) : ((m : Nat) : Int).natAbs.log2 < 1920 := by
  have : ((m : Nat) : Int).natAbs < 2 ^ 15 := by rw [Int.natAbs_natCast]; omega
  exact Nat.lt_of_lt_of_le (PySem.Flt.log2_lt_of (by decide) this) (by decide)
end Kb
namespace Kb
open PySem PySem.Spec PyProof.Rows L2 TL
/-! ### tokens of another form -/
def othL : List (List Str) := [["8:49", "1:2:3:4", "108:49:37", "8::37", ":1:1", "8:49:", "8:049:7", "8:49:37a", "8:49:37:", ":8:49:37", "a8:49:37", "8:4:9pm"], ["6th", "x6", "123", "1a", "006", "1st"],
  ["no", "nv", "nov1", "jannn0", "j", "xyz", "ma", "1ov", "sunday"], ["199", "19945", "1", "1994a", "x1994", "199400"]]
def othB (i : Nat) (x : Str) : Bool := (tl x).all tokB && (decide (tl x ≠ []) && (decide (x.length ≤ 10) && ((tl x).all (· < 128) && (!fits 0 (tl x) && (!fits 2 (tl x) && (!fits 3 (tl x) && (decide (i = 3) || !fits 1 (tl x))))))))
theorem oth_ok : ∀ i, i < 4 → ∀ x ∈ othL.getD i [], othB i x = true := by decide +kernel
structure Oth (i : Nat) (x : Str) : Prop where
  tok : tokOk (tl x)
  len : x.length ≤ 10
  asc : ascii x
  x0 : fits 0 (tl x) = false
  x2 : fits 2 (tl x) = false
  x3 : fits 3 (tl x) = false
  x1 : i = 3 ∨ fits 1 (tl x) = false
theorem oth_of {i : Nat} (hi : i < 4) {x : Str} (hx : x ∈ othL.getD i []) : Oth i x := by
  have := oth_ok i hi x hx
  unfold othB at this
  simp only [Bool.and_eq_true, Bool.or_eq_true, Bool.not_eq_true', decide_eq_true_eq] at this
  obtain ⟨h1, h2, h3, h4, h5, h6, h7, h8⟩ := this
  exact ⟨⟨h2, fun s hs => List.all_eq_true.mp h1 s hs⟩, h3, ascii_lit h4, h5, h6, h7, h8⟩
end Kb
namespace Kb
open PySem PySem.Spec PyProof.Rows L2 TL
/-- a token of a short joined text -/
structure Tk (t : Str) : Prop where
  tok : tokOk (tl t)
  asc : ascii t
  len : t.length ≤ 40
theorem Bey.tk {a b c e x : Str} {i : Nat} (h : Bey a b c e i x) : Tk x := ⟨h.1, h.2.2.1, by have := h.2.1; omega⟩
theorem Oth.tk {i : Nat} {x : Str} (h : Oth i x) : Tk x := ⟨h.tok, h.asc, by have := h.len; omega⟩
theorem G15.tks {a b c d : Str} {hh mm ss dd yy : Nat} (g : G15 a b c d hh mm ss dd yy) : ∀ t ∈ [a, b, c, d], Tk t ∧ t.length ≤ 10 := by
  obtain ⟨a1, a2, _⟩ := num2 (n := hh) (by have := g.h1; omega)
  obtain ⟨b1, b2, _⟩ := num2 (n := mm) (by have := g.h2; omega)
  obtain ⟨c1, c2, _⟩ := sec_ok ss g.h3
  obtain ⟨d1, d2, _⟩ := num2 (n := dd) (by have := g.h4; omega)
  obtain ⟨e1, e2, _⟩ := num4 (n := yy) (by have := g.h5; omega) (by have := g.h5; omega)
  obtain ⟨i, hi, _, km, em, tm, ac, lc⟩ := mon15_at g.ec
  obtain ⟨kt, tt⟩ := KT_of a1 b1 c1 a2 b2 c2
  intro t ht
  simp only [List.mem_cons, List.not_mem_nil, or_false] at ht
  rcases ht with rfl | rfl | rfl | rfl
  · have l : t.length ≤ 8 := by
      rw [len_tl, g.ea]
      show (numL hh ++ ([58] ++ (numL mm ++ ([58] ++ (48 :: numL ss))))).length ≤ 8
      simp only [List.length_append, List.length_singleton, List.length_cons, List.length_nil] at c2 ⊢
      omega
    exact ⟨⟨by rw [g.ea]; exact tt, fun s hs => time_ascii a1 b1 c1 s (by rw [← g.ea]; exact hs), by omega⟩, by omega⟩
  · have l : t.length ≤ 2 := by rw [len_tl, g.eb]; exact d2
    exact ⟨⟨by rw [g.eb]; exact dig_tok d1, fun s hs => dig_ascii d1 s (by rw [← g.eb]; exact hs), by omega⟩, by omega⟩
  · exact ⟨⟨tm, ac, by omega⟩, lc⟩
  · have l : t.length = 4 := by rw [len_tl, g.ed]; exact e2
    exact ⟨⟨by rw [g.ed]; exact dig_tok e1, fun s hs => dig_ascii e1 s (by rw [← g.ed]; exact hs), by omega⟩, by omega⟩
def sig15 : List Str := [" ", "-", ", ", "/"]
def sigB (s : Str) : Bool := decide (tl s ≠ []) && ((tl s).all (fun c => !tokB c && decide (c < 128)) && decide (s.length ≤ 2))
structure Sg (s : Str) : Prop where
  ne : tl s ≠ []
  no : ∀ c ∈ tl s, tokB c = false
  asc : ascii s
  len : s.length ≤ 2
theorem sg_of : ∀ {s : Str}, s ∈ sig15 → Sg s := by
  have key : ∀ s ∈ sig15, sigB s = true := by decide +kernel
  intro s hs
  have := key s hs
  unfold sigB at this
  simp only [Bool.and_eq_true, decide_eq_true_eq, List.all_eq_true, Bool.not_eq_true'] at this
  exact ⟨this.1, fun c hc => (this.2.1 c hc).1, fun c hc => (this.2.1 c hc).2, this.2.2⟩
theorem join_ascii {s : Str} {T : List Str} (hs : ascii s) (hT : ∀ t ∈ T, ascii t) : ascii (Txt.join s T) := by
  have : ∀ T : List Str, (∀ t ∈ T, ascii t) → ∀ c ∈ joinL (tl s) (T.map tl), c < 128 := by
    intro T
    induction T with
    | nil => intro _ c hc; cases hc
    | cons t r ih =>
      intro h c hc
      cases r with
      | nil => exact h t (List.mem_cons_self ..) c hc
      | cons u r =>
        have hc : c ∈ tl t ++ (tl s ++ joinL (tl s) ((u :: r).map tl)) := hc
        rcases List.mem_append.mp hc with q | q
        · exact h t (List.mem_cons_self ..) c q
        · rcases List.mem_append.mp q with q | q
          · exact hs c q
          · exact ih (fun x hx => h x (List.mem_cons_of_mem _ hx)) c q
  intro c hc
  rw [join_tl] at hc
  exact this T hT c hc
/-- what is joined is short -/
theorem join_len {s : Str} {T : List Str} (hs : s.length ≤ 2) (hT : ∀ t ∈ T, t.length ≤ 40) (n : T.length ≤ 20) : (T.map (·.length)).sum + T.length * s.length ≤ 1000 ∧ (Txt.join s T).length ≤ 1000 := by
  have h1 : (T.map (·.length)).sum ≤ T.length * 40 := PySem.StrLaws.sumLen_le (B := 40) T hT
  have h2 : T.length * s.length ≤ T.length * 2 := Nat.mul_le_mul_left _ hs
  have h3 : ∀ T : List Str, (joinL (tl s) (T.map tl)).length ≤ (T.map (·.length)).sum + T.length * s.length := by
    intro T
    induction T with
    | nil => exact Nat.zero_le _
    | cons t r ih =>
      cases r with
      | nil =>
        show (tl t).length ≤ (t.length + 0) + 1 * s.length
        rw [← len_tl]; omega
      | cons u r =>
        show (tl t ++ (tl s ++ joinL (tl s) ((u :: r).map tl))).length ≤ _
        rw [List.length_append, List.length_append, ← len_tl, ← len_tl, List.map_cons (l := u :: r), List.sum_cons, List.length_cons, Nat.succ_mul]
        omega
  have h4 := h3 T
  have h5 : (Txt.join s T).length = (joinL (tl s) (T.map tl)).length := by rw [len_tl, join_tl]
  omega
end Kb
namespace Kb
open PySem PySem.Spec PyProof.Rows L2 TL
def some15 : List Str := ["", " ", "GMT", "1", "31 feb 2000 1:1:1", "29 feb 1900 1:1:1", "29 feb 2100 1:1:1", "30 feb 2024 0:0:0", "6 nov 94 8:49:37:", "6th nov 1994 8:49:37"]
theorem some15_ok : ∀ s ∈ some15, s.length ≤ 100 ∧ (tl s).all (· < 128) = true ∧ dateR (tl s) = none := by decide +kernel
theorem leap15 : dateR (tl ("29 feb 2000 0:0:0" : Str)) = some 951782400 := by decide +kernel
end Kb

namespace Kb
open PySem PySem.Spec PyProof.Rows L2 TL
/-! ### the calendar -/
def ydI (y : Int) : Int := if leapB y = true then 366 else 365
theorem leap_iff (y : Int) : leapB y = true ↔ y % 4 = 0 ∧ (y % 100 ≠ 0 ∨ y % 400 = 0) := by
  unfold leapB
  simp only [Bool.and_eq_true, Bool.or_eq_true, decide_eq_true_eq]
theorem dto_succ (y : Int) : dtoI (y + 1) = dtoI y + ydI y := by
  unfold dtoI ydI
  by_cases h : leapB y = true
  · rw [if_pos h]
    rw [leap_iff] at h
    omega
  · rw [if_neg h]
    rw [leap_iff] at h
    omega
theorem dto_400 (y r : Int) : dtoI (y + 400 * r) = dtoI y + 146097 * r := by
  unfold dtoI
  omega
theorem dto_years (a : Int) : ∀ n : Nat, ((List.range n).map fun i => ydI (a + (i : Nat))).sum = dtoI (a + (n : Nat)) - dtoI a
  | 0 => by simp
  | n + 1 => by
    rw [List.range_succ, List.map_append, List.sum_append, dto_years a n]
    have := dto_succ (a + (n : Nat))
    simp only [List.map_cons, List.map_nil, List.sum_cons, List.sum_nil]
    rw [show a + ((n + 1 : Nat) : Int) = a + (n : Nat) + 1 by omega, this]
    omega
theorem dto_base : dtoI 1970 - dtoI 1601 = 134774 := by decide
/-- the law's count of the days before a year -/
theorem dto_walk {y : Int} (h : 1601 ≤ y) : 146097 * ((y - 1601) / 400) + ((List.range (y - (1601 + 400 * ((y - 1601) / 400))).toNat).map fun i => ydI (1601 + 400 * ((y - 1601) / 400) + (i : Nat))).sum - 134774 = dbfI y := by
  rw [dto_years, dto_400]
  have h2 : 1601 + 400 * ((y - 1601) / 400) + ((y - (1601 + 400 * ((y - 1601) / 400))).toNat : Int) = y := by omega
  rw [h2]
  unfold dbfI
  have := dto_base
  omega
def monsI (y : Int) : List Int := [31, 28 + (if leapB y = true then 1 else 0), 31, 30, 31, 30, 31, 31, 30, 31, 30, 31]
theorem mons_at (y : Int) : ∀ i, i < 12 → (monsI y)[i]? = some (domI y (i + 1)) := by
  intro i hi
  unfold monsI domI
  by_cases h1 : i = 1
  · subst h1
    cases leapB y <;> rfl
  · have hd : (if i + 1 = 2 ∧ leapB y = true then 29 else monD.getD (i + 1 - 1) 0 : Int) = monD.getD i 0 := if_neg fun h => h1 (by omega)
    rw [hd]
    have key : ∀ i, i < 12 → i ≠ 1 → ∀ x : Int, ([31, x, 31, 30, 31, 30, 31, 31, 30, 31, 30, 31] : List Int)[i]? = some (monD.getD i 0) := by
      intro i hi h1 x
      match i, hi, h1 with
      | 0, _, _ => rfl
      | 2, _, _ => rfl
      | 3, _, _ => rfl
      | 4, _, _ => rfl
      | 5, _, _ => rfl
      | 6, _, _ => rfl
      | 7, _, _ => rfl
      | 8, _, _ => rfl
      | 9, _, _ => rfl
      | 10, _, _ => rfl
      | 11, _, _ => rfl
    exact key i hi h1 _
theorem mons_take (y : Int) : ∀ k, k ≤ 12 → ((monsI y).take k).sum = ((List.range k).map fun i => domI y (i + 1)).sum
  | 0, _ => rfl
  | k + 1, hk => by
    rw [List.take_succ, mons_at y k (by omega), List.range_succ, List.map_append, List.sum_append, List.sum_append, mons_take y k (by omega)]
    rfl
theorem mons_dbm (y : Int) {m : Nat} (h : m ≤ 13) : ((monsI y).take (m - 1)).sum = dbmI y m := mons_take y (m - 1) (by omega)
end Kb
namespace Kb
open PySem PySem.Spec PyProof.Rows L2 TL
theorem dpAll_nats {K : PySem.W.Frag} {H : Hp} : ∀ ns : List Nat, DpAll K H (ns.map fun n : Nat => V.int (n : Int)) (ns.map fun n : Nat => PyData.int (n : Int))
  | [] => .nil
  | n :: ns => .cons (.int _) (dpAll_nats ns)
theorem nats_eqv : ∀ ns : List Nat, PyData.eqv (.list (ns.map fun n : Nat => PyData.int (n : Int))) (.list []) = decide (ns = [])
  | [] => by simp [PyData.eqv, PyData.eqvAll]
  | n :: ns => by simp [PyData.eqv, PyData.eqvAll]
theorem lay_nats : ∀ ns : List Nat, PyData.canLayAll0 (ns.map fun n : Nat => PyData.int (n : Int)) = true ∧ PyData.depthAll (ns.map fun n : Nat => PyData.int (n : Int)) = 0
  | [] => by simp [PyData.canLayAll0, PyData.depthAll]
  | n :: ns => by
    obtain ⟨h1, h2⟩ := lay_nats ns
    rw [List.map_cons, PyData.canLayAll0, PyData.depthAll, h1, h2]
    simp [PyData.canLay0, PyData.depth]
theorem shaped_nats (ns : List Nat) : SeqAt.shaped (.list (ns.map fun n : Nat => PyData.int (n : Int))) = true := by
  obtain ⟨h1, h2⟩ := lay_nats ns
  unfold SeqAt.shaped
  rw [PyData.canLay0, h1, PyData.depth, h2]; rfl
end Kb
namespace Kb
open PySem PySem.Spec PyProof.Rows L2 TL
theorem perm_erase {α : Type} : ∀ (l : List α) (i : Nat) (h : i < l.length), (l[i] :: l.eraseIdx i).Perm l
  | x :: l, 0, _ => List.Perm.refl _
  | x :: l, i + 1, h => by
    have h : i < l.length := by simpa using h
    have ih := perm_erase l i h
    show (l[i] :: x :: l.eraseIdx i).Perm (x :: l)
    exact (List.Perm.swap x l[i] _).trans (List.Perm.cons x ih)
theorem ixN_nat {n i : Nat} (h : i < n) : ixN n (i : Int) = some i := by
  unfold ixN
  rw [if_pos (by omega), if_pos (by omega), Int.toNat_natCast]
end Kb
namespace Kb
open PySem PySem.Spec PyProof.Rows L2 TL
theorem erase_map {α β : Type} (f : α → β) : ∀ (l : List α) (i : Nat), (l.map f).eraseIdx i = (l.eraseIdx i).map f
  | [], _ => rfl
  | _ :: _, 0 => rfl
  | x :: l, i + 1 => by
    show f x :: (l.map f).eraseIdx i = f x :: (l.eraseIdx i).map f
    rw [erase_map f l i]
theorem first_at {a : Nat} : ∀ {l : List Nat}, a ∈ l → ∃ j : Nat, l[j]? = some a ∧ ∀ (m z : Nat), m < j → l[m]? = some z → z ≠ a
  | [], h => by cases h
  | x :: l, h => by
    by_cases e : x = a
    · exact ⟨0, by rw [e]; rfl, fun m z hm _ => absurd hm (Nat.not_lt_zero m)⟩
    · obtain ⟨j, h1, h2⟩ := first_at (a := a) (l := l) ((List.mem_cons.mp h).resolve_left fun z => e z.symm)
      refine ⟨j + 1, h1, fun m z hm hz => ?_⟩
      cases m with
      | zero =>
        cases (show some x = some z from hz)
        exact e
      | succ m => exact h2 m z (by omega) hz
end Kb
namespace Kb
open PySem PySem.Spec PyProof.Rows L2 TL
theorem perm_set0 {α : Type} {a b : α} : ∀ {l : List α} {j : Nat}, l[j]? = some b → (b :: l.set j a).Perm (a :: l)
  | [], j, h => by cases h
  | x :: l, 0, h => by
    cases (show some x = some b from h)
    exact List.Perm.swap ..
  | x :: l, j + 1, h => by
    have ih := perm_set0 (a := a) (b := b) (l := l) (j := j) h
    show (b :: x :: l.set j a).Perm (a :: x :: l)
    exact ((List.Perm.swap ..).trans (List.Perm.cons x ih)).trans (List.Perm.swap ..)
theorem perm_swap {α : Type} {a b : α} : ∀ {l : List α} {i j : Nat}, i < j → l[i]? = some a → l[j]? = some b → ((l.set j a).set i b).Perm l
  | [], i, j, _, h, _ => by cases h
  | x :: l, 0, j + 1, _, h1, h2 => by
    have e : x = a := Option.some.inj h1
    rw [e]
    show (b :: l.set j a).Perm (a :: l)
    exact perm_set0 h2
  | x :: l, i + 1, j + 1, hij, h1, h2 => by
    show (x :: ((l.set j a).set i b)).Perm (x :: l)
    exact List.Perm.cons x (perm_swap (by omega) h1 h2)
end Kb
namespace Kb
open PySem PySem.Spec PyProof.Rows L2 TL
theorem monB_facts {i : Nat} {c : Str} (h : monB i c = true) : KM (tl c) ∧ monI (tl c) = i + 1 ∧ tokOk (tl c) ∧ ascii c ∧ c.length ≤ 10 := by
  unfold monB at h
  simp only [Bool.and_eq_true, Bool.not_eq_true', decide_eq_true_eq] at h
  obtain ⟨h0, h1, h2, h3, h4, h5, h6, h7, h8⟩ := h
  exact ⟨⟨h0, h1, h2, h3⟩, h4, ⟨h6, fun s hs => List.all_eq_true.mp h5 s hs⟩, ascii_lit h7, h8⟩
def mon12 : List Str := ["january", "february", "march", "april", "may", "june", "july", "august", "september", "october", "november", "december"]
def vars1 (w : Str) : List Str := [w, cutS w none (some 3), cutS w none (some 3), cutS w none (some 4), cutS w none (some 3) ++ ("xyz" : Str)]
def vars2 (w : Str) : List Str := [w, Txt.upper w, cutS (Txt.upper w) none (some 1) ++ cutS w (some 1) none, cutS (Txt.upper w) none (some 1) ++ cutS w (some 1) (some 2) ++ cutS (Txt.upper w) (some 2) none]
def vars3 (w : Str) : Str := cutS w none (some 2) ++ Txt.upper (cutS w (some 2) none)
theorem vars_ok : ∀ i, i < 12 → ∀ w ∈ vars1 (mon12.getD i ""), w.length ≤ 10 ∧ (Txt.upper w).length ≤ 10 ∧ (Txt.upper (cutS w (some 2) none)).length ≤ 10 ∧ monB i (vars3 w) = true ∧ ∀ x ∈ vars2 w, monB i x = true := by decide +kernel
end Kb
namespace Kb
open PySem PySem.Spec PyProof.Rows L2 TL
def yrB (n : Nat) : Bool := digB ((numL (1970 + n)).drop 2) && (decide (((numL (1970 + n)).drop 2).length = 2) && decide (yearI ((numL (1970 + n)).drop 2) = (1970 + n : Nat)))
theorem yr_ok : ∀ n, n < 100 → yrB n = true := by decide +kernel
theorem yr2 {y : Nat} (h1 : 1970 ≤ y) (h2 : y ≤ 2069) : digB ((numL y).drop 2) = true ∧ ((numL y).drop 2).length = 2 ∧ yearI ((numL y).drop 2) = (y : Nat) := by
  have := yr_ok (y - 1970) (by omega)
  unfold yrB at this
  rw [show 1970 + (y - 1970) = y by omega] at this
  simp only [Bool.and_eq_true, decide_eq_true_eq] at this
  exact ⟨this.1, this.2.1, this.2.2⟩
end Kb
namespace Kb
open PySem PySem.Spec PyProof.Rows L2 TL
/-! ### texts with tokens between other signs -/
/-- L ends no token: its tokens are T whatever stands behind -/
def Clo (L : List Nat) (T : List (List Nat)) : Prop := ∀ R, toks [] (L ++ R) = T ++ toks [] R
theorem Clo.nil : Clo [] [] := fun R => rfl
theorem Clo.app {L M : List Nat} {T U : List (List Nat)} (a : Clo L T) (b : Clo M U) : Clo (L ++ M) (T ++ U) := fun R => by
  rw [List.append_assoc, a, b, List.append_assoc]
theorem Clo.tok {t s : List Nat} (ht : tokOk t) (hs : s ≠ []) (h : ∀ c ∈ s, tokB c = false) : Clo (t ++ s) [t] := fun R => by
  rw [List.append_assoc, toks_run t [] _ ht.2, List.nil_append, toks_sep ht.1 hs h]; rfl
theorem Clo.sep {s : List Nat} (h : ∀ c ∈ s, tokB c = false) : Clo s [] := fun R => by rw [toks_skip s R h]; rfl
theorem Clo.sp {t : List Nat} (ht : tokOk t) : Clo (t ++ [32]) [t] := Clo.tok ht (by simp) (by decide +kernel)
def idleB (l : List Nat) : Bool := !fits 0 l && (!fits 1 l && (!fits 2 l && !fits 3 l))
def sign14 : List Str := [" ", "-", ", ", "/", "  ", "\t", " (", ")", "_", ".", "+", "=", ";", "\n", " '", "\"", "[", "]", "#", "&", "@", "~", "\\", "|", "<", "?!", "$", "{}", "`^", "*"]
def pre14 : List Str := ["", " ", "Sun, ", "(", "xyz "]
def idle14 : List Str := ["", "", "", "GMT ", "123 ", "12:30 ", "no ", "a1 ", "1:2:3:4 ", ": ", "Mon "]
def end14 : List Str := ["", "GMT", "GMT", "8:8:8 7 May 1999", "5", "99 99", "utc 25:61:61"]
def sg14B (s : Str) : Bool := decide (tl s ≠ []) && ((tl s).all (fun c => !tokB c && decide (c < 128)) && decide (s.length ≤ 3))
theorem sg14_ok : ∀ s ∈ sign14, sg14B s = true := by decide +kernel
theorem sg14 {s : Str} (h : s ∈ sign14) : tl s ≠ [] ∧ (∀ c ∈ tl s, tokB c = false) ∧ ascii s ∧ s.length ≤ 3 := by
  have := sg14_ok s h
  unfold sg14B at this
  simp only [Bool.and_eq_true, decide_eq_true_eq, List.all_eq_true, Bool.not_eq_true'] at this
  exact ⟨this.1, fun c hc => (this.2.1 c hc).1, fun c hc => (this.2.1 c hc).2, this.2.2⟩
def shB (s : Str) : Bool := (tl s).all (· < 128) && decide (s.length ≤ 20)
def idlB (s : Str) : Bool := let t := (tl s).takeWhile tokB; let r := (tl s).dropWhile tokB
  (decide (t = []) && r.all (fun c => !tokB c)) || (idleB t && (!r.isEmpty && r.all (fun c => !tokB c)))
theorem idl_ok : (∀ s ∈ pre14, idlB s = true ∧ shB s = true) ∧ (∀ s ∈ idle14, idlB s = true ∧ shB s = true) ∧ (∀ s ∈ end14, shB s = true) := by decide +kernel
theorem idl {s : Str} (h : idlB s = true) : ∃ T, Clo (tl s) T ∧ ∀ t ∈ T, idleB t = true := by
  unfold idlB at h
  have e : (tl s).takeWhile tokB ++ (tl s).dropWhile tokB = tl s := List.takeWhile_append_dropWhile
  have ht : ∀ c ∈ (tl s).takeWhile tokB, tokB c = true := fun c hc => by
    have := List.all_takeWhile (p := tokB) (l := tl s)
    exact List.all_eq_true.mp this c hc
  generalize (tl s).takeWhile tokB = t at h e ht
  generalize (tl s).dropWhile tokB = r at h e
  simp only [Bool.or_eq_true, Bool.and_eq_true, decide_eq_true_eq, List.all_eq_true, Bool.not_eq_true', List.isEmpty_eq_false_iff] at h
  rw [← e]
  rcases h with ⟨rfl, h⟩ | ⟨h1, h2, h3⟩
  · exact ⟨[], Clo.sep h, fun t ht => by cases ht⟩
  · by_cases hn : t = []
    · subst hn
      exact ⟨[], Clo.sep h3, fun t ht => by cases ht⟩
    · exact ⟨[t], Clo.tok ⟨hn, ht⟩ h2 h3, fun x hx => by rw [List.mem_singleton.mp hx]; exact h1⟩
end Kb

namespace Kb
open PySem PySem.Spec PyProof.Rows L2 TL
/-! ### a date among other tokens, in any order -/
theorem step_idle {f : Fnd} {t : Str} (h : idleB (tl t) = true) : stepD f t = f := by
  unfold idleB at h
  simp only [Bool.and_eq_true, Bool.not_eq_true'] at h
  obtain ⟨h0, h1, h2, h3⟩ := h
  unfold stepD
  rw [partI_eq, h0, h1, h2, h3]
  simp
theorem fold_idle : ∀ (A : List (List Nat)) (f : Fnd), (A.map mkS).foldl stepD f = ((A.filter fun l => !idleB l).map mkS).foldl stepD f
  | [], _ => rfl
  | l :: A, f => by
    rw [List.map_cons, List.foldl_cons, List.filter_cons]
    cases h : idleB l with
    | true =>
      rw [step_idle (t := mkS l) h]
      simp only [Bool.not_true, Bool.false_eq_true, if_false]
      exact fold_idle A f
    | false =>
      simp only [Bool.not_false, if_true]
      rw [List.map_cons, List.foldl_cons]
      exact fold_idle A _
theorem step_full {f : Fnd} (h0 : hasP f 0 = true) (h1 : hasP f 1 = true) (h2 : hasP f 2 = true) (h3 : hasP f 3 = true) (t : Str) : stepD f t = f := by
  unfold stepD
  rw [partI_eq, h0, h1, h2, h3]
  simp
theorem fold_full {f : Fnd} (h0 : hasP f 0 = true) (h1 : hasP f 1 = true) (h2 : hasP f 2 = true) (h3 : hasP f 3 = true) : ∀ E : List Str, E.foldl stepD f = f
  | [] => rfl
  | t :: E => by rw [List.foldl_cons, step_full h0 h1 h2 h3 t]; exact fold_full h0 h1 h2 h3 E
def all24 : List (List Nat) := [[0,1,2,3],[0,1,3,2],[0,2,1,3],[0,2,3,1],[0,3,1,2],[0,3,2,1],[1,0,2,3],[1,0,3,2],[1,2,0,3],[1,2,3,0],[1,3,0,2],[1,3,2,0],[2,0,1,3],[2,0,3,1],[2,1,0,3],[2,1,3,0],[2,3,0,1],[2,3,1,0],[3,0,1,2],[3,0,2,1],[3,1,0,2],[3,1,2,0],[3,2,0,1],[3,2,1,0]]
theorem mem24 {o : List Nat} (h : o.Perm [0, 1, 2, 3]) : o ∈ all24 := by
  have hl : o.length = 4 := h.length_eq
  have hm : ∀ k ∈ o, k < 4 := fun k hk => by
    have := h.mem_iff.mp hk
    simp only [List.mem_cons, List.not_mem_nil, or_false] at this
    omega
  match o, hl with
  | [w, x, y, z], _ =>
    have key : ((List.range 4).all fun w => (List.range 4).all fun x => (List.range 4).all fun y => (List.range 4).all fun z => !([w, x, y, z].isPerm [0, 1, 2, 3]) || all24.contains [w, x, y, z]) = true := by decide +kernel
    simp only [List.all_eq_true, List.mem_range] at key
    have := key w (hm w (by simp)) x (hm x (by simp)) y (hm y (by simp)) z (hm z (by simp))
    rw [List.isPerm_iff.mpr h] at this
    simpa using this
structure Full (f : Fnd) (a b c e : Str) : Prop where
  len : f.length = 4
  h0 : hasP f 0 = true
  h1 : hasP f 1 = true
  h2 : hasP f 2 = true
  h3 : hasP f 3 = true
  g0 : getP f 0 = tl a
  g1 : getP f 1 = tl b
  g2 : getP f 2 = tl c
  g3 : getP f 3 = tl e
theorem run24 {a b c e : Str} (ha : KT (tl a)) (hb : KD (tl b)) (hc : KM (tl c)) (e0 : fits 0 (tl e) = false) (e2 : fits 2 (tl e) = false) (e3 : fits 3 (tl e) = true) {o : List Nat} (ho : o ∈ all24) (h : fits 1 (tl e) = true → ∃ i j : Nat, i < j ∧ o[i]? = some 1 ∧ o[j]? = some 3) :
    Full ((o.map fun k => [a, b, c, e].getD k "").foldl stepD []) a b c e := by
  obtain ⟨a0, a1, a2, a3⟩ := ha
  obtain ⟨b0, b1, b2⟩ := hb
  obtain ⟨c0, c1, c2, c3⟩ := hc
  have key : ∀ o ∈ all24, (∃ i j : Nat, i < j ∧ o[i]? = some 1 ∧ o[j]? = some 3) → o ∈ all24.filter (fun o => o.idxOf 1 < o.idxOf 3) := by
    intro o ho ⟨i, j, hij, hi, hj⟩
    have ho4 : o.length = 4 := by
      have : ∀ o ∈ all24, o.length = 4 := by decide
      exact this o ho
    have hi4 : i < 4 := by have := (List.getElem?_eq_some_iff.mp hi).1; omega
    have hj4 : j < 4 := by have := (List.getElem?_eq_some_iff.mp hj).1; omega
    have k2 : (all24.all fun o => (List.range 4).all fun i => (List.range 4).all fun j => !(decide (i < j) && (o[i]? == some 1 && o[j]? == some 3)) || (all24.filter (fun o => o.idxOf 1 < o.idxOf 3)).contains o) = true := by decide +kernel
    simp only [List.all_eq_true, List.mem_range] at k2
    have := k2 o ho i hi4 j hj4
    rw [hi, hj, decide_eq_true hij] at this
    simpa using this
  cases e1 : fits 1 (tl e) with
  | true =>
    have ho2 := key o ho (h e1)
    have e12 : all24.filter (fun o => o.idxOf 1 < o.idxOf 3) = [[0,1,2,3],[0,1,3,2],[0,2,1,3],[1,0,2,3],[1,0,3,2],[1,2,0,3],[1,2,3,0],[1,3,0,2],[1,3,2,0],[2,0,1,3],[2,1,0,3],[2,1,3,0]] := by decide +kernel
    rw [e12] at ho2
    simp only [List.mem_cons, List.not_mem_nil, or_false] at ho2
    rcases ho2 with rfl | rfl | rfl | rfl | rfl | rfl | rfl | rfl | rfl | rfl | rfl | rfl <;>
      (constructor <;> simp [stepD, partI_eq, hasP, getP, a0, a1, a2, a3, b0, b1, b2, c0, c1, c2, c3, e0, e1, e2, e3])
  | false =>
    unfold all24 at ho
    simp only [List.mem_cons, List.not_mem_nil, or_false] at ho
    rcases ho with rfl | rfl | rfl | rfl | rfl | rfl | rfl | rfl | rfl | rfl | rfl | rfl | rfl | rfl | rfl | rfl | rfl | rfl | rfl | rfl | rfl | rfl | rfl | rfl <;>
      (constructor <;> simp [stepD, partI_eq, hasP, getP, a0, a1, a2, a3, b0, b1, b2, c0, c1, c2, c3, e0, e1, e2, e3])
theorem date_of_txt {x : Str} {a b c e : Str} {o : List Nat} (ha : KT (tl a)) (hb : KD (tl b)) (hc : KM (tl c)) (e0 : fits 0 (tl e) = false) (e2 : fits 2 (tl e) = false) (e3 : fits 3 (tl e) = true) (ho : o.Perm [0, 1, 2, 3]) (h : fits 1 (tl e) = true → ∃ i j : Nat, i < j ∧ o[i]? = some 1 ∧ o[j]? = some 3)
    {A E : List (List Nat)} (hx : toks [] (tl x) = A ++ E) (hA : A.filter (fun l => !idleB l) = ((o.map fun k => [a, b, c, e].getD k "").map tl).filter (fun l => !idleB l)) : dateR (tl x) = tickI (tl a) (tl b) (tl c) (tl e) := by
  obtain ⟨hl, h0, h1, h2, h3, g0, g1, g2, g3⟩ := run24 ha hb hc e0 e2 e3 (mem24 ho) h
  have e4 : ((A ++ E).map mkS).foldl stepD [] = (o.map fun k => [a, b, c, e].getD k "").foldl stepD [] := by
    rw [List.map_append, List.foldl_append, fold_idle A [], hA, ← fold_idle]
    have em : ∀ L : List Str, (L.map tl).map mkS = L := fun L => by
      rw [List.map_map]
      conv => rhs; rw [← List.map_id L]
      exact List.map_congr_left fun t _ => mkS_tl t
    rw [em, fold_full h0 h1 h2 h3]
  unfold dateR dateF
  rw [hx, e4, if_neg (by omega), g0, g1, g2, g3]
end Kb
namespace Kb
open PySem PySem.Spec PyProof.Rows L2 TL
theorem dbm_succ (y : Int) {m : Nat} (h : 1 ≤ m) : dbmI y (m + 1) = dbmI y m + domI y m := by
  unfold dbmI
  rw [show m + 1 - 1 = (m - 1) + 1 by omega, List.range_succ, List.map_append, List.sum_append]
  simp only [List.map_cons, List.map_nil, List.sum_cons, List.sum_nil, Int.add_zero]
  rw [show m - 1 + 1 = m by omega]
theorem dbm_bounds (y : Int) : ∀ m : Nat, m < 13 → 0 ≤ dbmI y (m + 1) ∧ dbmI y (m + 1) ≤ 31 * m
  | 0, _ => by
    show 0 ≤ (0 : Int) ∧ (0 : Int) ≤ 31 * (0 : Nat)
    omega
  | m + 1, h => by
    obtain ⟨h1, h2⟩ := dbm_bounds y m (by omega)
    rw [dbm_succ y (m := m + 1) (by omega)]
    have h3 := dom_ge y (m := m + 1) (by omega) (by omega)
    have h4 := dom_le y (m := m + 1) (by omega) (by omega)
    omega
theorem dbm_13 (y : Int) : dbmI y 13 = ydI y := by
  rw [← mons_dbm y (by omega)]
  unfold monsI ydI
  cases leapB y <;> decide
theorem dbm_end (y : Int) : ∀ k : Nat, k ≤ 11 → dbmI y (13 - k) ≤ ydI y
  | 0, _ => by rw [show 13 - 0 = 13 from rfl, dbm_13]; exact Int.le_refl _
  | k + 1, h => by
    have h1 := dbm_end y k (by omega)
    have h2 := dbm_succ y (m := 13 - (k + 1)) (by omega)
    have h3 := dom_ge y (m := 13 - (k + 1)) (by omega) (by omega)
    rw [show 13 - (k + 1) + 1 = 13 - k by omega] at h2
    omega
theorem dbf_neg {y : Int} (h : y < 1970) (h1 : 1 ≤ y) : dbfI y + ydI y ≤ 0 := by
  have := dto_succ y
  have e : dtoI (y + 1) ≤ dtoI 1970 := by
    unfold dtoI
    omega
  unfold dbfI
  omega
theorem dbf_pos {y : Int} (h : 1970 ≤ y) : 0 ≤ dbfI y := by
  unfold dbfI dtoI
  omega
/-- the tick of a moment, 0 before 1970 -/
def dueI (y m dd hh mm ss : Int) : Int := max 0 (86400 * (dbfI y + dbmI y m.toNat + dd - 1) + 3600 * hh + 60 * mm + ss)
theorem tick_due {p q r d mo yr : List Nat} {y m dd hh mm ss : Int} (hp : digB p = true) (hq : digB q = true) (hr : digB r = true) (vp : valL p = hh) (vq : valL q = mm) (vr : valL r = ss) (vd : valL d = dd) (vm : (monI mo : Int) = m) (vy : yearI yr = y)
    (y1 : 1601 ≤ y) (m1 : 1 ≤ m) (m2 : m ≤ 12) (d1 : 1 ≤ dd) (d2 : dd ≤ domI y m.toNat) (h1 : 0 ≤ hh) (h2 : hh < 24) (n1 : 0 ≤ mm) (n2 : mm < 60) (s1 : 0 ≤ ss) (s2 : ss < 60) : tickI (timeL p q r) d mo yr = some (dueI y m dd hh mm ss) := by
  have em : m.toNat = monI mo := by omega
  rw [tick_of hp hq hr, vp, vq, vr, vd, vy, if_neg (by omega), ← em, if_neg (by omega)]
  have b := dbm_bounds y (m.toNat - 1) (by omega)
  rw [show m.toNat - 1 + 1 = m.toNat by omega] at b
  unfold dueI
  by_cases hy : y < 1970
  · rw [if_pos hy]
    have e1 := dbf_neg hy (by omega)
    have e2 := dbm_succ y (m := m.toNat) (by omega)
    have e3 := dbm_end y (12 - m.toNat) (by omega)
    rw [show 13 - (12 - m.toNat) = m.toNat + 1 by omega] at e3
    congr 1
    omega
  · rw [if_neg hy]
    have e1 := dbf_pos (y := y) (by omega)
    congr 1
    omega
end Kb

namespace Kb
open PySem PySem.Spec PyProof.Rows L2 PySem.Builtin PySem.W
/-! ### {n:02d}, {n:04d} -/
theorem ret_textR {M : Model} {A : Around} {E : Value → Shared → Prop} {s : Shared} {X T : Str} {Q : PySem.Fin → Shared → Prop} (e : X = T) (hl : T.length ≤ sizeLine) (h : ∀ t k, Q (.done (.ret (.str T t))) { s with toks := k }) : wpAny M A (retStr X) Q E s := by
  subst e
  exact KXf.ret_text rfl hl h
def f2 : Float.FormatSpec := { fill := 48, align := 61, width := some 2, type := some 100 }
def f4 : Float.FormatSpec := { fill := 48, align := 61, width := some 4, type := some 100 }
theorem meets_fmt2 (a : Int) (t u : Tok) (ha : a.natAbs.log2 < 1920) (hl : (intSpecText f2 a).length ≤ sizeLine) :
    Meets («int.__format__» ⟨[.int a t, .str ("02d" : Str) u], []⟩) (fun _ R s => ∀ t' k, R (.ok (.ret (.str (intSpecText f2 a) t'))) { s with toks := k }) := by
  apply KPc.meets_of
  intro prog w A s Q E h
  have hp : Float.parseFormatSpec ("02d" : Str).cps.toList "int" 62 = .ok f2 := by rfl
  unfold Builtin.«int.__format__»
  refine wpAny_bind (wpAny_of_eq (a := (_, _)) rfl ?_)
  refine wpAny_bind (wpAny_of_eq (a := _) rfl ?_)
  kxf_if
  refine wpAny_bind (wpAny_typeNameOf (T := "str") (typeIs_str _ _ _) (by decide) fun _ => ?_)
  refine wpAny_bind (wpAny_of_eq (a := some _) rfl ?_)
  kxf_if
  kxf_if
  refine wpAny_bind (wpAny_typeNameOfCut_int ?_)
  rw [hp]
  repeat kxf_if
  refine wpAny_bind (wpAny_of_eq (PySem.overDigitLimit_small ha) ?_)
  repeat kxf_if
  refine ret_textR (T := intSpecText f2 a) ?_ hl h
  have e1 : (f2.type.getD (if ((("02d" : Str)).cps.back? == some 0) = true then 0 else 100) == 88) = false := rfl
  simp only [e1]
  unfold intSpecText
  simp only [show ((100 : Nat) == 88) = false from rfl]
  generalize List.map (fun c => (if false = true then c.toUpper else c).toNat) (Nat.toDigits 10 a.natAbs) = ds
  generalize decide (a < 0) = b
  cases b <;> rfl
theorem meets_fmt4 (a : Int) (t u : Tok) (ha : a.natAbs.log2 < 1920) (hl : (intSpecText f4 a).length ≤ sizeLine) :
    Meets («int.__format__» ⟨[.int a t, .str ("04d" : Str) u], []⟩) (fun _ R s => ∀ t' k, R (.ok (.ret (.str (intSpecText f4 a) t'))) { s with toks := k }) := by
  apply KPc.meets_of
  intro prog w A s Q E h
  have hp : Float.parseFormatSpec ("04d" : Str).cps.toList "int" 62 = .ok f4 := by rfl
  unfold Builtin.«int.__format__»
  refine wpAny_bind (wpAny_of_eq (a := (_, _)) rfl ?_)
  refine wpAny_bind (wpAny_of_eq (a := _) rfl ?_)
  kxf_if
  refine wpAny_bind (wpAny_typeNameOf (T := "str") (typeIs_str _ _ _) (by decide) fun _ => ?_)
  refine wpAny_bind (wpAny_of_eq (a := some _) rfl ?_)
  kxf_if
  kxf_if
  refine wpAny_bind (wpAny_typeNameOfCut_int ?_)
  rw [hp]
  repeat kxf_if
  refine wpAny_bind (wpAny_of_eq (PySem.overDigitLimit_small ha) ?_)
  repeat kxf_if
  refine ret_textR (T := intSpecText f4 a) ?_ hl h
  have e1 : (f4.type.getD (if ((("04d" : Str)).cps.back? == some 0) = true then 0 else 100) == 88) = false := rfl
  simp only [e1]
  unfold intSpecText
  simp only [show ((100 : Nat) == 88) = false from rfl]
  generalize List.map (fun c => (if false = true then c.toUpper else c).toNat) (Nat.toDigits 10 a.natAbs) = ds
  generalize decide (a < 0) = b
  cases b <;> rfl
end Kb
namespace Kb
open PySem PySem.Spec PyProof.Rows L2 TL
/-- a number with naughts in front, in k signs -/
def padL (k n : Nat) : List Nat := List.replicate (k - (numL n).length) 48 ++ numL n
theorem toStr_tl (n : Nat) : tl (Str.ofString (toString ((n : Nat) : Int))) = numL n := tl_num n
theorem fmt_text {f : PySem.Builtin.Float.FormatSpec} {k n : Nat} (h1 : f.fill = 48) (h2 : f.align = 61) (h3 : f.width = some k) (h4 : f.grouping = none) (h5 : f.sign = none) : tl (intSpecText f (n : Int)) = padL k n := by
  rw [intSpecText_zero h4 h5 h1 h2 (by omega), tl_append, h3]
  have e : (numL n).length = (Nat.toDigits 10 n).length := by
    unfold numL
    simp
  have e2 : tl (Str.ofString (toString ((n : Nat) : Int))) = numL n := toStr_tl n
  rw [e2, Int.natAbs_natCast, ← e]
  rfl
theorem padL_len {k n : Nat} (h : n < 1000000000) (hk : k ≤ 20) : (padL k n).length ≤ 100 := by
  unfold padL
  rw [List.length_append, List.length_replicate]
  have := PySem.W.KT.len_num (n := (n : Int)) (by omega) (by omega)
  rw [len_tl, toStr_tl] at this
  omega
theorem log_small {n : Nat} (h : n < 1000000000) : ((n : Int)).natAbs.log2 < 1920 := by
  have : ((n : Int)).natAbs < 2 ^ 30 := by rw [Int.natAbs_natCast]; omega
  exact Nat.lt_of_lt_of_le (PySem.Flt.log2_lt_of (by decide) this) (by decide)
def tFmtD (k : Nat) (te : TE) : TE := fun σ H Q => te σ H fun x H1 => ∃ n : Nat, x = .int (n : Int) ∧ n < 1000000000 ∧ ∀ y : Str, tl y = padL k n → Q (.str y) H1
theorem pe_fmt2 {X : Cx} {e : Expr} {te : TE} {j : Nat} {p1 p2 pos : Pos} (he : PE X e te) : PE X (.FormattedValue e (-1) (some (.JoinedStr [.Constant (.str "02d") j p1] p2)) pos) (tFmtD 2 te) := by
  refine ⟨fun pins s σ H Q I h => ?_⟩
  refine wpAny_FormattedValue_spec (thn (he.run pins s σ H _ I h) fun v s1 ⟨x, H1, I1, r1, n, e, hn, q⟩ => ?_)
  subst e
  obtain ⟨t, rfl⟩ := r1
  refine wpAny_JoinedStr_one (Calls.Constant_str ⟨_, _, rfl, ?_⟩)
  have hlog := log_small hn
  have ht := fmt_text (f := f2) (k := 2) (n := n) rfl rfl rfl rfl rfl
  have hl : (intSpecText f2 (n : Int)).length ≤ sizeLine := by
    rw [len_tl, ht]
    exact Nat.le_trans (padL_len hn (by decide)) (by decide)
  refine PySem.W.KXf.field_int (y := intSpecText f2 (n : Int)) rfl (by decide) (by decide) (fun u => meets_fmt2 (n : Int) t u hlog hl) fun t' k => ?_
  exact ⟨.str (intSpecText f2 (n : Int)), H1, I1.tok _, ⟨t', rfl⟩, q _ ht⟩
theorem pe_fmt4 {X : Cx} {e : Expr} {te : TE} {j : Nat} {p1 p2 pos : Pos} (he : PE X e te) : PE X (.FormattedValue e (-1) (some (.JoinedStr [.Constant (.str "04d") j p1] p2)) pos) (tFmtD 4 te) := by
  refine ⟨fun pins s σ H Q I h => ?_⟩
  refine wpAny_FormattedValue_spec (thn (he.run pins s σ H _ I h) fun v s1 ⟨x, H1, I1, r1, n, e, hn, q⟩ => ?_)
  subst e
  obtain ⟨t, rfl⟩ := r1
  refine wpAny_JoinedStr_one (Calls.Constant_str ⟨_, _, rfl, ?_⟩)
  have hlog := log_small hn
  have ht := fmt_text (f := f4) (k := 4) (n := n) rfl rfl rfl rfl rfl
  have hl : (intSpecText f4 (n : Int)).length ≤ sizeLine := by
    rw [len_tl, ht]
    exact Nat.le_trans (padL_len hn (by decide)) (by decide)
  refine PySem.W.KXf.field_int (y := intSpecText f4 (n : Int)) rfl (by decide) (by decide) (fun u => meets_fmt4 (n : Int) t u hlog hl) fun t' k => ?_
  exact ⟨.str (intSpecText f4 (n : Int)), H1, I1.tok _, ⟨t', rfl⟩, q _ ht⟩
end Kb

namespace Kb
open PySem PySem.Spec PyProof.Rows L2 TL
/-! ### what a tick is called -/
def lastT : Int := 253402300799
structure Dat (t y m dd hh mm ss : Int) : Prop where
  y1 : 1970 ≤ y
  y2 : y ≤ 9999
  m1 : 1 ≤ m
  m2 : m ≤ 12
  d1 : 1 ≤ dd
  d2 : dd ≤ domI y m.toNat
  h1 : 0 ≤ hh
  h2 : hh < 24
  n1 : 0 ≤ mm
  n2 : mm < 60
  s1 : 0 ≤ ss
  s2 : ss < 60
  e : t = 86400 * (dbfI y + dbmI y m.toNat + dd - 1) + 3600 * hh + 60 * mm + ss
theorem dbm_mono (y : Int) : ∀ (k m : Nat), 1 ≤ m → m + k ≤ 13 → dbmI y m ≤ dbmI y (m + k)
  | 0, m, _, _ => Int.le_refl _
  | k + 1, m, h1, h2 => by
    have a := dbm_mono y k m h1 (by omega)
    have b := dbm_succ y (m := m + k) (by omega)
    have c := dom_ge y (m := m + k) (by omega) (by omega)
    rw [show m + (k + 1) = m + k + 1 by omega]
    omega
theorem dbm_le (y : Int) {m n : Nat} (h1 : 1 ≤ m) (h : m ≤ n) (h2 : n ≤ 13) : dbmI y m ≤ dbmI y n := by
  have := dbm_mono y (n - m) m h1 (by omega)
  rwa [show m + (n - m) = n by omega] at this
theorem dbm_one (y : Int) : dbmI y 1 = 0 := rfl
theorem dbf_le {y z : Int} (h1 : 1 ≤ y) (h : y ≤ z) : dbfI y ≤ dbfI z := by
  unfold dbfI dtoI
  omega
theorem dbf_succ (y : Int) : dbfI (y + 1) = dbfI y + ydI y := by
  unfold dbfI
  rw [dto_succ]; omega
theorem Dat.day {t y m dd hh mm ss : Int} (c : Dat t y m dd hh mm ss) : dbfI y ≤ t / 86400 ∧ t / 86400 < dbfI (y + 1) ∧ dbmI y m.toNat ≤ t / 86400 - dbfI y ∧ t / 86400 - dbfI y < dbmI y (m.toNat + 1) ∧ t / 86400 = dbfI y + dbmI y m.toNat + dd - 1 ∧ t % 86400 = 3600 * hh + 60 * mm + ss := by
  obtain ⟨y1, y2, m1, m2, d1, d2, h1, h2, n1, n2, s1, s2, e⟩ := c
  have b0 := dbm_le y (m := 1) (n := m.toNat) (by omega) (by omega) (by omega)
  rw [dbm_one] at b0
  have b1 := dbm_succ y (m := m.toNat) (by omega)
  have b2 := dbm_le y (m := m.toNat + 1) (n := 13) (by omega) (by omega) (by omega)
  rw [dbm_13] at b2
  have b3 := dbf_succ y
  generalize dbmI y m.toNat = M at *
  generalize dbmI y (m.toNat + 1) = M2 at *
  generalize domI y m.toNat = dm at *
  generalize dbfI y = F at *
  generalize dbfI (y + 1) = F2 at *
  have q : t / 86400 = F + M + dd - 1 := by omega
  refine ⟨by omega, by omega, by omega, by omega, q, by omega⟩
theorem Dat.uniq {t y m dd hh mm ss y' m' dd' hh' mm' ss' : Int} (a : Dat t y m dd hh mm ss) (b : Dat t y' m' dd' hh' mm' ss') : y = y' ∧ m = m' ∧ dd = dd' ∧ hh = hh' ∧ mm = mm' ∧ ss = ss' := by
  obtain ⟨a1, a2, a3, a4, a5, a6⟩ := a.day
  obtain ⟨b1, b2, b3, b4, b5, b6⟩ := b.day
  have ey : y = y' := by
    rcases Int.lt_trichotomy y y' with h | h | h
    · have := dbf_le (y := y + 1) (z := y') (by have := a.y1; omega) (by omega); omega
    · exact h
    · have := dbf_le (y := y' + 1) (z := y) (by have := b.y1; omega) (by omega); omega
  subst ey
  have em : m = m' := by
    have p1 := a.m1
    have p2 := a.m2
    have p3 := b.m1
    have p4 := b.m2
    rcases Int.lt_trichotomy m m' with h | h | h
    · have := dbm_le y (m := m.toNat + 1) (n := m'.toNat) (by omega) (by omega) (by omega); omega
    · exact h
    · have := dbm_le y (m := m'.toNat + 1) (n := m.toNat) (by omega) (by omega) (by omega); omega
  subst em
  have p1 := a.h1
  have p2 := a.n1
  have p3 := a.n2
  have p4 := a.s1
  have p5 := a.s2
  have q1 := b.h1
  have q2 := b.n1
  have q3 := b.n2
  have q4 := b.s1
  have q5 := b.s2
  refine ⟨rfl, rfl, by omega, by omega, by omega, by omega⟩
theorem Dat.due {t y m dd hh mm ss : Int} (c : Dat t y m dd hh mm ss) (h : 0 ≤ t) : dueI y m dd hh mm ss = t := by
  unfold dueI
  rw [← c.e]
  omega
/-- the year that holds a day -/
theorem year_end {d y : Int} (h0 : 0 ≤ d) (h : d ≤ 2932896) (h1 : dbfI y ≤ d) : y ≤ 9999 := by
  rcases Int.lt_or_le y 10000 with g | g
  · omega
  · have := dbf_le (y := 10000) (z := y) (by decide) g
    have e : dbfI 10000 = 2932897 := by decide
    omega
theorem year_start {d : Int} (h0 : 0 ≤ d) : dbfI (1970 + d / 366) ≤ d := by
  unfold dbfI dtoI
  omega
end Kb
namespace Kb
open PySem PySem.Spec PyProof.Rows L2 TL
/-! ### the written date -/
def weekN : List Str := ["Mon", "Tue", "Wed", "Thu", "Fri", "Sat", "Sun"]
def weekL (t : Int) : List Nat := tl (weekN.getD ((t / 86400 + 3) % 7).toNat "")
def monL (m : Int) : List Nat := tl (monN.getD (m.toNat - 1) "")
/-- behind the day of the week -/
def restL (y m dd hh mm ss : Int) : List Nat := padL 2 dd.toNat ++ ([32] ++ (monL m ++ ([32] ++ (padL 4 y.toNat ++ ([32] ++ (padL 2 hh.toNat ++ ([58] ++ (padL 2 mm.toNat ++ ([58] ++ (padL 2 ss.toNat ++ [32, 71, 77, 84]))))))))))
def pad2B (n : Nat) : Bool := digB (padL 2 n) && (decide ((padL 2 n).length = 2) && (decide (NumText.digitsVal (padL 2 n) = n) && decide (padL 2 n = if 9 < n then numL n else 48 :: numL n)))
theorem pad2_ok : ∀ n, n < 100 → pad2B n = true := by decide +kernel
theorem pad2 {n : Nat} (h : n < 100) : digB (padL 2 n) = true ∧ (padL 2 n).length = 2 ∧ valL (padL 2 n) = n ∧ padL 2 n = if 9 < n then numL n else 48 :: numL n := by
  have := pad2_ok n h
  unfold pad2B at this
  simp only [Bool.and_eq_true, decide_eq_true_eq] at this
  refine ⟨this.1, this.2.1, ?_, this.2.2.2⟩
  unfold valL
  rw [this.2.2.1]
theorem pad4 {n : Nat} (h : 1000 ≤ n) (h2 : n < 10000) : padL 4 n = numL n := by
  unfold padL
  rw [(num4 h h2).2.1]; rfl
def mon12B (i : Nat) (c : Str) : Bool := monB i c && decide (c.length = 3)
theorem monN_ok : ∀ i, i < 12 → mon12B i (monN.getD i "") = true := by decide +kernel
theorem monL_ok {m : Int} (h1 : 1 ≤ m) (h2 : m ≤ 12) : KM (monL m) ∧ (monI (monL m) : Int) = m ∧ tokOk (monL m) ∧ (∀ c ∈ monL m, c < 128) ∧ (monL m).length = 3 := by
  have := monN_ok (m.toNat - 1) (by omega)
  unfold mon12B at this
  rw [Bool.and_eq_true, decide_eq_true_eq] at this
  obtain ⟨f1, f2, f3, f4, _⟩ := monB_facts this.1
  refine ⟨f1, ?_, f3, f4, by rw [← this.2, len_tl]; rfl⟩
  unfold monL
  omega
def weekB (x : Str) : Bool := idleB (tl x) && ((tl x).all tokB && (decide ((tl x).length = 3) && (tl x).all (· < 128)))
theorem week_ok : ∀ x ∈ weekN, weekB x = true := by decide +kernel
theorem gmt_ok : idleB [71, 77, 84] = true ∧ ∀ s ∈ [71, 77, 84], tokB s = true := by decide +kernel
theorem pad2_tok {n : Nat} (h : n < 100) : tokOk (padL 2 n) := dig_tok (pad2 h).1
/-- how it is read, with a day of the week or without -/
theorem read_rest {t y m dd hh mm ss : Int} (c : Dat t y m dd hh mm ss) (h0 : 0 ≤ t) {W : List Nat} {T : List (List Nat)} (hW : Clo W T) (hT : ∀ l ∈ T, idleB l = true) : dateR (W ++ restL y m dd hh mm ss) = some t := by
  obtain ⟨f1, f2, f3, f4, f5⟩ := monL_ok c.m1 c.m2
  have c' := c
  obtain ⟨y1, y2, m1, m2, d1, d2, h1, h2, n1, n2, s1, s2, e⟩ := c'
  have d3 := dom_le y (m := m.toNat) (by omega) (by omega)
  obtain ⟨p1, p2, p3, _⟩ := pad2 (n := dd.toNat) (by omega)
  obtain ⟨q1, q2, q3, _⟩ := pad2 (n := hh.toNat) (by omega)
  obtain ⟨r1, r2, r3, _⟩ := pad2 (n := mm.toNat) (by omega)
  obtain ⟨u1, u2, u3, _⟩ := pad2 (n := ss.toNat) (by omega)
  obtain ⟨z1, z2, z3⟩ := num4 (n := y.toNat) (by omega) (by omega)
  have z0 := pad4 (n := y.toNat) (by omega) (by omega)
  rw [← z0] at z1 z2 z3
  obtain ⟨kt, tt⟩ := KT_of q1 r1 u1 (by omega) (by omega) (by omega)
  have ky := KY_of z1 z2
  have etl : restL y m dd hh mm ss = padL 2 dd.toNat ++ [32] ++ (monL m ++ [32] ++ (padL 4 y.toNat ++ [32] ++ (timeL (padL 2 hh.toNat) (padL 2 mm.toNat) (padL 2 ss.toNat) ++ [32] ++ [71, 77, 84]))) := by
    unfold restL timeL
    show _ = padL 2 dd.toNat ++ [32] ++ (monL m ++ [32] ++ (padL 4 y.toNat ++ [32] ++ ((padL 2 hh.toNat ++ ([58] ++ (padL 2 mm.toNat ++ ([58] ++ padL 2 ss.toNat)))) ++ [32] ++ [71, 77, 84])))
    simp only [List.append_assoc, List.singleton_append, List.cons_append, List.nil_append]
  have cl : Clo (W ++ (padL 2 dd.toNat ++ [32] ++ (monL m ++ [32] ++ (padL 4 y.toNat ++ [32] ++ (timeL (padL 2 hh.toNat) (padL 2 mm.toNat) (padL 2 ss.toNat) ++ [32]))))) (T ++ ([padL 2 dd.toNat] ++ ([monL m] ++ ([padL 4 y.toNat] ++ [timeL (padL 2 hh.toNat) (padL 2 mm.toNat) (padL 2 ss.toNat)])))) :=
    hW.app ((Clo.sp (dig_tok p1)).app ((Clo.sp f3).app ((Clo.sp (dig_tok z1)).app (Clo.sp tt))))
  have htk := cl [71, 77, 84]
  have hx : toks [] (W ++ restL y m dd hh mm ss) = (T ++ ([padL 2 dd.toNat] ++ ([monL m] ++ ([padL 4 y.toNat] ++ [timeL (padL 2 hh.toNat) (padL 2 mm.toNat) (padL 2 ss.toNat)])))) ++ toks [] [71, 77, 84] := by
    rw [← htk, etl]
    simp only [List.append_assoc]
  have key := date_of_txt (x := mkS (W ++ restL y m dd hh mm ss)) (a := mkS (timeL (padL 2 hh.toNat) (padL 2 mm.toNat) (padL 2 ss.toNat))) (b := mkS (padL 2 dd.toNat)) (c := mkS (monL m)) (e := mkS (padL 4 y.toNat)) (o := [1, 2, 3, 0])
    kt (KD_of p1 (show (padL 2 dd.toNat).length ≤ 2 by omega)) f1 ky.a ky.c ky.d (by decide) (fun z => absurd z (by rw [show fits 1 (tl (mkS (padL 4 y.toNat))) = false from ky.b]; exact Bool.false_ne_true)) hx (by
      rw [List.filter_append]
      rw [List.filter_eq_nil_iff.mpr (fun l hl => by rw [hT l hl]; exact Bool.false_ne_true)]
      rfl)
  have : dateR (W ++ restL y m dd hh mm ss) = tickI (timeL (padL 2 hh.toNat) (padL 2 mm.toNat) (padL 2 ss.toNat)) (padL 2 dd.toNat) (monL m) (padL 4 y.toNat) := key
  rw [this, ← c.due h0]
  exact tick_due q1 r1 u1 (by omega) (by omega) (by omega) (by omega) f2 (by rw [year4 z2]; omega) (by omega) m1 m2 d1 d2 h1 h2 n1 n2 s1 s2
end Kb
namespace Kb
open PySem PySem.Spec PyProof.Rows L2 TL
/-- the law's count of the days from 1970 on -/
theorem dto_walk70 {y : Int} (h : 1970 ≤ y) : 146097 * ((y - 1970) / 400) + ((List.range (y - (1970 + 400 * ((y - 1970) / 400))).toNat).map fun i => ydI (1970 + 400 * ((y - 1970) / 400) + (i : Nat))).sum = dbfI y := by
  rw [dto_years, dto_400]
  have h2 : 1970 + 400 * ((y - 1970) / 400) + ((y - (1970 + 400 * ((y - 1970) / 400))).toNat : Int) = y := by omega
  rw [h2]
  unfold dbfI
  omega
end Kb
namespace Kb
open PySem PySem.Spec PyProof.Rows L2 TL
theorem yd_ge (y : Int) : 365 ≤ ydI y := by unfold ydI; split <;> omega
theorem dbf_400 (r : Int) : dbfI (1970 + 400 * r) = 146097 * r := by
  unfold dbfI
  rw [dto_400]; omega
theorem label_ok : ∀ m, m < 12 → cutS ("JanFebMarAprMayJunJulAugSepOctNovDec" : Str) (some (3 * (m : Nat) : Int)) (some (3 * (m : Nat) + 3 : Int)) = monN.getD m "" := by decide +kernel
end Kb

namespace Kb
open PySem PySem.Spec PyProof.Rows L2 TL
/-! ### a date that is read is a tick -/
structure FndFit (f : Fnd) : Prop where
  lt : ∀ q ∈ f, q.1 < 4
  fit : ∀ q ∈ f, fits q.1 (tl q.2) = true
theorem FndFit.step {f : Fnd} (h : FndFit f) (t : Str) : FndFit (stepD f t) := by
  unfold stepD
  cases e : partI f (tl t) with
  | none => exact h
  | some p =>
    unfold partI at e
    obtain ⟨h1, h2, _⟩ := List.find?_range_eq_some.mp e
    have hp := List.mem_range.mp h2
    rw [Bool.and_eq_true, Bool.not_eq_true'] at h1
    refine ⟨fun q hq => ?_, fun q hq => ?_⟩
    · rcases List.mem_append.mp hq with m | m
      · exact h.lt q m
      · rw [List.mem_singleton.mp m]; exact hp
    · rcases List.mem_append.mp hq with m | m
      · exact h.fit q m
      · rw [List.mem_singleton.mp m]; exact h1.2
theorem FndFit.all : ∀ (ts : List Str) (f : Fnd), FndFit f → FndFit (ts.foldl stepD f)
  | [], _, h => h
  | t :: ts, f, h => FndFit.all ts _ (h.step t)
theorem getP_fits {f : Fnd} (h : FndFit f) (p : Nat) : getP f p = [] ∨ fits p (getP f p) = true := by
  unfold getP
  cases hf : f.find? fun q => q.1 == p with
  | none => exact .inl rfl
  | some z =>
    have h1 : z.1 = p := by have := List.find?_some hf; simpa using this
    have h2 := h.fit z (List.mem_of_find?_eq_some hf)
    rw [h1] at h2
    exact .inr h2
theorem yearI_le {l : List Nat} (h : l = [] ∨ fitY l = true) : yearI l ≤ 9999 := by
  rcases h with rfl | h
  · decide
  · unfold fitY at h
    simp only [Bool.and_eq_true, Bool.or_eq_true, decide_eq_true_eq] at h
    have h4 := (val_small l h.1 (by omega)).2
    unfold yearI
    split
    · exact h4
    · have hl : l.length ≤ 2 := by omega
      split
      · omega
      · have ad := (digB_iff.mp h.1).1
        have : valL l ≤ 99 := by
          unfold valL
          match l, hl, (fun c hc => ad c hc : ∀ c ∈ l, 48 ≤ c ∧ c ≤ 57) with
          | [], _, _ => simp [NumText.digitsVal]
          | [a], _, k => have := k a (by simp); simp only [NumText.digitsVal, List.foldl]; omega
          | [a, b], _, k => have := k a (by simp); have := k b (by simp); simp only [NumText.digitsVal, List.foldl]; omega
          | a :: b :: c :: r, hl, _ => simp at hl
        omega
theorem monI_le (l : List Nat) : monI l ≤ 12 := by
  unfold monI
  cases h : (List.range 12).find? (monAt l) with
  | none => exact Nat.zero_le _
  | some i =>
    have := List.mem_range.mp (List.mem_of_find?_eq_some h)
    show i + 1 ≤ 12
    omega
theorem dom_nn (y : Int) (m : Nat) : 0 ≤ domI y m := by
  unfold domI
  split
  · decide
  · have : ∀ n, 0 ≤ monD.getD n 0 := fun n => by
      match n with
      | 0 | 1 | 2 | 3 | 4 | 5 | 6 | 7 | 8 | 9 | 10 | 11 => decide
      | n + 12 => exact Int.le_refl 0
    exact this _
theorem dbm_nn (y : Int) (m : Nat) : 0 ≤ dbmI y m := by
  unfold dbmI
  have : ∀ l : List Nat, 0 ≤ (l.map fun i => domI y (i + 1)).sum := fun l => by
    induction l with
    | nil => exact Int.le_refl 0
    | cons a l ih => rw [List.map_cons, List.sum_cons]; have := dom_nn y (a + 1); omega
  exact this _
theorem tick_range {t d m yr : List Nat} {n : Int} (hy : yearI yr ≤ 9999) (h : tickI t d m yr = some n) : 0 ≤ n ∧ n ≤ lastT := by
  unfold tickI at h
  simp only at h
  have nh := valL_nn ((sp1 58 t).getD 0 [])
  have nm := valL_nn ((sp1 58 t).getD 1 [])
  have ns := valL_nn ((sp1 58 t).getD 2 [])
  generalize valL ((sp1 58 t).getD 0 []) = hh at *
  generalize valL ((sp1 58 t).getD 1 []) = mi at *
  generalize valL ((sp1 58 t).getD 2 []) = ss at *
  by_cases c1 : 23 < hh ∨ 59 < mi ∨ 59 < ss ∨ yearI yr < 1601
  · rw [if_pos c1] at h; cases h
  rw [if_neg c1] at h
  by_cases c2 : 1 ≤ valL d ∧ valL d ≤ domI (yearI yr) (monI m)
  · rw [if_neg (not_not_intro c2)] at h
    by_cases c3 : yearI yr < 1970
    · rw [if_pos c3] at h; cases h; exact ⟨Int.le_refl 0, by decide⟩
    rw [if_neg c3] at h
    have h := Option.some.inj h
    subst h
    generalize yearI yr = y at *
    have b0 : 0 ≤ dbfI y := by have := dbf_le (y := 1970) (z := y) (by decide) (by omega); have e : dbfI 1970 = 0 := by decide
                               omega
    have b1 : dbfI (y + 1) ≤ 2932897 := by have := dbf_le (y := y + 1) (z := 10000) (by omega) (by omega); have e : dbfI 10000 = 2932897 := by decide
                                           omega
    have b2 := dbf_succ y
    have b3 := dbm_nn y (monI m)
    have b4 : dbmI y (monI m) + domI y (monI m) ≤ ydI y := by
      clear c1 c2
      rw [← dbm_13]
      have hm := monI_le m
      cases hz : monI m with
      | zero =>
        have := dbm_le y (m := 2) (n := 13) (by decide) (by decide) (by decide)
        have e : dbmI y 2 = domI y 1 := by simp [dbmI, List.range, List.range.loop]
        have e2 : domI y 0 = domI y 1 := rfl
        have e3 : dbmI y 0 = 0 := rfl
        omega
      | succ k =>
        rw [hz] at hm
        have := dbm_le y (m := k + 2) (n := 13) (by omega) (by omega) (by decide)
        have e : dbmI y (k + 2) = dbmI y (k + 1) + domI y (k + 1) := dbm_succ y (m := k + 1) (by omega)
        omega
    unfold lastT
    omega
  · rw [if_pos c2] at h; cases h
theorem dateR_range {l : List Nat} {n : Int} (h : dateR l = some n) : 0 ≤ n ∧ n ≤ lastT := by
  unfold dateR dateF at h
  simp only at h
  have hf := FndFit.all ((toks [] l).map mkS) [] ⟨fun q hq => (nomatch hq), fun q hq => (nomatch hq)⟩
  generalize ((toks [] l).map mkS).foldl stepD [] = f at *
  split at h
  · cases h
  · exact tick_range (yearI_le (getP_fits hf 3)) h
end Kb

namespace Kb
open PySem PySem.Spec PyProof.Rows L2 TL
/-! ### a text times a number, longer ones -/
def rMulL : R2 := fun x y H Q => ∃ (a : Str) (n : Int), x = .str a ∧ y = .int n ∧ n ≤ 1000000 ∧ 0 ≤ n ∧ a.length ≤ 1000000 ∧ a.length * n.toNat ≤ 16000000 ∧ ∀ z : Str, tl z = (List.replicate n.toNat (tl a)).flatten → Q (.str z) H
theorem op_mulL {X : Cx} : OpR X (binaryOp .Mult) rMulL := by
  intro pins s σ H x y v u Q I rx ry h
  obtain ⟨a, n, rfl, rfl, h1, h2, h3, h4, q⟩ := h
  obtain ⟨t, rfl⟩ := rx
  obtain ⟨t2, rfl⟩ := ry
  have hz : a.length * n.toNat ≤ 16000000 := h4
  have hline : sizeLine = 16777216 := sizeLine_eq
  refine PySem.P.mul_str (by rw [decide_eq_false (by omega), decide_eq_false (by omega)]; rfl) (fun _ _ h5 => ?_) (fun _ _ => ?_) ?_
  · have h6 : (1000000 : Int) ≤ (2 ^ 63 - 1) / n := Int.le_ediv_of_mul_le (by omega) (by omega)
    omega
  · unfold Builtin.Str.tooLong
    rw [hline]
    exact decide_eq_false (by omega)
  · by_cases hn : n < 1
    · rw [if_pos hn]
      have e : n = 0 := by omega
      subst e
      exact ⟨by decide, .str Str.empty, H, I.tok _, ⟨_, rfl⟩, q Str.empty rfl⟩
    · rw [if_neg hn]
      by_cases h5 : (n == 1 || a.length == 0) = true
      · rw [if_pos h5]
        refine ⟨.str a, H, I, ⟨_, rfl⟩, q a ?_⟩
        rw [Bool.or_eq_true, beq_iff_eq, beq_iff_eq] at h5
        rcases h5 with rfl | h5
        · simp
        · rw [len_tl] at h5
          rw [List.eq_nil_of_length_eq_zero h5]; simp
      · rw [if_neg h5]
        refine ⟨?_, .str ⟨(List.replicate n.toNat a.cps).foldl (· ++ ·) #[]⟩, H, I.tok _, ⟨_, rfl⟩, q _ ?_⟩
        · rw [hline, len_tl]
          show (((List.replicate n.toNat a.cps).foldl (· ++ ·) #[]).toList).length ≤ _
          rw [foldl_app]
          have : ((List.replicate n.toNat a.cps.toList).flatten).length = n.toNat * a.length := by
            rw [PyProof.Rows.lm_len_rep_flat]; rfl
          simp only [Array.toList_empty, List.nil_append]
          rw [this, Nat.mul_comm]
          omega
        · show (((List.replicate n.toNat a.cps).foldl (· ++ ·) #[]).toList) = _
          rw [foldl_app]
          rfl
theorem giv_mulL {a : Str} {n : Int} (h1 : n ≤ 1000000 := by decide) (h2 : 0 ≤ n := by decide) (h3 : a.length ≤ 1000000 := by decide +kernel) (h4 : a.length * n.toNat ≤ 16000000 := by decide +kernel) : Giv (tOp rMulL (tC (.str a)) (tC (.int n))) (.str (repS n.toNat a)) := fun σ H Q q =>
  ⟨a, n, rfl, rfl, h1, h2, h3, h4, fun z hz => (ext_tl (hz.trans rfl) : z = repS n.toNat a) ▸ q⟩
end Kb
namespace Kb
open PySem PySem.Spec PyProof.Rows L2 TL
/-! ### a walk over the keys of a dict that is held -/
section
variable {K : PySem.W.Frag} {d : Addr} {o : Obj} {kvs : List (L2.Key × V)} {g : TG} {tb : TS} {D : Ends} {σ : L2.St} {H : Hp}
theorem for_keys (Pv : Nat → L2.St → Hp → Prop) (h0 : Pv 0 σ H) (hG : ∀ i σ H, i ≤ kvs.length → Pv i σ H → H d = some (.frz o (.dK kvs)))
    (hs : ∀ i k v σ H, kvs[i]? = some (k, v) → Pv i σ H → g (kV k) σ H fun σ2 H2 => tb { D with nx := Pv (i + 1), ct := Pv (i + 1), bk := D.nx } σ2 H2) (hd : ∀ σ H, Pv kvs.length σ H → D.nx σ H) :
    ∃ W : Nat → Nat → L2.St → Hp → Prop, (∃ m, W 0 m σ H) ∧ ∀ i m σ H, W i m σ H →
      ((Itk d o kvs).stop i H ∧ D.nx σ H) ∨ ((Itk d o kvs).go i H ∧ ∃ N : L2.St → Hp → Prop, (∀ σ' H', N σ' H' → ∃ m', m' < m ∧ W (i + 1) m' σ' H') ∧ ∀ x H', (Itk d o kvs).yld i H x H' → g x σ H' fun σ2 H2 => tb { D with nx := N, ct := N, bk := D.nx } σ2 H2) := by
  refine for_it walk_keys Pv h0 hG (fun i x σ H H' hi p y => ?_) hd
  obtain ⟨rfl, k, v, h1, rfl⟩ := y
  exact hs i k v σ _ h1 p
end
end Kb

namespace Kb
open PySem PySem.Spec PyProof.Rows L2 TL
/-! ### the law's loops: over its draws, over turns -/
section
variable {K : PySem.W.Frag} {g : TG} {tb : TS} {D : Ends} {σ : L2.St} {H : Hp}
/-- for draw in draws: each one is there when its turn comes -/
theorem for_draws {p : Addr} {ds : List Addr} (S : L2.St → Prop) (I : Hp → Prop) (hI : ∀ d ∈ ds, ∀ H H', Keep d H H' → I H → I H') (h0 : S σ) (i0 : I H) (m0 : H p = some (.lst (ds.map V.ref))) (nd : ds.Nodup) (dr : ∀ d ∈ ds, DrawAt H d 200000000)
    (hs : ∀ d σ H2 (N : L2.St → Hp → Prop), d ∈ ds → S σ → I H2 → DrawAt H2 d 200000000 → (∀ σ' H', S σ' → Keep d H2 H' → N σ' H') → g (.ref d) σ H2 fun σ2 H3 => tb { D with nx := N, ct := N, bk := D.nx } σ2 H3)
    (hd : ∀ σ H', S σ → I H' → D.nx σ H') :
    ∃ W : Nat → Nat → L2.St → Hp → Prop, (∃ m, W 0 m σ H) ∧ ∀ i m σ H, W i m σ H →
      ((Itl K p).stop i H ∧ D.nx σ H) ∨ ((Itl K p).go i H ∧ ∃ N : L2.St → Hp → Prop, (∀ σ' H', N σ' H' → ∃ m', m' < m ∧ W (i + 1) m' σ' H') ∧ ∀ x H', (Itl K p).yld i H x H' → g x σ H' fun σ2 H2 => tb { D with nx := N, ct := N, bk := D.nx } σ2 H2) := by
  refine for_list (K := K) (a := p) (xs := ds.map V.ref) (fun i σ H2 => S σ ∧ I H2 ∧ H2 p = some (.lst (ds.map V.ref)) ∧ ∀ j d, i ≤ j → ds[j]? = some d → DrawAt H2 d 200000000) ⟨h0, i0, m0, fun j d _ hj => dr d (List.mem_of_getElem? hj)⟩ (fun i σ H2 _ ⟨_, _, q, _⟩ => SqL.of q) ?_ (fun σ H' ⟨s, i, _⟩ => hd σ H' s i)
  rintro i v σ H2 hi ⟨hS, iH, m2, dr2⟩
  obtain ⟨d, hd, rfl⟩ : ∃ d, ds[i]? = some d ∧ v = .ref d := by
    rw [List.getElem?_map] at hi
    cases hx : ds[i]? with
    | none => rw [hx] at hi; cases hi
    | some d => rw [hx] at hi; cases hi; exact ⟨d, rfl, rfl⟩
  have dm := List.mem_of_getElem? hd
  have D2 := dr2 i d (Nat.le_refl _) hd
  have pd : p ≠ d := fun z => by
    obtain ⟨l, c, t, hm, _⟩ := D2
    rw [← z, m2] at hm; cases hm
  refine hs d σ H2 _ dm hS iH D2 fun σ' H' s' k => ⟨s', hI d dm _ _ k iH, k _ _ m2 pd, fun j e hj he => (dr2 j e (by omega) he).keep k fun z => ?_⟩
  subst z
  obtain ⟨l1, e1⟩ := (List.getElem?_eq_some_iff.mp hd)
  obtain ⟨l2, e2⟩ := (List.getElem?_eq_some_iff.mp he)
  have : i = j := (List.getElem_inj nd).mp (e1.trans e2.symm)
  omega
/-- for turn in range(n), B draws each -/
theorem for_turns {d : Addr} {n r B : Nat} (S : L2.St → Prop) (h0 : S σ) (D0 : DrawAt H d (r + B * n))
    (hs : ∀ (i : Nat) σ H2 (m : Nat) (N : L2.St → Hp → Prop), S σ → Keep d H H2 → DrawAt H2 d (m + B) → (∀ σ' H', S σ' → Keep d H2 H' → DrawAt H' d m → N σ' H') → g (.int (0 + (i : Nat))) σ H2 fun σ2 H3 => tb { D with nx := N, ct := N, bk := D.nx } σ2 H3)
    (hd : ∀ σ H', S σ → Keep d H H' → DrawAt H' d r → D.nx σ H') :
    ∃ W : Nat → Nat → L2.St → Hp → Prop, (∃ m, W 0 m σ H) ∧ ∀ i m σ H, W i m σ H →
      ((Itr 0 n).stop i H ∧ D.nx σ H) ∨ ((Itr 0 n).go i H ∧ ∃ N : L2.St → Hp → Prop, (∀ σ' H', N σ' H' → ∃ m', m' < m ∧ W (i + 1) m' σ' H') ∧ ∀ x H', (Itr 0 n).yld i H x H' → g x σ H' fun σ2 H2 => tb { D with nx := N, ct := N, bk := D.nx } σ2 H2) := by
  refine for_range (n := n) (fun i σ H2 => S σ ∧ Keep d H H2 ∧ DrawAt H2 d (r + B * (n - i))) ⟨h0, Keep.refl, D0⟩ ?_ ?_
  · rintro i σ H2 hi ⟨hS, k, D2⟩
    have e : r + B * (n - i) = (r + B * (n - (i + 1))) + B := by
      rw [show n - i = (n - (i + 1)) + 1 by omega, Nat.mul_succ]; omega
    rw [e] at D2
    exact hs i σ H2 _ _ hS k D2 fun σ' H' s' k' D' => ⟨s', k.trans k', D'⟩
  · rintro σ H' ⟨hS, k, D2⟩
    rw [Nat.sub_self, Nat.mul_zero] at D2
    exact hd σ H' hS k D2
end
end Kb

namespace Kb
open PySem PySem.Spec PyProof.Rows L2
/-! ### a def that is called by keywords alone -/
def kwg {α : Type} (ps ks : List Str) (ws : List α) : List α := ps.filterMap fun p => (ks.zip ws).lookup p
def DfW (K : PySem.W.Frag) (mg : Str → Option Value) (x : Str) (st : Stmt) (ps ks : List Str) : Prop :=
  ∃ (f : Addr) (fd : FuncData), Fun K x x st f fd ∧ mg x = some (.ref f) ∧ (∀ us : List Value, us.length = ps.length → bindArgs fd ⟨us, []⟩ = pure (ps.zip us)) ∧
    ∀ ws : List Value, ws.length = ks.length → bindArgs fd ⟨[], ks.zip ws⟩ = pure (ps.zip (kwg ps ks ws))
theorem DfW.mk {K : PySem.W.Frag} {mg : Str → Option Value} {h : Heap} {x : Str} {st : Stmt} {ps ks : List Str} {f : Addr} {oc : Value} {od an : Option Addr} {sl : Array (Option Value)} {kV doc pm cd ct : Value} (X : K.In h) (G : h.Ns PySem.mainGlobals mg)
    (b : ∀ (kV doc pm : Value) (an : Option Addr) (cdv ct : Value) (us : List Value), us.length = ps.length → bindArgs (PySem.W.fnOf x x (defArgs st) (defBody st) (defScope st) .none kV doc pm an cdv ct) ⟨us, []⟩ = pure (ps.zip us))
    (bw : ∀ (kV doc pm : Value) (an : Option Addr) (cdv ct : Value) (ws : List Value), ws.length = ks.length → bindArgs (PySem.W.fnOf x x (defArgs st) (defBody st) (defScope st) .none kV doc pm an cdv ct) ⟨[], ks.zip ws⟩ = pure (ps.zip (kwg ps ks ws)))
    (a : PySem.W.nsIn K PySem.mainGlobals x = some (some (.ref f)))
    (l : K.lookup f = some ⟨oc, od, .func (PySem.W.fnOf x x (defArgs st) (defBody st) (defScope st) .none kV doc pm an cd ct), sl⟩)
    (c : PySem.W.codeIn K cd x = true) (k : PySem.W.keepIn K (.ref f) = true) : DfW K mg x st ps ks :=
  ⟨f, _, fun_mk l c k, PySem.W.mg_of X G a, b kV doc pm an cd ct, bw kV doc pm an cd ct⟩
def CalW (P : Program) (w : World) (K : PySem.W.Frag) (mg : Str → Option Value) (base : Heap) (CX : CXT) (k : Nat) (x : Str) (ps ks : List Str) (sp : Sp) : Prop :=
  ∃ (f : Addr) (fd : FuncData), FnOk P w K mg base CX k f fd ps sp ∧ mg x = some (.ref f) ∧ PySem.W.keepIn K (.ref f) = true ∧ Binds K fd ps [] ∧
    ∀ ws : List Value, ws.length = ks.length → bindArgs fd ⟨[], ks.zip ws⟩ = pure (ps.zip (kwg ps ks ws))
section
variable {P : Program} {w : World} {K : PySem.W.Frag} {mg : Str → Option Value} {base : Heap}
theorem CalW.cal {CX : CXT} {k : Nat} {x : Str} {ps ks : List Str} {sp : Sp} (c : CalW P w K mg base CX k x ps ks sp) : Cal P w K mg base CX k x ps sp := by
  obtain ⟨f, fd, F, m, kp, b, _⟩ := c
  exact ⟨f, fd, F, m, kp, b⟩
theorem DfW.ok0 {x : Str} {st : Stmt} {N ps ks : List Str} {k : Nat} {sp : Sp} (D : DfW K mg x st ps ks) (S : FnScope N ps (defScope st)) (len : ∀ vs H Q E, sp vs H Q E → vs.length = ps.length)
    (hbody : ∀ (f : Addr) (cdv : Value) (A : Around) (outer : List Env) (s : Shared) (H : Hp) (vs : List V) (Q : VK) (E : XK), Room k (A.deeper (envOfC x (defScope st) s.heap.objs.size f cdv)) → sp vs H Q E →
      ∃ t, PSs (cxOf CX0 P w K mg base N x (defScope st) f cdv A outer s H E).nox (defBody st) t ∧ t { nx := fun _ H' => Q .non H', rt := Q } (start N vs) H) : CalW P w K mg base CX0 (k + 1) x ps ks sp := by
  obtain ⟨f, fd, F, m, b, bw⟩ := D
  exact ⟨f, fd, F.ok S len (hbody f), m, F.kp, .all b, bw⟩
end
theorem vals_lookup {p : Str} : ∀ {ks : List Str} {zs : List V} {ws : List Value}, Vals zs ws → ((ks.zip zs).lookup p = none ∧ (ks.zip ws).lookup p = none) ∨ ∃ z u, (ks.zip zs).lookup p = some z ∧ (ks.zip ws).lookup p = some u ∧ RelV z u
  | [], _, _, _ => .inl ⟨by rw [List.zip_nil_left]; rfl, by rw [List.zip_nil_left]; rfl⟩
  | k :: ks, _, _, .nil => .inl ⟨by rw [List.zip_nil_right]; rfl, by rw [List.zip_nil_right]; rfl⟩
  | k :: ks, _, _, .cons r t => by
    rw [List.zip_cons_cons, List.zip_cons_cons, List.lookup_cons, List.lookup_cons]
    cases p == k with
    | true => exact .inr ⟨_, _, rfl, rfl, r⟩
    | false => exact vals_lookup (ks := ks) t
theorem vals_kwg {ks : List Str} {zs : List V} {ws : List Value} (r : Vals zs ws) : ∀ ps : List Str, Vals (kwg ps ks zs) (kwg ps ks ws)
  | [] => .nil
  | p :: ps => by
    unfold kwg
    rw [List.filterMap_cons, List.filterMap_cons]
    rcases vals_lookup (p := p) (ks := ks) r with ⟨h1, h2⟩ | ⟨z, u, h1, h2, h3⟩
    · rw [h1, h2]; exact vals_kwg r ps
    · rw [h1, h2]; exact .cons h3 (vals_kwg r ps)
def tCallW (sp : Sp) (ps ks : List Str) (E : XK) (tk : TA) : TE := fun σ H Q => tk σ H fun zs H2 => zs.length = ks.length ∧ sp (kwg ps ks zs) H2 Q E
theorem pe_cw {X : Cx} {CX : CXT} {j k : Nat} {x : Str} {ps ks : List Str} {sp : Sp} {E : XK} {p pos : Pos} {kws : List Keyword} {tk : TA} (c : CalW X.prog X.w X.K X.mg X.base CX j x ps ks sp) (hr : Room k X.A) (hjk : j ≤ k) (hg : Gl X x) (hx : Passes CX X E)
    (hkw : PK X kws tk) (hall : (backToKw pos (keywordEach kws X.env)).all (·.1.isSome) = true := by rfl) (hks : (backToKw pos (keywordEach kws X.env)).filterMap (·.1) = ks := by rfl) (hdb : (x == ("__debug__" : Str)) = false := by decide)
    (hpl : ((backTo pos (starEach [] X.env)).any (·.1) || (backToKw pos (keywordEach kws X.env)).any (·.1.isNone)) = false := by rfl) :
    PE X (.Call (.Name x p) [] kws pos) (tCallW sp ps ks E tk) := by
  obtain ⟨f, fd, F, m, kp, b, bw⟩ := c
  refine ⟨fun pins s σ H Q I h => ?_⟩
  refine wpAny_Call_Name_kw (ld_glob I hg m ?_ hdb)
  refine PySem.W.callWith_KW0 (h₀ := X.base) I.ok.mod.kin kp hall ?_ hpl
  refine thn (hkw.run pos pins s σ H _ I h) fun ws s2 ⟨zs, H2, I2, rz, l1, q2⟩ => ⟨I2.kIn, ?_⟩
  rw [hks]
  have r2 := vals_kwg rz (ks := ks) ps
  have lw : ws.length = ks.length := by rw [← rz.length]; exact l1
  refine wpAny_call (codeAny_mono (F.run X.A X.stack s2 H2 ⟨[], ks.zip ws⟩ (kwg ps ks ws) (kwg ps ks zs) Q E (hr.mono hjk) I2.env0 (.of_eq (bw ws lw)) r2 q2) fun r s' hq => ?_)
  cases r with
  | error e => exact hx pins σ H2 s2 e s' I2 hq
  | ok fl =>
    cases fl with
    | ret u => exact I2.after hq
    | next => exact False.elim hq
    | brk => exact False.elim hq
    | cont => exact False.elim hq
end Kb

namespace Kb
open PySem PySem.Spec PyProof.Rows L2 TL
/-! ### order of data -/
def rOrd (f : PyData → PyData → Bool) (K : PySem.W.Frag) : R2 := fun x y H Q => ∃ d e, Dp K H x d ∧ Dp K H y e ∧ PySem.W.alike d e = true ∧ d ≠ .none ∧ d.depth ≤ 60 ∧ Q (.bl (f d e)) H
section
variable {X : Cx}
theorem op_ltD (hu : X.A.units + 64 < cLine) : OpR X (compareOp .Lt) (rOrd PySem.W.dataLt X.K) := by
  intro pins s σ H x y v u Q I rx ry ⟨d, e, hd, he, ha, hn, hz, q⟩
  obtain ⟨as, r1⟩ := Dp.reads I d x v hd rx
  obtain ⟨bs, r2⟩ := Dp.reads I e y u he ry
  exact PySem.W.lt_data r1 r2 ha hn (by have := Nat.min_le_left d.depth e.depth; omega) ⟨.bl _, H, I, rfl, q⟩
theorem op_geD (hu : X.A.units + 64 < cLine) : OpR X (compareOp .GtE) (rOrd (fun d e => !PySem.W.dataLt d e) X.K) := by
  intro pins s σ H x y v u Q I rx ry ⟨d, e, hd, he, ha, hn, hz, q⟩
  obtain ⟨as, r1⟩ := Dp.reads I d x v hd rx
  obtain ⟨bs, r2⟩ := Dp.reads I e y u he ry
  exact PySem.W.ge_data r1 r2 ha hn (by have := Nat.min_le_left d.depth e.depth; omega) ⟨.bl _, H, I, rfl, q⟩
theorem op_gtD (hu : X.A.units + 64 < cLine) : OpR X (compareOp .Gt) (rOrd (fun d e => PySem.W.dataLt e d) X.K) := by
  intro pins s σ H x y v u Q I rx ry ⟨d, e, hd, he, ha, hn, hz, q⟩
  obtain ⟨as, r1⟩ := Dp.reads I d x v hd rx
  obtain ⟨bs, r2⟩ := Dp.reads I e y u he ry
  exact PySem.W.gt_data r1 r2 ha hn (by have := Nat.min_le_left d.depth e.depth; omega) ⟨.bl _, H, I, rfl, q⟩
theorem op_leD (hu : X.A.units + 64 < cLine) : OpR X (compareOp .LtE) (rOrd (fun d e => !PySem.W.dataLt e d) X.K) := by
  intro pins s σ H x y v u Q I rx ry ⟨d, e, hd, he, ha, hn, hz, q⟩
  obtain ⟨as, r1⟩ := Dp.reads I d x v hd rx
  obtain ⟨bs, r2⟩ := Dp.reads I e y u he ry
  exact PySem.W.le_data r1 r2 ha hn (by have := Nat.min_le_left d.depth e.depth; omega) ⟨.bl _, H, I, rfl, q⟩
end
/-! ### year, month, day, time -/
def key4 (a b c : Int) (x : Str) : PyData := .tuple [.int a, .int b, .int c, .str x]
theorem key4_alike (a b c : Int) (x : Str) (a' b' c' : Int) (x' : Str) : PySem.W.alike (key4 a b c x) (key4 a' b' c' x') = true := by simp [key4, PySem.W.alike, PySem.W.alikeAll]
theorem key4_lt (a b c : Int) (x : Str) (a' b' c' : Int) (x' : Str) : PySem.W.dataLt (key4 a b c x) (key4 a' b' c' x') = true ↔ a < a' ∨ (a = a' ∧ (b < b' ∨ (b = b' ∧ (c < c' ∨ (c = c' ∧ tl x < tl x'))))) := by
  unfold PySem.W.dataLt key4
  simp only [PySem.W.keyToks, PySem.W.keyToksAll, List.cons_append, List.nil_append]
  rw [lex_self]
  rcases Int.lt_trichotomy a a' with h | h | h
  · rw [lex_diff (O := itemOrd) (fun e => by cases e; omega)]
    show decide (a < a') = true ↔ _
    simp [h]
  · subst h
    rw [lex_self, lex_self]
    rcases Int.lt_trichotomy b b' with h | h | h
    · rw [lex_diff (O := itemOrd) (fun e => by cases e; omega)]
      show decide (b < b') = true ↔ _
      simp [h]
    · subst h
      rw [lex_self, lex_self]
      rcases Int.lt_trichotomy c c' with h | h | h
      · rw [lex_diff (O := itemOrd) (fun e => by cases e; omega)]
        show decide (c < c') = true ↔ _
        simp [h]
      · subst h
        rw [lex_self, lex_self]
        by_cases hx : tl x = tl x'
        · rw [show x.cps.toList = x'.cps.toList from hx, lex_self, lex_irrefl]
          simp [hx, Int.lt_irrefl]
        · rw [lex_diff (O := itemOrd) (fun e => hx (Sum.inr.inj e))]
          show decide (tl x < tl x') = true ↔ _
          simp [Int.lt_irrefl]
      · rw [lex_diff (O := itemOrd) (fun e => by cases e; omega)]
        show decide (c < c') = true ↔ _
        simp only [decide_eq_true_eq]; omega
    · rw [lex_diff (O := itemOrd) (fun e => by cases e; omega)]
      show decide (b < b') = true ↔ _
      simp only [decide_eq_true_eq]; omega
  · rw [lex_diff (O := itemOrd) (fun e => by cases e; omega)]
    show decide (a < a') = true ↔ _
    simp only [decide_eq_true_eq]; omega
end Kb
namespace Kb
open PySem PySem.Spec PyProof.Rows L2 TL
theorem pad2_two : ∀ n, n < 100 → padL 2 n = [48 + n / 10, 48 + n % 10] := by decide +kernel
/-- a time as text -/
def clockL (h n s : Int) : List Nat := timeL (padL 2 h.toNat) (padL 2 n.toNat) (padL 2 s.toNat)
theorem clock_eq {h n s : Int} (h1 : 0 ≤ h) (h2 : h < 24) (n1 : 0 ≤ n) (n2 : n < 60) (s1 : 0 ≤ s) (s2 : s < 60) :
    clockL h n s = [48 + h.toNat / 10, 48 + h.toNat % 10, 58, 48 + n.toNat / 10, 48 + n.toNat % 10, 58, 48 + s.toNat / 10, 48 + s.toNat % 10] := by
  unfold clockL timeL
  rw [pad2_two _ (by omega), pad2_two _ (by omega), pad2_two _ (by omega)]
  rfl
theorem clock_lt {t y m d h n s t' y' m' d' h' n' s' : Int} (a : Dat t y m d h n s) (b : Dat t' y' m' d' h' n' s') : clockL h n s < clockL h' n' s' ↔ 3600 * h + 60 * n + s < 3600 * h' + 60 * n' + s' := by
  obtain ⟨_, _, _, _, _, _, h1, h2, n1, n2, s1, s2, _⟩ := a
  obtain ⟨_, _, _, _, _, _, g1, g2, k1, k2, r1, r2, _⟩ := b
  rw [clock_eq h1 h2 n1 n2 s1 s2, clock_eq g1 g2 k1 k2 r1 r2]
  simp only [List.cons_lt_cons_iff, List.lt_irrefl, List.not_lt_nil, true_and, and_false, or_false]
  omega
theorem clock_inj {t y m d h n s t' y' m' d' h' n' s' : Int} (a : Dat t y m d h n s) (b : Dat t' y' m' d' h' n' s') (e : clockL h n s = clockL h' n' s') : h = h' ∧ n = n' ∧ s = s' := by
  obtain ⟨_, _, _, _, _, _, h1, h2, n1, n2, s1, s2, _⟩ := a
  obtain ⟨_, _, _, _, _, _, g1, g2, k1, k2, r1, r2, _⟩ := b
  rw [clock_eq h1 h2 n1 n2 s1 s2, clock_eq g1 g2 k1 k2 r1 r2] at e
  simp only [List.cons.injEq] at e
  omega
/-- the later tick has the later key -/
theorem Dat.key_lt {t y m d h n s t' y' m' d' h' n' s' : Int} {x x' : Str} (a : Dat t y m d h n s) (b : Dat t' y' m' d' h' n' s') (ex : tl x = clockL h n s) (ex' : tl x' = clockL h' n' s') :
    PySem.W.dataLt (key4 y m d x) (key4 y' m' d' x') = decide (t < t') := by
  rw [Bool.eq_iff_iff, key4_lt, decide_eq_true_eq, ex, ex', clock_lt a b]
  obtain ⟨a1, a2, a3, a4, a5, a6⟩ := a.day
  obtain ⟨b1, b2, b3, b4, b5, b6⟩ := b.day
  have am1 := a.m1
  have am2 := a.m2
  have bm1 := b.m1
  have bm2 := b.m2
  have ay := a.y1
  have bye := b.y1
  constructor
  · rintro (q | ⟨rfl, q | ⟨rfl, q | ⟨rfl, q⟩⟩⟩)
    · have := dbf_le (y := y + 1) (z := y') (by omega) (by omega); omega
    · have := dbm_le y (m := m.toNat + 1) (n := m'.toNat) (by omega) (by omega) (by omega); omega
    · omega
    · omega
  · intro q
    rcases Int.lt_trichotomy y y' with g | rfl | g
    · exact .inl g
    · refine .inr ⟨rfl, ?_⟩
      rcases Int.lt_trichotomy m m' with g | rfl | g
      · exact .inl g
      · refine .inr ⟨rfl, ?_⟩
        rcases Int.lt_trichotomy d d' with g | rfl | g
        · exact .inl g
        · exact .inr ⟨rfl, by omega⟩
        · omega
      · have := dbm_le y (m := m'.toNat + 1) (n := m.toNat) (by omega) (by omega) (by omega); omega
    · have := dbf_le (y := y' + 1) (z := y) (by omega) (by omega); omega
theorem Dat.key_eq {t y m d h n s t' y' m' d' h' n' s' : Int} {x x' : Str} (a : Dat t y m d h n s) (b : Dat t' y' m' d' h' n' s') (ex : tl x = clockL h n s) (ex' : tl x' = clockL h' n' s') :
    PyData.eqv (key4 y m d x) (key4 y' m' d' x') = decide (t = t') := by
  unfold key4
  rw [Bool.eq_iff_iff, decide_eq_true_eq]
  simp only [PyData.eqv, PyData.eqvAll, Bool.and_eq_true, Bool.and_true, beq_iff_eq]
  constructor
  · rintro ⟨e1, e2, e3, e4⟩
    subst e1 e2 e3 e4
    obtain ⟨q1, q2, q3⟩ := clock_inj a b (ex.symm.trans ex')
    subst q1 q2 q3
    exact a.e.trans b.e.symm
  · rintro rfl
    obtain ⟨rfl, rfl, rfl, rfl, rfl, rfl⟩ := a.uniq b
    exact ⟨rfl, rfl, rfl, ext_tl (ex.trans ex'.symm)⟩
end Kb
namespace Kb
open PySem PySem.Spec PyProof.Rows L2 TL
/-! ### the words of a written date -/
def dateWords (t y m dd hh mm ss : Int) : List (List Nat) := [weekL t ++ [44], padL 2 dd.toNat, monL m, padL 4 y.toNat, clockL hh mm ss, [71, 77, 84]]
theorem date_joinW (t y m dd hh mm ss : Int) : weekL t ++ ([44, 32] ++ restL y m dd hh mm ss) = joinL [32] (dateWords t y m dd hh mm ss) := by
  unfold dateWords restL clockL timeL
  simp only [joinL, List.append_assoc, List.cons_append, List.nil_append]
theorem noblank_dig {l : List Nat} (h : digB l = true) : (32 : Nat) ∉ l := fun hm => by
  have := (digB_iff.mp h).1 32 hm
  omega
theorem week_free : ∀ x ∈ weekN, (32 : Nat) ∉ tl x := by decide +kernel
theorem mon_free : ∀ x ∈ monN, (32 : Nat) ∉ tl x := by decide +kernel
theorem mon_in (m : Int) (h1 : 1 ≤ m) (h2 : m ≤ 12) : monN.getD (m.toNat - 1) "" ∈ monN := by
  have hk : m.toNat - 1 < monN.length := by show _ < 12; omega
  rw [List.getD_eq_getElem?_getD, List.getElem?_eq_getElem hk]
  exact List.getElem_mem hk
theorem week_in (t : Int) : weekN.getD ((t / 86400 + 3) % 7).toNat "" ∈ weekN := by
  have hk : ((t / 86400 + 3) % 7).toNat < weekN.length := by show _ < 7; omega
  rw [List.getD_eq_getElem?_getD, List.getElem?_eq_getElem hk]
  exact List.getElem_mem hk
theorem Dat.words {t y m dd hh mm ss : Int} (c : Dat t y m dd hh mm ss) : sp1 32 (weekL t ++ ([44, 32] ++ restL y m dd hh mm ss)) = dateWords t y m dd hh mm ss := by
  rw [date_joinW]
  refine sp1_joinL (by simp [dateWords]) fun p hp => ?_
  have d3 := dom_le y (m := m.toNat) (by have := c.m1; omega) (by have := c.m2; omega)
  have d1 := c.d1
  have d2 := c.d2
  have h1 := c.h2
  have n1 := c.n2
  have s1 := c.s2
  have y1 := c.y1
  have y2 := c.y2
  simp only [dateWords, List.mem_cons, List.not_mem_nil, or_false] at hp
  rcases hp with rfl | rfl | rfl | rfl | rfl | rfl
  · intro hm
    rcases List.mem_append.mp hm with q | q
    · exact week_free _ (week_in t) q
    · simp at q
  · exact noblank_dig (pad2 (by omega)).1
  · exact mon_free _ (mon_in m c.m1 c.m2)
  · rw [pad4 (by omega) (by omega)]; exact noblank_dig (num4 (by omega) (by omega)).1
  · rw [clock_eq c.h1 c.h2 c.n1 c.n2 c.s1 c.s2]
    simp only [List.mem_cons, List.not_mem_nil, or_false]
    omega
  · decide
theorem Dat.dd_int {t y m dd hh mm ss : Int} (c : Dat t y m dd hh mm ss) : digB (padL 2 dd.toNat) = true ∧ valL (padL 2 dd.toNat) = dd.toNat := by
  have d3 := dom_le y (m := m.toNat) (by have := c.m1; omega) (by have := c.m2; omega)
  have d1 := c.d1
  have d2 := c.d2
  have p := pad2 (n := dd.toNat) (by omega)
  exact ⟨p.1, p.2.2.1⟩
theorem Dat.yy_int {t y m dd hh mm ss : Int} (c : Dat t y m dd hh mm ss) : digB (padL 4 y.toNat) = true ∧ valL (padL 4 y.toNat) = y.toNat ∧ (padL 4 y.toNat).length = 4 := by
  have y1 := c.y1
  have y2 := c.y2
  have z := num4 (n := y.toNat) (by omega) (by omega)
  rw [pad4 (by omega) (by omega)]
  exact ⟨z.1, z.2.2, z.2.1⟩
end Kb
namespace Kb
open PySem PySem.Spec PyProof.Rows L2 TL
theorem mon_find : ∀ m, m < 12 → Txt.find ("JanFebMarAprMayJunJulAugSepOctNovDec" : Str) (monN.getD m "") = (3 * (m : Nat) : Int) := by decide +kernel
end Kb
namespace Kb
open PySem PySem.Spec PyProof.Rows L2 TL
theorem week_len : ∀ x ∈ weekN, (tl x).length = 3 ∧ ∀ c ∈ tl x, c < 128 := by decide +kernel
theorem Dat.wlen {t y m dd hh mm ss : Int} (c : Dat t y m dd hh mm ss) : ∀ l ∈ dateWords t y m dd hh mm ss, l.length ≤ 8 ∧ ∀ s ∈ l, s < 128 := by
  intro l hl
  have d3 := dom_le y (m := m.toNat) (by have := c.m1; omega) (by have := c.m2; omega)
  have d1 := c.d1
  have d2 := c.d2
  have y1 := c.y1
  have y2 := c.y2
  simp only [dateWords, List.mem_cons, List.not_mem_nil, or_false] at hl
  rcases hl with rfl | rfl | rfl | rfl | rfl | rfl
  · have := week_len _ (week_in t)
    refine ⟨by rw [List.length_append]; show (weekL t).length + 1 ≤ 8; unfold weekL; omega, fun s hs => ?_⟩
    rcases List.mem_append.mp hs with q | q
    · exact this.2 s q
    · simp at q; omega
  · have p := pad2 (n := dd.toNat) (by omega)
    exact ⟨by omega, fun s hs => dig_ascii p.1 s hs⟩
  · obtain ⟨f1, f2, f3, f4, f5⟩ := monL_ok c.m1 c.m2
    exact ⟨by omega, f4⟩
  · have z := c.yy_int
    exact ⟨by omega, fun s hs => dig_ascii z.1 s hs⟩
  · have h1 := c.h2
    have n1 := c.n2
    have s1 := c.s2
    have h0 := c.h1
    have n0 := c.n1
    have s0 := c.s1
    rw [clock_eq h0 h1 n0 n1 s0 s1]
    refine ⟨by simp, fun s hs => ?_⟩
    simp only [List.mem_cons, List.not_mem_nil, or_false] at hs
    omega
  · exact ⟨by decide, by decide⟩
theorem Dat.len {t y m dd hh mm ss : Int} (c : Dat t y m dd hh mm ss) {x : Str} (e : tl x = weekL t ++ ([44, 32] ++ restL y m dd hh mm ss)) : x.length ≤ 54 := by
  rw [len_tl, e, date_joinW]
  have := joinL_len (c := 32) (B := 8) (dateWords t y m dd hh mm ss) fun l hl => (c.wlen l hl).1
  have e6 : (dateWords t y m dd hh mm ss).length = 6 := rfl
  omega
end Kb
namespace Kb
open PySem PySem.Spec PyProof.Rows L2 TL
theorem dom_dec (y : Int) : domI y 12 = 31 := by unfold domI; rw [if_neg (by omega)]; rfl
/-- the day behind -/
theorem Dat.next {t y m dd hh mm ss y' m' dd' hh' mm' ss' : Int} (c : Dat t y m dd hh mm ss) (c' : Dat (t + 86400) y' m' dd' hh' mm' ss') :
    (hh = hh' ∧ mm = mm' ∧ ss = ss') ∧ ((dd < 31 ∧ y' = y ∧ m' = m ∧ dd' = dd + 1) ∨ (27 < dd ∧ dd' = 1 ∧ ((m < 12 ∧ m' = m + 1 ∧ y' = y) ∨ (m = 12 ∧ m' = 1 ∧ y' = y + 1)))) := by
  have c0 := c
  obtain ⟨y1, y2, m1, m2, d1, d2, h1, h2, n1, n2, s1, s2, e⟩ := c
  have g1 := dom_ge y (m := m.toNat) (by omega) (by omega)
  have g2 := dom_le y (m := m.toNat) (by omega) (by omega)
  rcases Int.lt_or_le dd (domI y m.toNat) with h | h
  · have n : Dat (t + 86400) y m (dd + 1) hh mm ss := ⟨y1, y2, m1, m2, by omega, by omega, h1, h2, n1, n2, s1, s2, by omega⟩
    obtain ⟨q1, q2, q3, q4, q5, q6⟩ := n.uniq c'
    exact ⟨⟨q4, q5, q6⟩, .inl ⟨by omega, q1.symm, q2.symm, q3.symm⟩⟩
  · have hd : dd = domI y m.toNat := by omega
    rcases Int.lt_or_le m 12 with k | k
    · have b1 := dbm_succ y (m := m.toNat) (by omega)
      have b2 := dom_ge y (m := m.toNat + 1) (by omega) (by omega)
      have n : Dat (t + 86400) y (m + 1) 1 hh mm ss := ⟨y1, y2, by omega, by omega, by omega, by rw [show (m + 1).toNat = m.toNat + 1 by omega]; omega, h1, h2, n1, n2, s1, s2, by rw [show (m + 1).toNat = m.toNat + 1 by omega]; omega⟩
      obtain ⟨q1, q2, q3, q4, q5, q6⟩ := n.uniq c'
      exact ⟨⟨q4, q5, q6⟩, .inr ⟨by omega, q3.symm, .inl ⟨k, q2.symm, q1.symm⟩⟩⟩
    · obtain rfl : m = 12 := by omega
      have b1 : dbmI y 13 = dbmI y 12 + domI y 12 := dbm_succ y (m := 12) (by omega)
      have b2 : dbmI y 13 = ydI y := dbm_13 y
      have b3 := dbf_succ y
      have b4 := c'.day
      have b5 := c'.y2
      have b6 := dom_ge (y + 1) (m := 1) (by omega) (by omega)
      have e12 : (12 : Int).toNat = 12 := rfl
      rw [e12] at e hd
      have ee : t + 86400 = 86400 * (dbfI (y + 1) + 0 + 1 - 1) + 3600 * hh + 60 * mm + ss := by omega
      have hy : y + 1 ≤ 9999 := by
        rcases Int.lt_or_le 9999 (y + 1) with g | g
        · have := dbf_le (y := y' + 1) (z := y + 1) (by have := c'.y1; omega) (by omega)
          omega
        · exact g
      have n : Dat (t + 86400) (y + 1) 1 1 hh mm ss := ⟨by omega, hy, by omega, by omega, by omega, by show 1 ≤ domI (y + 1) 1; omega, h1, h2, n1, n2, s1, s2, ee⟩
      obtain ⟨q1, q2, q3, q4, q5, q6⟩ := n.uniq c'
      exact ⟨⟨q4, q5, q6⟩, .inr ⟨by omega, q3.symm, .inr ⟨rfl, q2.symm, q1.symm⟩⟩⟩
def wkc : List Str := ["Sun,", "Mon,", "Tue,", "Wed,", "Thu,", "Fri,", "Sat,"]
theorem wkc_is : ∀ i, i < 7 → tl (weekN.getD i "") ++ [44] = tl (wkc.getD ((i + 1) % 7) "") := by decide +kernel
theorem wkc_at : ∀ i, i < 7 → ∀ j, j < i → wkc.getD j "" ≠ wkc.getD i "" := by decide +kernel
/-- the word of a day among the seven -/
theorem week_word {t : Int} {w : Str} (e : tl w = weekL t ++ [44]) : w = wkc.getD ((t / 86400 + 4) % 7).toNat "" := by
  refine ext_tl (e.trans ?_)
  unfold weekL
  rw [wkc_is _ (by omega)]
  congr 2
  omega
end Kb
namespace Kb
open PySem PySem.Spec PyProof.Rows L2 TL
/-- the four words of a written date in any order -/
theorem Dat.order_read {t y m dd hh mm ss : Int} (c : Dat t y m dd hh mm ss) (h0 : 0 ≤ t) {w1 w2 w3 w4 : Str} (e1 : tl w1 = padL 2 dd.toNat) (e2 : tl w2 = monL m) (e3 : tl w3 = padL 4 y.toNat) (e4 : tl w4 = clockL hh mm ss) {o : List Nat} (ho : o.Perm (List.range 4)) :
    dateR (tl (Txt.join (" " : Str) (o.map fun k => [w1, w2, w3, w4].getD k ""))) = some t := by
  obtain ⟨f1, f2, f3, f4, f5⟩ := monL_ok c.m1 c.m2
  have c' := c
  obtain ⟨y1, y2, m1, m2, d1, d2, h1, h2, n1, n2, s1, s2, e⟩ := c'
  have d3 := dom_le y (m := m.toNat) (by omega) (by omega)
  obtain ⟨p1, p2, p3, _⟩ := pad2 (n := dd.toNat) (by omega)
  obtain ⟨q1, q2, q3, _⟩ := pad2 (n := hh.toNat) (by omega)
  obtain ⟨r1, r2, r3, _⟩ := pad2 (n := mm.toNat) (by omega)
  obtain ⟨u1, u2, u3, _⟩ := pad2 (n := ss.toNat) (by omega)
  obtain ⟨z1, z2, z3⟩ := num4 (n := y.toNat) (by omega) (by omega)
  have z0 := pad4 (n := y.toNat) (by omega) (by omega)
  rw [← z0] at z1 z2 z3
  obtain ⟨kt, tt⟩ := KT_of q1 r1 u1 (by omega) (by omega) (by omega)
  have ky := KY_of z1 z2
  have hk4 : ∀ k ∈ o, k < 4 := fun k hk => List.mem_range.mp (ho.mem_iff.mp hk)
  have eT : (o.map fun k => [w1, w2, w3, w4].getD k "") = (o.map fun k => (k + 1) % 4).map fun k => [w4, w1, w2, w3].getD k "" := by
    rw [List.map_map]
    refine List.map_congr_left fun k hk => ?_
    have := hk4 k hk
    match k, this with
    | 0, _ => rfl
    | 1, _ => rfl
    | 2, _ => rfl
    | 3, _ => rfl
  have hp : (o.map fun k => (k + 1) % 4).Perm [0, 1, 2, 3] := (ho.map _).trans (by decide)
  rw [eT]
  generalize (o.map fun k => (k + 1) % 4) = o' at hp ⊢
  have ok : ∀ w ∈ o'.map (fun k => [w4, w1, w2, w3].getD k ""), tokOk (tl w) := fun w hw => by
    obtain ⟨k, hk, rfl⟩ := List.mem_map.mp hw
    have hk := hp.mem_iff.mp hk
    simp only [List.mem_cons, List.not_mem_nil, or_false] at hk
    rcases hk with rfl | rfl | rfl | rfl
    · show tokOk (tl w4); rw [e4]; exact tt
    · show tokOk (tl w1); rw [e1]; exact dig_tok p1
    · show tokOk (tl w2); rw [e2]; exact f3
    · show tokOk (tl w3); rw [e3]; exact dig_tok z1
  have key := date_of_txt (x := Txt.join (" " : Str) (o'.map fun k => [w4, w1, w2, w3].getD k "")) (a := w4) (b := w1) (c := w2) (e := w3) (o := o')
    (by rw [e4]; exact kt) (by rw [e1]; exact KD_of p1 (by omega)) (by rw [e2]; exact f1) (by rw [e3]; exact ky.a) (by rw [e3]; exact ky.c) (by rw [e3]; exact ky.d) hp
    (fun z => absurd z (by rw [e3, ky.b]; exact Bool.false_ne_true)) (A := (o'.map fun k => [w4, w1, w2, w3].getD k "").map tl) (E := []) (by
      rw [List.append_nil, join_tl]
      exact toks_join (s := tl (" " : Str)) (by decide +kernel) (by decide +kernel) _ fun l hl => by obtain ⟨w, hw, rfl⟩ := List.mem_map.mp hl; exact ok w hw) rfl
  rw [key, e1, e2, e3, e4, ← c.due h0]
  exact tick_due q1 r1 u1 (by omega) (by omega) (by omega) (by omega) f2 (by rw [year4 z2]; omega) (by omega) m1 m2 d1 d2 h1 h2 n1 n2 s1 s2
end Kb
namespace Kb
open PySem PySem.Spec PyProof.Rows L2 TL
theorem leap_400 (y r : Int) : leapB (y + 400 * r) = leapB y := by
  rw [Bool.eq_iff_iff, leap_iff, leap_iff]
  omega
theorem dom_400 (y r : Int) (m : Nat) : domI (y + 400 * r) m = domI y m := by unfold domI; rw [leap_400]
theorem dbm_400 (y r : Int) (m : Nat) : dbmI (y + 400 * r) m = dbmI y m := by
  unfold dbmI
  simp only [dom_400]
/-- rounds of 400 years -/
theorem Dat.rounds {t y m dd hh mm ss y' m' dd' hh' mm' ss' r : Int} (c : Dat t y m dd hh mm ss) (h0 : 0 ≤ t) (hr : 0 ≤ r) (hl : t + 86400 * 146097 * r ≤ lastT) (c' : Dat (t + 86400 * 146097 * r) y' m' dd' hh' mm' ss') :
    y' = y + 400 * r ∧ m' = m ∧ dd' = dd ∧ hh' = hh ∧ mm' = mm ∧ ss' = ss ∧ weekL (t + 86400 * 146097 * r) = weekL t := by
  have d := c.day
  obtain ⟨y1, y2, m1, m2, d1, d2, h1, h2, n1, n2, s1, s2, e⟩ := c
  have eb : dbfI (y + 400 * r) = dbfI y + 146097 * r := by unfold dbfI; rw [dto_400]; omega
  have hy : y + 400 * r ≤ 9999 := by
    unfold lastT at hl
    exact year_end (d := t / 86400 + 146097 * r) (by omega) (by omega) (by omega)
  have n : Dat (t + 86400 * 146097 * r) (y + 400 * r) m dd hh mm ss := ⟨by omega, hy, m1, m2, d1, by rw [dom_400]; exact d2, h1, h2, n1, n2, s1, s2, by rw [eb, dbm_400, e]; omega⟩
  obtain ⟨q1, q2, q3, q4, q5, q6⟩ := n.uniq c'
  refine ⟨q1.symm, q2.symm, q3.symm, q4.symm, q5.symm, q6.symm, ?_⟩
  unfold weekL
  have : (t + 86400 * 146097 * r) / 86400 = t / 86400 + 146097 * r := by omega
  rw [this]
  congr 2
  omega
end Kb

namespace Kb
open PySem PySem.Spec PyProof.Rows L2 TL
/-! ### defs whose body begins with a token out: str.replace of written texts -/
section
variable {X : Cx} {st : List Stmt} {t : TS}
theorem psst_nox (h : PSsT X.nox st t) : PSsT X st t := fun pins s σ H D h0 I hw =>
  wpAny_mono (h pins s σ H D h0 (I.wish _) hw) (fun _ _ q => q.unwish) fun _ _ z => False.elim z
theorem pst_set {i : Nat} {x : Str} {e : Expr} {te : TE} {pos' pos : Pos} (hN : X.N.Nodup) (hi : X.N[i]? = some x) (hx : Loc X.env.scope x) (he : PET X e te) (hs : swapsWith e (some (.Name x pos')) pos.line X.env = pure false := by rfl)
    (hf : X.fn x = true ∨ X.env.scope.names.lookup x = some .local := by first | exact .inl rfl | exact .inr rfl | assumption) :
    PST X (.Assign [.Name x pos'] e pos) (tAsg te (gName i)) := by
  intro pins s σ H D h0 I h
  refine wpAny_Assign_Name (thn (he pins s σ H _ h0 I h) fun v s1 ⟨y, H1, I1, r1, q1⟩ => ?_) hs
  exact store_ok I1 hN hi hx r1 (fun s2 I2 => ⟨_, H1, I2, q1⟩) hf
theorem pet_split {o e : Expr} {to te : TE} {apos pos : Pos} (ho : PET X o to) (he : PE X e te) (hs : starEach [e] X.env = [(false, eval e X.env)] := by rfl) (hbase : attributeBase o "split" X.env (eval o X.env) = eval o X.env := by rfl) (hline : (apos.endLine == pos.line) = true := by rfl) :
    PET X (.Call (.Attribute o "split" apos) [e] [] pos) (tM1 (fun x xs H Q => ∃ a b, x = .str a ∧ xs = [.str b] ∧ (b.length == 0) = false ∧ a.length + 2 ≤ sizeLine ∧ rNewStrs (Txt.split a b) H Q) to te) := by
  intro pins s σ H Q h0 I h
  refine PySem.Call_method1 hbase hs hline (thn (ho pins s σ H _ h0 I h) fun v s1 ⟨x, H1, I1, r1, q1⟩ => ?_)
  obtain ⟨⟨a, rfl⟩, q1⟩ := q1
  obtain ⟨ta, rfl⟩ := r1
  refine ⟨"str", _, F.plainAttrs_str, F.slot_str_split, F.type_str_split, typeIs_str _ _ _, (fun _ e => nomatch e), Calls.callWith_builtin rfl (Calls.evalArgs_plain (Calls.spliced_cons ?_))⟩
  exact thn (he.run pins s1 σ H1 _ I1 q1) fun u s2 ⟨y, H2, I2, r2, q2⟩ => Calls.spliced_nil (mt_split pins s2 σ H2 (.str a) [y] (.str a ta) [u] Q I2 ⟨ta, rfl⟩ (.cons r2 .nil) q2)
end
section
variable {M : Model} {A : Around} {E : Value → Shared → Prop} {s : Shared}
theorem wpAny_newEnvT {scope : Scope} {globals : Addr} {binds : List (Str × Value)} {n : Str} {v : Value} {r : List (Str × Value)} {qual : Str} {func : Option Addr} {code : Value} {builtins : Addr} {Q : Env → Shared → Prop}
    (hk : scope.kind = .function) (hb : binds = (n, v) :: r) (hn : scope.names.lookup n = some .local)
    (hkind : ∀ x ∈ binds, scope.names.lookup x.1 = some .local ∨ (scope.names.lookup x.1 = some .cell ∧ ((cellsFrom (s.heap.objs.size + 1) scope.names []).lookup x.1).isSome = true))
    (hQ : ∀ env, env = newEnv scope s.heap.objs.size globals (cellsFrom (s.heap.objs.size + 1) scope.names []) qual func code none builtins →
      ∀ s', InCallC s env.locals (bindL env.kindOf binds fun _ => none) env.cells (bindC env.kindOf binds fun _ => none) s' → 1 ≤ s'.toks → Q env s') :
    wpAny M A (newFunctionEnv scope globals [] binds qual func code none builtins) Q E s := by
  simp only [newFunctionEnv, Option.isSome_none, Bool.false_eq_true, if_false]
  refine wpAny_bind (wpAny_alloc ?_)
  refine wpAny_bind (wpAny_layCells _ (fun name kind cells => by cases hkc : kind == NameKind.cell <;> simp [hkc]) _ _ _ _ ?_)
  have ok := cellsFrom_ok scope.names (s.heap.push { cls := .type "frame", data := .dict #[] }) (s.heap.objs.size + 1) [] ⟨fun _ _ hm => (nomatch hm), List.Pairwise.nil⟩ (by rw [Heap.size_push]; exact Nat.le_refl _)
  rw [Heap.size_push] at ok
  rw [show ({ s with heap := s.heap.push { cls := .type "frame", data := .dict #[] } } : Shared).heap.objs.size = s.heap.objs.size + 1 from Heap.size_push ..]
  subst hb
  have x0 : InCallC s (newEnv scope s.heap.objs.size globals (cellsFrom (s.heap.objs.size + 1) scope.names []) qual func code none builtins).locals (fun _ => none) (newEnv scope s.heap.objs.size globals (cellsFrom (s.heap.objs.size + 1) scope.names []) qual func code none builtins).cells (fun _ => none) { s with heap := pushCells (s.heap.push { cls := .type "frame", data := .dict #[] }) scope.names } :=
    ⟨⟨⟨_, _, rfl⟩, (Heap.Ns.new s.heap (.type "frame")).keeps (pushCells_keeps _ _), fun b o e => pushCells_keeps _ _ b o (Heap.get?_push_of_some _ e), Nat.le_refl _⟩,
      fun n c hc => (ok.empty n c (mem_of_lookup hc)).1, ok.apart, fun n c hm => (ok.empty n c hm).2⟩
  have hl : (newEnv scope s.heap.objs.size globals (cellsFrom (s.heap.objs.size + 1) scope.names []) qual func code none builtins).kindOf n = some .local := hn
  refine wpAny_bind ?_
  rw [List.forIn_cons]
  refine wpAny_bind (wpAny_bind ?_)
  refine wpAny_storeName_local hl x0.toInCall.ns (fun h' hn' hs' => ?_) (by show (scope.kind == .class || (scope.kind == .module && _)) = false; rw [hk]; rfl)
  refine wpAny_pure ?_
  have x1 : InCallC s (newEnv scope s.heap.objs.size globals (cellsFrom (s.heap.objs.size + 1) scope.names []) qual func code none builtins).locals (fun y => if y = n then some v else none) (newEnv scope s.heap.objs.size globals (cellsFrom (s.heap.objs.size + 1) scope.names []) qual func code none builtins).cells (fun _ => none) { s with heap := h', toks := s.toks + 1 } :=
    ⟨⟨⟨h', _, rfl⟩, hn', fun b o e => hs'.extBut b o (Nat.ne_of_lt (Heap.lt_size e)) (x0.toInCall.keep b o e), x0.toInCall.fresh⟩, fun k c hc => (x0.cell k c hc).sameBut hs' (Nat.ne_of_gt (x0.above k c (mem_of_lookup hc))), x0.apart, x0.above⟩
  refine wpAny_mono (wpAny_toks (wpAny_bindParams (s₀ := s) (env := newEnv scope s.heap.objs.size globals (cellsFrom (s.heap.objs.size + 1) scope.names []) qual func code none builtins) _ (fun _ _ _ => rfl) hk r _ _ _
    (fun _ s' => InCallC s s.heap.objs.size (bindL (newEnv scope s.heap.objs.size globals (cellsFrom (s.heap.objs.size + 1) scope.names []) qual func code none builtins).kindOf ((n, v) :: r) fun _ => none) (cellsFrom (s.heap.objs.size + 1) scope.names []) (bindC (newEnv scope s.heap.objs.size globals (cellsFrom (s.heap.objs.size + 1) scope.names []) qual func code none builtins).kindOf ((n, v) :: r) fun _ => none) s') x1
    (fun y hy => hkind y (List.mem_cons_of_mem _ hy)) fun s'' x'' => ?_)) (fun _ s' ⟨ht, x⟩ => wpAny_pure (hQ _ rfl s' x ?_)) fun _ _ z => z.2
  · unfold bindL bindC; rw [if_pos hl, if_pos hl]; exact x''
  · exact Nat.le_trans (Nat.le_add_left _ _) ht
end
section
variable {P : Program} {w : World} {K : PySem.W.Frag} {mg : Str → Option Value} {base : Heap}
theorem fn_ofTC {CX : CXT} {k : Nat} {f : Addr} {name qual : Str} {params : Arguments} {body : List Stmt} {scope : Scope} {dV kV doc pm cdv ct oc : Value} {an od : Option Addr}
    {osl : Array (Option Value)} {N ps : List Str} {sp : Sp} {p0 : Str} {pr : List Str} (lk : K.lookup f = some ⟨oc, od, .func (PySem.W.fnOf name qual params body scope dV kV doc pm an cdv ct), osl⟩) (hcd : PySem.W.codeIn K cdv qual = true) (S : FnScope N ps scope)
    (hps : ps = p0 :: pr) (hp0 : scope.names.lookup p0 = some .local) (len : ∀ vs H Q E, sp vs H Q E → vs.length = ps.length)
    (hbody : ∀ (A : Around) (outer : List Env) (s : Shared) (H : Hp) (vs : List V) (Q : VK) (E : XK), Room k (A.deeper (envOfC qual scope s.heap.objs.size f cdv)) → sp vs H Q E →
      ∃ t, PSsT (cxOf CX P w K mg base N qual scope f cdv A outer s H E) body t ∧ t { nx := fun _ H' => Q .non H', rt := Q } (L2.start N vs) H) :
    FnOk P w K mg base CX (k + 1) f (PySem.W.fnOf name qual params body scope dV kV doc pm an cdv ct) ps sp := by
  refine ⟨len, fun A outer s H args us vs Q E hr e0 hb r hsp => ?_⟩
  have hl := len _ _ _ _ hsp
  have KX : K.In s.heap := e0.mod.kin.keeps fun b o e => (e0.bs b o e).1
  have lim : s.heap.NoLimit := e0.mod.nolimit.keeps fun b o e => (e0.bs b o e).1
  have hkind : ∀ y ∈ ps.zip us, scope.names.lookup y.1 = some .local ∨ (scope.names.lookup y.1 = some .cell ∧ ((cellsFrom (s.heap.objs.size + 1) scope.names []).lookup y.1).isSome = true) := fun ⟨n, v⟩ hy => by
    rcases S.par n (List.of_mem_zip hy).1 with q | q
    · exact .inl q
    · exact .inr ⟨q, PySem.W.cellsFrom_some _ _ _ (.inl q)⟩
  refine codeAny_call_function hr.depth (KX _ _ lk) rfl S.co S.gen rfl (PySem.W.codeRec_of KX hcd) (hb _ _ _ _ ?_)
  obtain ⟨u0, ur, rfl⟩ : ∃ u0 ur, us = u0 :: ur := by
    have : us.length = ps.length := by rw [← r.length, hl]
    rw [hps] at this
    exact List.exists_cons_of_length_eq_add_one this
  refine wpAny_newEnvT (n := p0) (v := u0) (r := pr.zip ur) S.kind (by rw [hps]; rfl) hp0 hkind fun env he s1 x hto => ?_
  subst he
  refine ⟨lim.keeps x.toInCall.keep, codeAny_func ?_⟩
  obtain ⟨t, ht, hq⟩ := hbody A outer s H vs Q E (hr.deeper _) hsp
  have I : Inv (cxOf CX P w K mg base N qual scope f cdv A outer s H E) [] (L2.start N vs) H s1 := inv_start S hr.hd e0 hl r x
  refine wpAny_mono (ht [] s1 (L2.start N vs) H _ hto I hq) (fun fl s' hs => ?_) fun e s' hs => hs
  have fin : ∀ {σ' : L2.St} {H' : Hp} {v : V} {u : Value}, Inv (cxOf CX P w K mg base N qual scope f cdv A outer s H E) [] σ' H' s' → RelV v u → Q v H' → CE outer P w H s Q u s' :=
    fun {σ' H' v u} J rv q => ⟨v, H', J.os, J.bare, J.base, J.hok, rv, q⟩
  cases fl with
  | ret u =>
    obtain ⟨v, σ', H', J, rv, q⟩ := hs
    exact fin J rv q
  | next =>
    obtain ⟨σ', H', J, q⟩ := hs
    exact fin (v := V.non) (u := Value.none) J rfl q
  | brk =>
    obtain ⟨_, _, _, q⟩ := hs
    exact False.elim q
  | cont =>
    obtain ⟨_, _, _, q⟩ := hs
    exact False.elim q
theorem Df.okT {x p0 : Str} {pr : List Str} {st : Stmt} {N ps : List Str} {k : Nat} {sp : Sp} (D : Df K mg x st ps) (S : FnScope N ps (defScope st)) (hps : ps = p0 :: pr) (hp0 : (defScope st).names.lookup p0 = some .local) (len : ∀ vs H Q E, sp vs H Q E → vs.length = ps.length)
    (hbody : ∀ (f : Addr) (cdv : Value) (A : Around) (outer : List Env) (s : Shared) (H : Hp) (vs : List V) (Q : VK) (E : XK), Room k (A.deeper (envOfC x (defScope st) s.heap.objs.size f cdv)) → sp vs H Q E →
      ∃ t, PSsT (cxOf CX0 P w K mg base N x (defScope st) f cdv A outer s H E).nox (defBody st) t ∧ t { nx := fun _ H' => Q .non H', rt := Q } (L2.start N vs) H) : Cal P w K mg base CX0 (k + 1) x ps sp := by
  obtain ⟨f, fd, F, m, b⟩ := D
  obtain ⟨oc, od, kV, doc, pm, an, cdv, ct, osl, rfl, lk, hcd⟩ := F.ex
  refine ⟨f, _, ?_, m, F.kp, .all b⟩
  refine fn_ofTC lk hcd S hps hp0 len fun A outer s H vs Q E hr hsp => ?_
  obtain ⟨t, h, q⟩ := hbody f cdv A outer s H vs Q E hr hsp
  exact ⟨t, psst_nox h, q⟩
end
end Kb

namespace Kb
open PySem PySem.Spec PyProof.Rows L2 TL
/-! ### a drawn rule without its mark -/
theorem replace_excl (x : Str) : tl (Txt.replace x ("!" : Str) ("" : Str)) = (tl x).filter (· != 33) := by
  have e1 : ("!" : Str) = ⟨#[33]⟩ := ext_tl (by decide +kernel)
  have e2 : ("" : Str) = ⟨#[]⟩ := ext_tl (by decide +kernel)
  rw [e1, e2]
  exact replace_strikes x 33
theorem abc_no33 {L : List (List Nat)} (h : ∀ l ∈ L, abc l) : ∀ c ∈ joinL [46] L, c ≠ 33 := by
  intro c hc
  have : ∀ L : List (List Nat), (∀ l ∈ L, abc l) → ∀ c ∈ joinL [46] L, c = 46 ∨ c = 97 ∨ c = 98 ∨ c = 99 := by
    intro L
    induction L with
    | nil => intro _ c hc; simp [joinL] at hc
    | cons p L ih =>
      intro h c hc
      have hp : ∀ c ∈ p, c = 97 ∨ c = 98 ∨ c = 99 := fun c hc => by
        rcases h p (List.mem_cons_self ..) with rfl | rfl | rfl <;> simp at hc <;> omega
      cases L with
      | nil => have : c ∈ p := by simpa [joinL] using hc
               have := hp c this; omega
      | cons q r =>
        have hc : c ∈ p ++ ([46] ++ joinL [46] (q :: r)) := hc
        rcases List.mem_append.mp hc with g | g
        · have := hp c g; omega
        · rcases List.mem_append.mp g with g | g
          · simp at g; omega
          · exact ih (fun l hl => h l (List.mem_cons_of_mem _ hl)) c g
  have := this L h c hc
  omega
theorem filter_excl {t : List Nat} (h : GenR t) : sp1 46 (t.filter (· != 33)) = patL t := by
  obtain ⟨L, h1, h2, h3, h4⟩ := h.cases
  have hf : (joinL [46] L).filter (· != 33) = joinL [46] L := by
    rw [List.filter_eq_self]
    intro c hc
    exact bne_iff_ne.mpr (abc_no33 h3 c hc)
  rcases h4 with ⟨hx, e, hp⟩ | ⟨hx, e, hp⟩ | ⟨hx, h5, e, hp⟩
  · rw [hp, e, hf, abc_sp1 h1 h3]
  · rw [hp, e]
    show sp1 46 ((42 :: 46 :: joinL [46] L).filter (· != 33)) = _
    rw [List.filter_cons_of_pos (by decide), List.filter_cons_of_pos (by decide), hf]
    show sp1 46 ([42] ++ 46 :: joinL [46] L) = _
    rw [sp1_app, abc_sp1 h1 h3]; rfl
  · rw [hp, e, List.filter_cons_of_neg (by decide), hf, abc_sp1 h1 h3]
/-- place by place -/
def okAt (P Z : List (List Nat)) (j : Nat) : Bool := decide (P[j]? = some [42]) || decide (P[j]? = Z[j]?)
def allAt (P Z : List (List Nat)) (n : Nat) : Bool := (List.range n).all (okAt P Z)
theorem allAt_succ (P Z : List (List Nat)) (n : Nat) : allAt P Z (n + 1) = (allAt P Z n && okAt P Z n) := by
  unfold allAt
  rw [List.range_succ, List.all_append]; simp
theorem allAt_iff (P Z : List (List Nat)) (n : Nat) : allAt P Z n = true ↔ ∀ j, j < n → P[j]? = some [42] ∨ P[j]? = Z[j]? := by
  unfold allAt okAt
  rw [List.all_eq_true]
  simp only [List.mem_range, Bool.or_eq_true, decide_eq_true_eq]
theorem mtL_allAt {t : List Nat} {W : List (List Nat)} (h : GenR t) (hW : ∀ w ∈ W, abc w) (hl : (patL t).length ≤ W.length) : mtL (patL t) W = allAt (patL t) (lastN (patL t).length W) (patL t).length := by
  obtain ⟨L, h1, h2, h3, h4⟩ := h.cases
  have n42 : ∀ {l : List Nat}, abc l → l ≠ [42] := fun h => by rcases h with rfl | rfl | rfl <;> decide
  unfold mtL
  rw [decide_eq_true hl, Bool.true_and]
  have hlen : (lastN (patL t).length W).length = (patL t).length := by rw [lastN_len, Nat.min_eq_left hl]
  have hZ : ∀ w ∈ lastN (patL t).length W, abc w := fun w hw => hW w (lastN_mem hw)
  generalize lastN (patL t).length W = Z at *
  have eq_of : ∀ (P Q : List (List Nat)), P.length = Q.length → (∀ l ∈ P, l ≠ [42]) → ((∀ j, j < P.length → P[j]? = some [42] ∨ P[j]? = Q[j]?) ↔ Q = P) := fun P Q hpq hP => by
    constructor
    · intro g
      apply List.ext_getElem? fun j => ?_
      by_cases hj : j < P.length
      · rcases g j hj with e | e
        · exact absurd rfl (hP _ (List.mem_of_getElem? e))
        · exact e.symm
      · rw [List.getElem?_eq_none (by omega), List.getElem?_eq_none (by omega)]
    · intro g j _; right; rw [g]
  have case1 : patL t = L → (if (patL t).head? = some [42] then decide (Z.tail = (patL t).tail) else decide (Z = patL t)) = allAt (patL t) Z (patL t).length := fun hp => by
    have hn : (patL t).head? ≠ some [42] := fun q => by
      rw [hp] at q
      exact n42 (h3 _ (List.mem_of_mem_head? q)) rfl
    rw [if_neg hn, Bool.eq_iff_iff, decide_eq_true_eq, allAt_iff]
    exact (eq_of (patL t) Z hlen.symm fun l hl => by rw [hp] at hl; exact n42 (h3 l hl)).symm
  rcases h4 with ⟨hx, e, hp⟩ | ⟨hx, e, hp⟩ | ⟨hx, h5, e, hp⟩
  · exact case1 hp
  · rw [hp] at hlen ⊢
    rw [if_pos (show ([42] :: L).head? = some [42] from rfl), Bool.eq_iff_iff, decide_eq_true_eq, allAt_iff]
    obtain ⟨z, Z', rfl⟩ : ∃ z Z', Z = z :: Z' := List.exists_cons_of_ne_nil fun q => by rw [q] at hlen; simp at hlen
    rw [List.tail_cons, List.tail_cons]
    rw [← eq_of L Z' (by simpa using hlen.symm) fun l hl => n42 (h3 l hl)]
    constructor
    · intro g j hj
      cases j with
      | zero => left; rfl
      | succ j => exact g j (by simpa using hj)
    · intro g j hj
      exact g (j + 1) (by simpa using hj)
  · exact case1 hp
end Kb
namespace Kb
open PySem PySem.Spec PyProof.Rows L2 TL
theorem takeF {α : Type} {q : α → Bool} {xs : List α} {i : Nat} {x : α} (h : xs[i]? = some x) : (xs.take (i + 1)).filter q = (xs.take i).filter q ++ (if q x = true then [x] else []) := by
  rw [List.take_add_one, h, List.filter_append]
  congr 1
  by_cases hq : q x = true
  · rw [if_pos hq]; simp [hq]
  · rw [if_neg hq]; simp [hq]
theorem takeF_t {α : Type} {q : α → Bool} {xs : List α} {i : Nat} {x : α} (h : xs[i]? = some x) (hq : q x = true) : (xs.take (i + 1)).filter q = (xs.take i).filter q ++ [x] := by rw [takeF h, if_pos hq]
theorem takeF_f {α : Type} {q : α → Bool} {xs : List α} {i : Nat} {x : α} (h : xs[i]? = some x) (hq : q x = false) : (xs.take (i + 1)).filter q = (xs.take i).filter q := by rw [takeF h, if_neg (by rw [hq]; exact Bool.false_ne_true), List.append_nil]
theorem sp1_len_cons {c x : Nat} (h : x ≠ c) (l : List Nat) : (sp1 c (x :: l)).length = (sp1 c l).length := by
  obtain ⟨p, r, e⟩ := sp1_cons c l
  rw [sp1_miss h e, e]; rfl
theorem GenR.size {t : List Nat} (h : GenR t) : (sp1 46 t).length = (patL t).length := by
  obtain ⟨L, h1, h2, h3, h4⟩ := h.cases
  rcases h4 with ⟨hx, e, hp⟩ | ⟨hx, e, hp⟩ | ⟨hx, h5, e, hp⟩
  · rw [hp, e, abc_sp1 h1 h3]
  · rw [hp, e]
    show (sp1 46 ([42] ++ 46 :: joinL [46] L)).length = _
    rw [sp1_app, abc_sp1 h1 h3]; rfl
  · rw [hp, e, sp1_len_cons (by decide), abc_sp1 h1 h3]
theorem GenR.ne {t : List Nat} (h : GenR t) : ∃ a r, t = a :: r ∧ excT t = decide (a = 33) := by
  obtain ⟨L, h1, h2, h3, h4⟩ := h.cases
  rcases h4 with ⟨hx, e, hp⟩ | ⟨hx, e, hp⟩ | ⟨hx, h5, e, hp⟩
  · obtain ⟨a, r, ea, h33, _⟩ := abc_head h1 h3
    exact ⟨a, r, e.trans ea, by rw [hx, decide_eq_false h33]⟩
  · exact ⟨42, _, e, by rw [hx]; rfl⟩
  · exact ⟨33, _, e, by rw [hx]; rfl⟩
theorem one_excl (c : Nat) : decide (V.str ⟨#[c]⟩ = V.str ("!" : Str)) = decide (c = 33) := by
  rw [show ("!" : Str) = ⟨#[33]⟩ from ext_tl (by decide +kernel), dec_str, Bool.eq_iff_iff, beq_iff_eq, decide_eq_true_eq, str_eq_iff]
  show [c] = [33] ↔ _
  simp
/-- the greatest of sizes, as the law finds it -/
theorem big_max {q : List Nat → Bool} {rs : List (List Nat)} {m : Nat} (h1 : m ∈ (rs.filter q).map (fun t => (patL t).length) ++ [0]) (h2 : ∀ y ∈ (rs.filter q).map (fun t => (patL t).length) ++ [0], y ≤ m) : m = bigN 0 q rs := by
  refine Nat.le_antisymm ?_ ?_
  · rcases List.mem_append.mp h1 with g | g
    · obtain ⟨t, ht, rfl⟩ := List.mem_map.mp g
      obtain ⟨ht, hq⟩ := List.mem_filter.mp ht
      exact bigN_mem q rs 0 t ht hq
    · rw [List.mem_singleton.mp g]; exact Nat.zero_le _
  · rcases bigN_cases q rs 0 with e | ⟨t, ht, hq, e⟩
    · omega
    · rw [e]
      exact h2 _ (List.mem_append_left _ (List.mem_map.mpr ⟨t, List.mem_filter.mpr ⟨ht, hq⟩, rfl⟩))
theorem big_pred {q : List Nat → Bool} {rs : List (List Nat)} {m : Nat} (h0 : rs.filter q ≠ []) (h1 : m ∈ (rs.filter q).map (fun t => (patL t).length - 1) ++ [0]) (h2 : ∀ y ∈ (rs.filter q).map (fun t => (patL t).length - 1) ++ [0], y ≤ m) : m = bigN 0 q rs - 1 := by
  refine Nat.le_antisymm ?_ ?_
  · rcases List.mem_append.mp h1 with g | g
    · obtain ⟨t, ht, rfl⟩ := List.mem_map.mp g
      obtain ⟨ht, hq⟩ := List.mem_filter.mp ht
      have := bigN_mem q rs 0 t ht hq
      show (patL t).length - 1 ≤ _
      omega
    · rw [List.mem_singleton.mp g]; exact Nat.zero_le _
  · rcases bigN_cases q rs 0 with e | ⟨t, ht, hq, e⟩
    · omega
    · rw [e]
      exact h2 _ (List.mem_append_left _ (List.mem_map.mpr ⟨t, List.mem_filter.mpr ⟨ht, hq⟩, rfl⟩))
theorem big_one (q : List Nat → Bool) : ∀ (rs : List (List Nat)) (b : Nat), bigN (max 1 b) q rs = max 1 (bigN b q rs)
  | [], b => rfl
  | t :: rs, b => by
    show bigN (if q t then max (max 1 b) (patL t).length else max 1 b) q rs = max 1 (bigN (if q t then max b (patL t).length else b) q rs)
    by_cases hq : q t = true
    · rw [if_pos hq, if_pos hq, ← big_one q rs]; congr 1; omega
    · rw [if_neg hq, if_neg hq, big_one q rs]
theorem lonN_big (rs w : List (List Nat)) : lonN rs w = max 1 (bigN 0 (fun t => !excT t && mtL (patL t) w) rs) := by
  unfold lonN
  exact big_one _ rs 0
theorem bigN_none {q : List Nat → Bool} {rs : List (List Nat)} (h : rs.filter q = []) : bigN 0 q rs = 0 := by
  rcases bigN_cases q rs 0 with e | ⟨t, ht, hq, e⟩
  · exact e
  · have : t ∈ rs.filter q := List.mem_filter.mpr ⟨ht, hq⟩
    rw [h] at this; cases this
end Kb

namespace Kb
open PySem PySem.Spec PyProof.Rows L2 TL
theorem bigN_same {q : List Nat → Bool} {rs zs : List (List Nat)} {b : Nat} (h : ∀ t, t ∈ rs ↔ t ∈ zs) : bigN b q rs = bigN b q zs := by
  have le : ∀ (rs zs : List (List Nat)), (∀ t, t ∈ rs → t ∈ zs) → bigN b q rs ≤ bigN b q zs := fun rs zs h => by
    rcases bigN_cases q rs b with e | ⟨t, ht, hq, e⟩
    · rw [e]; exact bigN_ge _ _ _
    · rw [e]; exact bigN_mem q zs b t (h t ht) hq
  exact Nat.le_antisymm (le _ _ fun t => (h t).mp) (le _ _ fun t => (h t).mpr)
theorem sufN_same {rs zs w : List (List Nat)} (h : ∀ t, t ∈ rs ↔ t ∈ zs) : sufN rs w = sufN zs w := by
  unfold sufN excN lonN
  rw [bigN_same h, bigN_same h]
theorem famL_same {rs zs w : List (List Nat)} (h : ∀ t, t ∈ rs ↔ t ∈ zs) : famL rs w = famL zs w := by
  unfold famL
  rw [sufN_same h]
theorem RulesOK.rev {rs : List Str} (h : RulesOK rs) : RulesOK rs.reverse := ⟨(List.reverse_perm rs).symm.nodup h.1, fun r hr => h.2 r (List.mem_reverse.mp hr)⟩
end Kb

namespace Kb
open PySem PySem.Spec PyProof.Rows L2 TL
theorem abc_lt {L : List (List Nat)} (h : ∀ l ∈ L, abc l) : ∀ c ∈ joinL [46] L, c < 128 := by
  induction L with
  | nil => intro c hc; simp [joinL] at hc
  | cons p L ih =>
    intro c hc
    have hp : ∀ c ∈ p, c < 128 := fun c hc => by
      rcases h p (List.mem_cons_self ..) with rfl | rfl | rfl <;> simp at hc <;> omega
    cases L with
    | nil => exact hp c (by simpa [joinL] using hc)
    | cons q r =>
      have hc : c ∈ p ++ ([46] ++ joinL [46] (q :: r)) := hc
      rcases List.mem_append.mp hc with g | g
      · exact hp c g
      · rcases List.mem_append.mp g with g | g
        · simp at g; omega
        · exact ih (fun l hl => h l (List.mem_cons_of_mem _ hl)) c g
end Kb

namespace Kb
open PySem PySem.Spec PyProof.Rows L2 TL
theorem addr_joinW {W : List Str} (h1 : W.length = 4) (h2 : ∀ w ∈ W, ∃ n : Nat, n < 256 ∧ tl w = numL n) : AddrW (Txt.join ("." : Str) W) :=
  ⟨W.map tl, by rw [List.length_map]; exact h1, fun l hl => by obtain ⟨w, hw, rfl⟩ := List.mem_map.mp hl; exact h2 w hw, by rw [join_tl, tl_dot]⟩
end Kb

namespace Kb
open PySem PySem.Spec PyProof.Rows L2 TL
/-- two rules of numbers behind drawn ones -/
theorem num_rules {rs : List Str} {x y : Str} {a b c : List Nat} (h : RulesOK rs) (hg : ∀ r ∈ rs, GenR (tl r)) (hx : tl x = a) (hy : tl y = 42 :: 46 :: joinL [46] [b, c])
    (ha : labB a = true ∧ digB a = true) (hb : labB b = true ∧ digB b = true) (hc : labB c = true) (lx : x.length ≤ 100) (ly : y.length ≤ 100) : RulesOK (rs ++ [x, y]) := by
  have dg : ∀ l : List Nat, digB l = true → ∃ d r, l = d :: r ∧ 48 ≤ d ∧ d ≤ 57 := fun l hl => by
    obtain ⟨h1, h2⟩ := digB_iff.mp hl
    obtain ⟨d, r, rfl⟩ := List.exists_cons_of_ne_nil h2
    have := h1 d (List.mem_cons_self ..)
    exact ⟨d, r, rfl, this.1, this.2⟩
  obtain ⟨d, r, ea, d1, d2⟩ := dg a ha.2
  obtain ⟨d', r', eb, d1', d2'⟩ := dg b hb.2
  have hfa : 46 ∉ a := dot_free ha.1
  have rx : ruleB (tl x) = true := by
    have e1 : excT (tl x) = false := by unfold excT; rw [hx, ea]; exact decide_eq_false (by simp; omega)
    unfold ruleB
    rw [e1, hx]
    have : [42, 46].isPrefixOf a = false := by
      rw [ea]
      show ((42 == d) && _) = false
      rw [beq_eq_false_iff_ne.mpr (by omega), Bool.false_and]
    rw [this]
    simp only [Bool.false_eq_true, if_false]
    rw [sp1_of_free hfa]
    show (labB a && true) = true
    rw [ha.1]; rfl
  have ry : ruleB (tl y) = true := by
    have e1 : excT (tl y) = false := by unfold excT; rw [hy]; rfl
    unfold ruleB
    rw [e1, hy]
    have : [42, 46].isPrefixOf (42 :: 46 :: joinL [46] [b, c]) = true := by simp [List.isPrefixOf]
    rw [this]
    simp only [Bool.false_eq_true, if_false, if_true, List.drop_succ_cons, List.drop_zero]
    rw [sp1_joinL (by simp) fun p hp => by
      rcases List.mem_cons.mp hp with rfl | hp
      · exact dot_free hb.1
      · rw [List.mem_singleton.mp hp]; exact dot_free hc]
    show (labB b && (labB c && true)) = true
    rw [hb.1, hc]; rfl
  have hd : ∀ r ∈ rs, ∀ u v, tl r = u :: v → u = 33 ∨ (u = 42 ∧ ∃ q w, v = 46 :: q :: w ∧ 97 ≤ q) ∨ 97 ≤ u := fun r hr u v e => by
    obtain ⟨L, h1, h2, h3, h4⟩ := (hg r hr).cases
    have big : ∀ q w, joinL [46] L = q :: w → 97 ≤ q := fun q w e => by
      obtain ⟨l, R, rfl⟩ := List.exists_cons_of_ne_nil h1
      have hl := h3 l (List.mem_cons_self ..)
      have : ∀ z, (joinL [46] ([z] :: R)).head? = some z := fun z => by cases R <;> rfl
      rcases hl with rfl | rfl | rfl
      · have t := this 97; rw [e] at t; simp at t; omega
      · have t := this 98; rw [e] at t; simp at t; omega
      · have t := this 99; rw [e] at t; simp at t; omega
    rcases h4 with ⟨_, e', _⟩ | ⟨_, e', _⟩ | ⟨_, _, e', _⟩
    · rw [e] at e'; exact .inr (.inr (big _ _ e'.symm))
    · rw [e] at e'
      simp only [List.cons.injEq] at e'
      obtain ⟨q, w, ej, _⟩ := abc_head h1 h3
      exact .inr (.inl ⟨e'.1, q, w, by rw [e'.2, ej], big _ _ ej⟩)
    · rw [e] at e'; simp only [List.cons.injEq] at e'; exact .inl e'.1
  refine ⟨?_, fun r hr => ?_⟩
  · rw [List.nodup_append]
    refine ⟨h.1, ?_, fun u hu v hv e => ?_⟩
    · rw [List.nodup_cons]
      refine ⟨fun q => ?_, by simp⟩
      have e := congrArg tl (List.mem_singleton.mp q)
      rw [hx, hy, ea] at e
      simp only [List.cons.injEq] at e
      omega
    · subst e
      rcases List.mem_cons.mp hv with q | q
      · rcases hd u hu d r (by rw [q, hx, ea]) with g | ⟨g, _⟩ | g <;> omega
      · rw [List.mem_singleton] at q
        rcases hd u hu 42 (46 :: joinL [46] [b, c]) (by rw [q, hy]) with g | ⟨g, q2, w, e2, g2⟩ | g
        · omega
        · rw [eb] at e2
          have e2 : 46 :: d' :: (r' ++ ([46] ++ c)) = 46 :: q2 :: w := e2
          simp only [List.cons.injEq] at e2
          omega
        · omega
  · rcases List.mem_append.mp hr with q | q
    · exact h.2 r q
    · rcases List.mem_cons.mp q with q | q
      · rw [q]; exact ⟨rx, by omega⟩
      · rw [List.mem_singleton.mp q]; exact ⟨ry, by omega⟩
end Kb

namespace Kb
open PySem PySem.Spec PyProof.Rows L2
/-! ### t[::-1] of a tuple -/
section
variable {prog : Program} {w : World} {A : Around} {E : Value → Shared → Prop} {s : Shared}
theorem sliceApplied_rev {sl : Addr} {vs : Value} {n : Nat} {Q : Int × Int × Nat → Shared → Prop} (hs : s.heap.IsSliceOf sl .none .none vs) (ps : IsPart vs (some (-1)))
    (h : Q ((n : Int) - 1, -1, n) s) : wpAny (model prog w) A (Builtin.Slice.sliceApplied (.ref sl) (pure (n : Int))) Q E s := by
  obtain ⟨os, hos, hcs, hds⟩ := id hs
  unfold Builtin.Slice.sliceApplied Builtin.Slice.sliceFields
  refine wpAny_bind (wpAny_bind (wpAny_field hos hds (x := .none) rfl (wpAny_bind (wpAny_field hos hds (x := .none) rfl (wpAny_bind (wpAny_field hos hds (x := vs) rfl (wpAny_pure ?_)))))))
  refine wpAny_bind (HT.slicePart_ ps ?_)
  show wpAny _ _ (if ((-1 : Int) == 0) = true then _ else _) _ _ s
  rw [if_neg (by decide)]
  refine wpAny_bind (HT.slicePart_ .none (wpAny_bind (HT.slicePart_ .none (wpAny_bind (wpAny_pure ?_)))))
  have e : Builtin.Slice.slicePlaces ((n : Int) - 1) (-1) (-1) = n := by
    unfold Builtin.Slice.slicePlaces
    rw [if_neg (by decide)]
    split
    · rw [show (-(-1 : Int)) = 1 by decide, Int.ediv_one]; omega
    · omega
  show wpAny _ _ (pure ((n : Int) - 1, (-1 : Int), Builtin.Slice.slicePlaces ((n : Int) - 1) (-1) (-1))) _ _ s
  rw [e]
  exact wpAny_pure h
theorem rev_pick (xs : Array Value) : ((List.range xs.size).filterMap fun (m : Nat) => xs[(((xs.size : Int) - 1) + (m : Int) * (-1)).toNat]?).toArray = xs.toList.reverse.toArray := by
  congr 1
  have : ∀ n, n ≤ xs.size → (List.range n).filterMap (fun (m : Nat) => xs[(((xs.size : Int) - 1) + (m : Int) * (-1)).toNat]?) = (xs.toList.reverse.take n) := by
    intro n
    induction n with
    | zero => intro _; simp
    | succ n ih =>
      intro h
      rw [List.range_succ, List.filterMap_append, ih (by omega), List.take_add_one]
      congr 1
      have e : (((xs.size : Int) - 1) + (n : Int) * (-1)).toNat = xs.size - 1 - n := by omega
      have h2 : xs.toList.reverse[n]? = xs[xs.size - 1 - n]? := by
        rw [List.getElem?_reverse (by rw [Array.length_toList]; omega), Array.length_toList, Array.getElem?_toList]
      rw [h2]
      simp only [List.filterMap_cons, List.filterMap_nil, e]
      cases xs[xs.size - 1 - n]? <;> rfl
  rw [this _ (Nat.le_refl _), List.take_of_length_le (by simp)]
theorem getItem_tuple_rev {t sl : Addr} {items : Array Value} {vs : Value} {Q : Value → Shared → Prop} (ht : IsTup s.heap t items) (hs : s.heap.IsSliceOf sl .none .none vs) (ps : IsPart vs (some (-1)))
    (h : Q (.ref s.heap.objs.size) { s with heap := s.heap.push { cls := .type "tuple", data := .seq items.toList.reverse.toArray } })
    (hsz : items.size ≤ sizeLine) : wpAny (model prog w) A (getItem (.ref t) (.ref sl)) Q E s := by
  have htake : sizeOk (.seq items.toList.reverse.toArray) := by
    show items.toList.reverse.toArray.size ≤ sizeLine
    simpa using hsz
  obtain ⟨os, hos, hcs, hds⟩ := id hs
  have hTs : s.TypeIs (.ref sl) "slice" := ⟨os, hos, hcs⟩
  unfold getItem
  try with_reducible refine wpAny_holding ?_
  first | refine wpAny_bind (wpAny_pure ?_) | skip
  refine wpAny_bind (wpAny_sequenceKey ht.typeIs (by decide) ?_)
  refine wpAny_bind (wpAny_callSpecial?_slot (name := Str.ofString "__getitem__") ht.typeIs PyProof.Rows.slot_tuple_getitem
    (wpAny_call_entry PyProof.Rows.slot_tuple_getitem ht.typeIs entry_tuple_getitem ?_ (args_tuple_getitem _ _)))
  show wpAny _ _ (Builtin.Tuple.tupleItemsOf (.ref t) >>= _) _ _ s
  refine wpAny_bind (tupleItemsOf_ ht ?_)
  refine wpAny_bind (wpAny_typeOf hTs ?_)
  rw [if_pos (by decide)]
  refine wpAny_bind (sliceApplied_rev hs ps ?_)
  show wpAny _ _ (if (((items.size : Int) - 1) == 0 && (-1 : Int) == 1 && items.size == items.size) = true then _ else _) _ _ s
  rw [if_neg (by simp), rev_pick]
  first
    | exact wpAny_bind (m := Builtin.Tuple.tupleExact _) (wpAny_newObj_type (wpAny_pure ⟨_, rfl, wpAny_pure h⟩) htake)
    | exact wpAny_bind (m := Builtin.Tuple.tupleExact _) (wpAny_newObj_type (wpAny_bind (wpAny_pure (wpAny_pure ⟨_, rfl, wpAny_pure h⟩))) htake)
    | exact wpAny_bind (wpAny_bind (m := Builtin.Tuple.tupleExact _) (wpAny_newObj_type (wpAny_pure (wpAny_pure ⟨_, rfl, wpAny_pure h⟩)) htake))
    | exact wpAny_bind (wpAny_bind (m := Builtin.Tuple.tupleExact _) (wpAny_newObj_type (wpAny_pure ⟨_, rfl, wpAny_pure h⟩) htake))
end
def tRevT (K : PySem.W.Frag) (te : TE) : TE := fun σ H Q => te σ H fun x H1 => ∃ a xs, x = .ref a ∧ SqT K H1 a xs ∧ ∀ p, H1 p = none → Q (.ref p) (upd H1 p (.tup xs.reverse))
theorem pe_revT {X : Cx} {e : Expr} {te : TE} {k : Nat} {p1 p2 p3 pos : Pos} (he : PE X e te) : PE X (.Subscript e (.Slice none none (some (.UnaryOp .USub (.Constant (.int 1) k p1) p2)) p3) pos) (tRevT X.K te) := by
  refine ⟨fun pins s σ H Q I h => ?_⟩
  refine Subscript_ (thn (he.run pins s σ H _ I h) fun v s1 ⟨x, H1, I1, r1, q1⟩ => ?_)
  obtain ⟨a, xs, ex, hx, q⟩ := q1
  subst ex
  cases r1
  have hst : PO X (some (.UnaryOp .USub (.Constant (.int 1) k p1) p2)) (tPart (tUn (rU fun i => .int (-i)) (tC (.int 1)))) := po_some (pe_un un_neg pe_int)
  refine wpAny_Slice (thn (po_none.run pins s1 σ H1 (fun o H2 => o = none ∧ H2 = H1) I1 ⟨rfl, rfl⟩) fun vl s2 ⟨l, H2, I2, pl, el, e2⟩ => ?_)
  subst el e2
  refine thn (po_none.run pins s2 σ H2 (fun o H3 => o = none ∧ H3 = H2) I2 ⟨rfl, rfl⟩) fun vu s3 ⟨u, H3, I3, pu, eu, e3⟩ => ?_
  subst eu e3
  refine thn (hst.run pins s3 σ H3 (fun o H4 => o = some (-1) ∧ H4 = H3) I3 ⟨1, rfl, -1, rfl, rfl, rfl⟩) fun vs s4 ⟨o, H4, I4, ps, eo, e4⟩ => ?_
  subst eo e4
  cases pl
  cases pu
  have I5 : Inv X pins σ H4 { s4 with heap := s4.heap.push { cls := .type "slice", data := .fields #[.none, .none, vs] } } := I4.kept (t' := s4.toks) fun b ob q => Heap.get?_push_of_some _ q
  obtain ⟨its, r, ht, hz⟩ := I5.tuple hx
  have hlen := r.length
  show wpAny (model X.prog X.w) X.A (subscriptTail e (.Slice none none (some (.UnaryOp .USub (.Constant (.int 1) k p1) p2)) p3) (.ref a) (.ref s4.heap.objs.size)) (EP X pins σ Q) X.xe { s4 with heap := s4.heap.push { cls := .type "slice", data := .fields #[.none, .none, vs] } }
  refine tail_any (ops := [.ref a, .ref s4.heap.objs.size]) ht.typeIs (PyProof.Rows.slot_tuple_getitem.lookup) ?_ (by with_unfolding_all rfl)
  refine getItem_tuple_rev ht (Heap.IsSliceOf.new _ .none .none vs) ps ?_ (by rw [List.size_toArray]; omega)
  refine ⟨.ref _, _, I5.laid (t' := s4.toks) (o := .tup xs.reverse) (fun b ob q => Heap.get?_push_of_some _ q) (Nat.le_refl _) ?_, rfl, q _ (I5.hok.fresh (Nat.le_refl _))⟩
  exact ⟨by rw [List.length_reverse]; exact hz, _, r.reverse, ⟨_, Heap.get?_push_size _ rfl, rfl, _, rfl⟩⟩
end Kb

namespace Kb
open PySem PySem.Spec PyProof.Rows L2
/-! ### d.values(), list and tuple of it -/
def tVals (td : TE) : TE := fun σ H Q => td σ H fun x H1 => ∃ a kvs, x = .ref a ∧ H1 a = some (.dK kvs) ∧ ∀ p, H1 p = none → Q (.ref p) (upd H1 p (viewO "dict_values" p a))
section
variable {X : Cx} {e : Expr} {td : TE} {apos cpos : Pos}
theorem pe_vals (he : PE X e td) (hbase : attributeBase e "values" X.env (eval e X.env) = eval e X.env := by rfl) (hline : (apos.endLine == cpos.line) = true := by rfl) : PE X (.Call (.Attribute e "values" apos) [] [] cpos) (tVals td) := by
  refine ⟨fun pins s σ H Q I h => ?_⟩
  refine wpAny_Call_method (T := "dict") (id := "dict.values") hbase rfl hline F.plainAttrs_dict F.slot_dict_values F.type_dict_values (thn (he.run pins s σ H _ I h) fun u s1 ⟨x, H1, I1, rx, a, kvs, ex, hd, q⟩ => ?_)
  subst ex
  obtain rfl : u = Value.ref a := rx
  obtain ⟨hz, hsys, vs, rel, dof⟩ := (show ObjOk X.prog X.w H1 s1.heap a (.dK kvs) from I1.hok a _ hd)
  refine ⟨dof.typeIs, dof.mapOf.noDict, ?_⟩
  have fin : EP X pins σ Q (.ref s1.heap.objs.size) { s1 with heap := s1.heap.push (DSub.viewOb "dict_values" a) } :=
    ⟨.ref s1.heap.objs.size, _, I1.laid (t' := s1.toks) (fun b o q => Heap.get?_push_of_some _ q) (Nat.le_refl _) (viewO_ok (Heap.get?_push_size _ rfl)), rfl, q _ (I1.hok.fresh (Nat.le_refl _))⟩
  show wpAny _ _ (callWith cpos (.builtin "dict.values") [.ref a] [] []) _ X.xe s1
  exact method_meetsIn F.slot_dict_values F.entry_dict_values rfl (PySem.evalArgs_none ⟨rfl, dof.typeIs, F.args_dict_values_1 _, _, meets_dict_values (mixKind X.prog X.w) a hsys, ⟨vs, dof⟩, fin⟩)
end
theorem kv_at {κ : Type} : ∀ {ks : List (κ × V)} {vs : List (κ × Value)} {j : Nat} {k : κ} {w : Value}, KV ks vs → vs[j]? = some (k, w) → ∃ y, ks[j]? = some (k, y) ∧ RelV y w
  | _, _, _, _, _, .nil, h => by simp at h
  | p :: _, q :: _, 0, k, w, .cons r _, h => by
    simp at h
    subst h
    obtain ⟨p1, p2⟩ := p
    obtain ⟨r1, r2⟩ := r
    have r1 : p1 = k := r1
    subst r1
    exact ⟨p2, rfl, r2⟩
  | _ :: _, _ :: _, j + 1, k, w, .cons _ t, h => by
    obtain ⟨y, h1, h2⟩ := kv_at (j := j) t (by simpa using h)
    exact ⟨y, by simpa using h1, h2⟩
section
variable {X : Cx}
theorem call_listV (hc : X.calm = true) : CallR X (.type "list") (fun xs H Q => ∃ (p a : Addr) (kvs : List (L2.Key × V)), xs = [.ref p] ∧ H p = some (viewO "dict_values" p a) ∧ H a = some (.dK kvs) ∧ ∀ q, H q = none → Q (.ref q) (upd H q (.lst (kvs.map (·.2))))) := by
  intro pins s σ H xs us Q I r h
  obtain ⟨p, a, kvs, e, hp, hk, q⟩ := h
  subst e
  obtain ⟨u, eu, rx⟩ := vals1 r
  subst eu
  obtain rfl : u = Value.ref p := rx
  have hv : s.heap.get? p = some (DSub.viewOb "dict_values" a) := (show ObjOk X.prog X.w H s.heap p (viewO "dict_values" p a) from I.hok p _ hp).1
  obtain ⟨z, lo, vs, rk, hd⟩ := (show ObjOk X.prog X.w H s.heap a (.dK kvs) from I.hok a _ hk)
  obtain ⟨ep, hat⟩ := hd.dictAt
  have hl : kvs.length = vs.length := Paired.length rk
  refine PySem.W.kdl_call (PySem.W.kdl_values (r := p) (d := a) (knd := mixKind X.prog X.w) (kvs := vs) (ep := ep)) (I.ok.hd hc) ⟨⟨_, hv, rfl, rfl⟩, hat⟩ (by rw [← hl]; exact z) fun h' tk acc' c' hkeep hS hacc => ?_
  refine ⟨.ref s.heap.objs.size, upd H s.heap.objs.size (.lst (kvs.map (·.2))), I.laid hkeep (Nat.le_refl _) (show ObjOk X.prog X.w _ _ _ (.lst (kvs.map (·.2))) from ⟨?_, acc'.toList, c', ?_, ?_⟩), rfl, q _ (I.hok.fresh (Nat.le_refl _))⟩
  · rw [List.length_map]; exact z
  · have el : acc'.toList.length = acc'.size := by simp
    refine vals_of_at (by rw [List.length_map, el, hacc.1, hl]) fun j x w h1 h2 => ?_
    obtain ⟨k, hky⟩ := hacc.2 j w (by rw [← Array.getElem?_toList]; exact h2)
    obtain ⟨y, g1, g2⟩ := kv_at rk hky
    rw [List.getElem?_map, g1] at h1
    cases h1
    exact g2
  · rw [Array.toArray_toList]; exact hS
end
section
variable {prog : Program} {w : World} {A : Around} {E : Value → Shared → Prop} {s : Shared} {r d : Addr} {κ : Type} [DecidableEq κ] {knd : PySem.KeyKind prog w κ} {kvs : List (κ × Value)} {ep : Nat}
theorem code_tuple_vals {Q₁ : Value → Shared → Prop} (hh : A.handled = none) (hv : s.heap.get? r = some (DSub.viewOb "dict_values" d)) (hat : s.heap.DictAt knd d kvs ep) (hlen : kvs.length ≤ sizeLine)
    (h : ∀ (h' : Heap) (tk : Nat) (acc : Array Value), (∀ b o, s.heap.get? b = some o → h'.get? b = some o) → PySem.ItemsOf (fun i v => ∃ k, kvs[i]? = some (k, v)) acc kvs.length →
      Q₁ (.ref h'.objs.size) { s with heap := h'.push { cls := .type "tuple", data := .seq acc }, toks := tk }) :
    codeAny (model prog w) A (.call (.builtin "tuple.__new__") ⟨[.type "tuple", .ref r], []⟩) (wants Q₁ E) s := by
  refine codeAny_of_tree ?_
  show wpAny _ A.in1 (do checkBuiltinCall "tuple.__new__" ⟨[.type "tuple", .ref r], []⟩; again (.builtin "tuple.__new__" ⟨[.type "tuple", .ref r], []⟩)) _ _ s
  refine wpAny_bind (wpAny_of_eq (F.newCall_tuple_1 _) (wpAny_pure ⟨plainId_quiet F.plain_tuple_new _, codeAny_builtin F.entry_tuple_new ?_⟩))
  rw [Around.under_plainId F.plain_tuple_new _]
  have hsub := sub_tuple_self
  have hinit := init_tuple_lookup
  have hmh := madeHere_tuple
  have hTI : s.TypeIs (.ref r) "dict_values" := ⟨_, hv, rfl⟩
  have hh1 : A.in1.handled = none := hh
  have hcol : ∀ {R : List Value → Shared → Prop} {E' : Value → Shared → Prop}, (∀ (h' : Heap) (tk : Nat) (acc : Array Value), (∀ b o, s.heap.get? b = some o → h'.get? b = some o) → PySem.ItemsOf (fun i v => ∃ k, kvs[i]? = some (k, v)) acc kvs.length → R acc.toList { s with heap := h', toks := tk }) →
      wpAny (model prog w) A.in1 (collect (.ref r)) R E' s := fun h => PySem.W.kdu_collect (A := A.in1) (PySem.W.kdl_values (r := r) (d := d) (knd := knd) (kvs := kvs) (ep := ep)) hh1 ⟨⟨_, hv, rfl, rfl⟩, hat⟩ hlen h
  wp_walk using wpAny_typeOf hTI, hcol
  intro h' tk acc hk hacc
  show wpAny _ _ (Builtin.Tuple.tupleExact acc.toList.toArray >>= fun v => ret v) _ _ _
  unfold Builtin.Tuple.tupleExact
  refine wpAny_bind (wpAny_newObj_type ?_ (by show acc.toList.toArray.size ≤ sizeLine; simp only [Array.toArray_toList]; rw [hacc.1]; exact hlen))
  refine wpAny_pure ?_
  have e : acc.toList.toArray = acc := by simp
  rw [e]
  exact h h' tk acc hk hacc
theorem call_tuple_vals {Q : Value → Shared → Prop} (hh : A.handled = none) (hv : s.heap.get? r = some (DSub.viewOb "dict_values" d)) (hat : s.heap.DictAt knd d kvs ep) (hlen : kvs.length ≤ sizeLine)
    (hQ : ∀ (h' : Heap) (tk : Nat) (acc : Array Value), (∀ b o, s.heap.get? b = some o → h'.get? b = some o) → PySem.ItemsOf (fun i v => ∃ k, kvs[i]? = some (k, v)) acc kvs.length →
      Q (.ref h'.objs.size) { s with heap := h'.push { cls := .type "tuple", data := .seq acc }, toks := tk }) :
    wpAny (model prog w) A (call (.type "tuple") [.ref r]) Q E s := by
  refine callType_codes (Q₁ := fun obj s₁ => s₁.TypeIs obj "tuple" ∧ Q obj s₁) F.called_tuple (F.typeCall_tuple_1 _) F.entry_object_init
    (code_tuple_vals (A := A.in1) hh hv hat hlen fun h' tk acc hk hacc => ⟨⟨_, Heap.get?_push_size _ rfl, rfl⟩, hQ h' tk acc hk hacc⟩) fun obj s₁ h₁ => ?_
  exact ⟨h₁.1, F.args_object_init_2 obj _, object_init_meets F.called_tuple.init.lookup F.called_tuple.made (by decide) prog w A.in1 _ s₁ ⟨h₁.1, rfl, h₁.2⟩⟩
end
section
variable {X : Cx}
theorem call_tupV (hc : X.calm = true) : CallR X (.type "tuple") (fun xs H Q => ∃ (p a : Addr) (kvs : List (L2.Key × V)), xs = [.ref p] ∧ H p = some (viewO "dict_values" p a) ∧ H a = some (.dK kvs) ∧ ∀ q, H q = none → Q (.ref q) (upd H q (.tup (kvs.map (·.2))))) := by
  intro pins s σ H xs us Q I r h
  obtain ⟨p, a, kvs, e, hp, hk, q⟩ := h
  subst e
  obtain ⟨u, eu, rx⟩ := vals1 r
  subst eu
  obtain rfl : u = Value.ref p := rx
  have hv : s.heap.get? p = some (DSub.viewOb "dict_values" a) := (show ObjOk X.prog X.w H s.heap p (viewO "dict_values" p a) from I.hok p _ hp).1
  obtain ⟨z, lo, vs, rk, hd⟩ := (show ObjOk X.prog X.w H s.heap a (.dK kvs) from I.hok a _ hk)
  obtain ⟨ep, hat⟩ := hd.dictAt
  have hl : kvs.length = vs.length := Paired.length rk
  refine call_tuple_vals (I.ok.hd hc) hv hat (by rw [← hl]; exact z) fun h' tk acc hkeep hacc => ?_
  have I1 : Inv X pins σ H { s with heap := h', toks := tk } := I.kept (t' := tk) hkeep
  refine ⟨.ref h'.objs.size, upd H h'.objs.size (.tup (kvs.map (·.2))), I1.laid (t' := tk) (fun c o e => Heap.get?_push_of_some _ e) (Nat.le_refl _) (show ObjOk X.prog X.w _ _ _ (.tup (kvs.map (·.2))) from ⟨by rw [List.length_map]; exact z, acc.toList, ?_, ?_⟩), rfl, q _ (I1.hok.fresh (Nat.le_refl _))⟩
  · have el : acc.toList.length = acc.size := by simp
    refine vals_of_at (by rw [List.length_map, el, hacc.1, hl]) fun j x w h1 h2 => ?_
    obtain ⟨k, hky⟩ := hacc.2 j w (by rw [← Array.getElem?_toList]; exact h2)
    obtain ⟨y, g1, g2⟩ := kv_at rk hky
    rw [List.getElem?_map, g1] at h1
    cases h1
    exact g2
  · rw [Array.toArray_toList]; exact IsTup.new _ _
end
/-! ### == of dicts of plain values -/
def flat4 : V → Bool
  | .non => true
  | .bl _ => true
  | .int _ => true
  | .str _ => true
  | _ => false
def eq4 : V → V → Bool
  | .non, .non => true
  | .bl a, .bl b => a == b
  | .int a, .int b => a == b
  | .str a, .str b => a == b
  | .bl a, .int b => (if a then 1 else 0) == b
  | .int a, .bl b => a == (if b then 1 else 0)
  | _, _ => false
theorem eqAt4 {A : Around} {s : Shared} {x y : V} {u v : Value} (rx : RelV x u) (ry : RelV y v) (fx : flat4 x = true) (fy : flat4 y = true) : SeqAt.EqAt A s u v (eq4 x y) := by
  cases x <;> first | (exact absurd (show false = true from fx) Bool.false_ne_true) | skip
  all_goals cases y <;> first | (exact absurd (show false = true from fy) Bool.false_ne_true) | skip
  · cases (show u = Value.none from rx); cases (show v = Value.none from ry); exact .same _
  · cases (show u = Value.none from rx); cases (show v = Value.bool _ from ry); exact .none_bool _
  · cases (show u = Value.none from rx); obtain ⟨t, rfl⟩ := ry; exact .none_int _ _
  · cases (show u = Value.none from rx); obtain ⟨t, rfl⟩ := ry; exact .none_str _ _
  · cases (show u = Value.bool _ from rx); cases (show v = Value.none from ry); exact .bool_none _
  · cases (show u = Value.bool _ from rx); cases (show v = Value.bool _ from ry); exact .bool_bool _ _
  · cases (show u = Value.bool _ from rx); obtain ⟨t, rfl⟩ := ry; exact .bool_int _ _ _
  · cases (show u = Value.bool _ from rx); obtain ⟨t, rfl⟩ := ry; exact .bool_str _ _ _
  · obtain ⟨t, rfl⟩ := rx; cases (show v = Value.none from ry); exact .int_none _ _
  · obtain ⟨t, rfl⟩ := rx; cases (show v = Value.bool _ from ry); exact .int_bool _ _ _
  · obtain ⟨t, rfl⟩ := rx; obtain ⟨t2, rfl⟩ := ry; exact .int_int _ _ _ _
  · obtain ⟨t, rfl⟩ := rx; obtain ⟨t2, rfl⟩ := ry; exact .int_str _ _ _ _
  · obtain ⟨t, rfl⟩ := rx; cases (show v = Value.none from ry); exact .str_none _ _
  · obtain ⟨t, rfl⟩ := rx; cases (show v = Value.bool _ from ry); exact .str_bool _ _ _
  · obtain ⟨t, rfl⟩ := rx; obtain ⟨t2, rfl⟩ := ry; exact .str_int _ _ _ _
  · obtain ⟨t, rfl⟩ := rx; obtain ⟨t2, rfl⟩ := ry; exact .str_str _ _ _ _
def eqKB (ls : List (L2.Key × V)) : List (L2.Key × V) → Bool
  | [] => true
  | p :: r => match valV ls p.1 with
    | none => false
    | some y => eq4 p.2 y && eqKB ls r
theorem hits_any {A : Around} {s : Shared} {ls : List (L2.Key × V)} {vb : List (L2.Key × Value)} (rb : KV ls vb) (fl : ∀ p ∈ ls, flat4 p.2 = true) {ks : List (L2.Key × V)} {va : List (L2.Key × Value)} (ra : KV ks va) :
    (∀ p ∈ ks, flat4 p.2 = true) → PySem.W.KeqHits A s vb va (eqKB ls ks) := by
  unfold KV at ra
  induction ra with
  | nil => intro _; exact .nil
  | @cons p q ps qs h t ih =>
    intro hp
    obtain ⟨h1, h2⟩ := h
    obtain ⟨k, v⟩ := q
    have h1' : p.1 = k := h1
    have rr : RelO (valV ls p.1) (valueAt vb p.1) := rb.val p.1
    unfold eqKB
    cases hv : valV ls p.1 with
    | none =>
      rw [hv] at rr
      cases hb : valueAt vb p.1 with
      | none => rw [h1'] at hb; exact .miss hb
      | some y => rw [hb] at rr; exact rr.elim
    | some x =>
      rw [hv] at rr
      obtain ⟨y, hy, ry⟩ := rr.some_of
      rw [h1'] at hy
      have fx : flat4 x = true := by
        unfold valV at hv
        obtain ⟨q, hq, e⟩ := Option.map_eq_some_iff.mp hv
        rw [← e]; exact fl q (List.mem_of_find?_eq_some hq)
      exact .hit hy (eqAt4 h2 ry (hp p List.mem_cons_self) fx) (ih fun p' hm => hp p' (List.mem_cons_of_mem _ hm))
def rEqDK : R2 := fun x y H Q => ∃ a b ks ls, x = .ref a ∧ y = .ref b ∧ H a = some (.dK ks) ∧ H b = some (.dK ls) ∧ ks.length = ls.length ∧ (∀ p ∈ ks, flat4 p.2 = true) ∧ (∀ p ∈ ls, flat4 p.2 = true) ∧ Q (.bl (eqKB ls ks)) H
theorem op_eqDK {X : Cx} (hu : X.A.units < cLine) : OpR X (compareOp .Eq) rEqDK := by
  intro pins s σ H x y v u Q I rx ry h
  obtain ⟨a, b, ks, ls, rfl, rfl, ea, eb, hlen, fk, fl, q⟩ := h
  obtain rfl : v = Value.ref a := rx
  obtain rfl : u = Value.ref b := ry
  obtain ⟨_, ya, va, ra, da⟩ := (show ObjOk X.prog X.w H s.heap a (.dK ks) from I.hok a _ ea)
  obtain ⟨_, yb, vb, rb, db⟩ := (show ObjOk X.prog X.w H s.heap b (.dK ls) from I.hok b _ eb)
  have hl : va.length = vb.length := by rw [← ra.length, ← rb.length]; exact hlen
  refine PySem.W.keq_eq (knd := mixKind X.prog X.w) (r := eqKB ls ks) ya yb da db hu (fun _ => hits_any rb fl ra fk) ?_
  rw [hl, beq_self_eq_true, Bool.true_and]
  exact ⟨.bl _, H, I, rfl, q⟩
end Kb

namespace Kb
open PySem PySem.Spec PyProof.Rows L2
/-! ### d.update(e), e another dict -/
def rUpdD : V → List V → Hp → VK → Prop := fun x vs H Q => ∃ a b kvs more, x = .ref a ∧ vs = [.ref b] ∧ a ≠ b ∧ H a = some (.dK kvs) ∧ H b = some (.dK more) ∧ kvs.length + more.length ≤ sizeLine ∧ Q .non (upd H a (.dK (mergeK kvs more)))
theorem mt_updD {X : Cx} : MtM X "dict.update" rUpdD := by
  intro pins s σ H x vs v us Q I rx rv h
  obtain ⟨a, b, kvs, more, rfl, rfl, ne, ea, eb, hz, q⟩ := h
  obtain rfl : v = Value.ref a := rx
  obtain ⟨u, rfl, ru⟩ := rv.one
  obtain rfl : u = Value.ref b := ru
  obtain ⟨_, _, va, ra, da⟩ := dk_of I.hok ea
  obtain ⟨_, yb, vb, rb, db⟩ := dk_of I.hok eb
  refine call_meetsIn PySem.F.slot_dict_update da.typeIs PySem.F.entry_dict_update (PySem.F.args_dict_update_2 _ _) (meets_dict_update (mixKind X.prog X.w) a b ne yb) ⟨va, vb, da, db, by rw [← ra.length, ← rb.length]; exact hz, fun h' dd' _ hs => ?_⟩
  have he : ∃ q, h'.get? a = some q := let ⟨q, _, _, hq, _⟩ := dd'; ⟨q, hq⟩
  exact ⟨.non, _, d_write (t' := s.toks) I (by rw [ea]; exact True.intro) hs he (dk_new (Nat.le_trans (length_mergeK more kvs) hz) (by obtain ⟨_, hd, _⟩ := dk_of I.hok ea; exact hd) (rb.merge ra) dd'), rfl, q⟩
end Kb

namespace Pf
open PySem PySem.Spec PyProof.Rows L2 TL Kb
def top (i : Nat) : Stmt := PySem.Challenge.pw_crumbjar_k28_whole_requests_and_sites.main.body.getD i (.Pass ⟨0, 0, 0, 0⟩)
def mth : Stmt → Nat → Stmt
  | .ClassDef _ _ _ body _ _ _ _ _ _ _, j => body.getD j (.Pass ⟨0, 0, 0, 0⟩)
  | s, _ => s
def clsInit : Stmt → Stmt
  | .ClassDef _ _ _ body _ _ _ _ _ _ _ => body.getD 0 (.Pass ⟨0, 0, 0, 0⟩)
  | s => s
abbrev si_BadRequest : Stmt := clsInit (top 6)
theorem sci_BadRequest : FnScope ["self", "field"] ["self", "field"] (defScope si_BadRequest) := ⟨rfl, rfl, rfl, by decide +kernel, rfl, by decide +kernel, by decide +kernel⟩
theorem oki_BadRequest {K : PySem.W.Frag} {mg : Str → Option Value} {C fI : Addr} {fd : FuncData} (P : Program) (w : World) (base : Heap) (F : Fun K "__init__" "BadRequest.__init__" si_BadRequest fI fd) : FnOk P w K mg base CX0 1 fI fd ["self", "field"] (spInit K C "field") := by
  refine F.ok sci_BadRequest (fun vs H Q E h => ?_) (fun cdv A outer s H vs Q E hr h => ?_)
  · obtain ⟨_, _, rfl, _⟩ := h; rfl
  · refine ⟨_, pss_one (ps_ost (pv 0) (pv 1)), ?_⟩
    obtain ⟨a, v, rfl, ha, T, no, hQ⟩ := h
    exact ⟨_, rfl, _, rfl, a, C, rfl, T, no, .inl ⟨ha, fun dx h1 h2 => hQ dx h1 h2⟩⟩
theorem bi_BadRequest : ∀ (kV doc pm : Value) (an : Option Addr) (cdv ct : Value) (us : List Value), us.length = (["self", "field"] : List Str).length → bindArgs (PySem.W.fnOf "__init__" "BadRequest.__init__" (defArgs si_BadRequest) (defBody si_BadRequest) (defScope si_BadRequest) .none kV doc pm an cdv ct) ⟨us, []⟩ = pure ((["self", "field"] : List Str).zip us) :=
  fun _ _ _ _ _ _ us hl => match us, hl with | [_, _], _ => rfl
abbrev si_BadRules : Stmt := clsInit (top 3)
theorem sci_BadRules : FnScope ["self", "index"] ["self", "index"] (defScope si_BadRules) := ⟨rfl, rfl, rfl, by decide +kernel, rfl, by decide +kernel, by decide +kernel⟩
theorem oki_BadRules {K : PySem.W.Frag} {mg : Str → Option Value} {C fI : Addr} {fd : FuncData} (P : Program) (w : World) (base : Heap) (F : Fun K "__init__" "BadRules.__init__" si_BadRules fI fd) : FnOk P w K mg base CX0 1 fI fd ["self", "index"] (spInit K C "index") := by
  refine F.ok sci_BadRules (fun vs H Q E h => ?_) (fun cdv A outer s H vs Q E hr h => ?_)
  · obtain ⟨_, _, rfl, _⟩ := h; rfl
  · refine ⟨_, pss_one (ps_ost (pv 0) (pv 1)), ?_⟩
    obtain ⟨a, v, rfl, ha, T, no, hQ⟩ := h
    exact ⟨_, rfl, _, rfl, a, C, rfl, T, no, .inl ⟨ha, fun dx h1 h2 => hQ dx h1 h2⟩⟩
theorem bi_BadRules : ∀ (kV doc pm : Value) (an : Option Addr) (cdv ct : Value) (us : List Value), us.length = (["self", "index"] : List Str).length → bindArgs (PySem.W.fnOf "__init__" "BadRules.__init__" (defArgs si_BadRules) (defBody si_BadRules) (defScope si_BadRules) .none kV doc pm an cdv ct) ⟨us, []⟩ = pure ((["self", "index"] : List Str).zip us) :=
  fun _ _ _ _ _ _ us hl => match us, hl with | [_, _], _ => rfl
abbrev s__law_begun : Stmt := top 67
theorem sc__law_begun : FnScope ["script", "blend", "k", "cell"] ["script"] (defScope s__law_begun) := ⟨rfl, rfl, rfl, by decide +kernel, rfl, by decide +kernel, by decide +kernel⟩
abbrev s__law_next : Stmt := top 68
theorem sc__law_next : FnScope ["draw", "below", "great", "upon", "found", "blend"] ["draw", "below"] (defScope s__law_next) := ⟨rfl, rfl, rfl, by decide +kernel, rfl, by decide +kernel, by decide +kernel⟩
abbrev s__law_pick : Stmt := top 69
theorem sc__law_pick : FnScope ["draw", "some"] ["draw", "some"] (defScope s__law_pick) := ⟨rfl, rfl, rfl, by decide +kernel, rfl, by decide +kernel, by decide +kernel⟩
abbrev s__law_rules : Stmt := top 73
theorem sc__law_rules : FnScope ["draw", "some"] ["draw"] (defScope s__law_rules) := ⟨rfl, rfl, rfl, by decide +kernel, rfl, by decide +kernel, by decide +kernel⟩
abbrev s__law_hosts : Stmt := top 74
theorem sc__law_hosts : FnScope ["some"] [] (defScope s__law_hosts) := ⟨rfl, rfl, rfl, by decide +kernel, rfl, by decide +kernel, by decide +kernel⟩
abbrev s__law_address : Stmt := top 78
theorem sc__law_address : FnScope ["draw", "some", "slots"] ["draw", "some"] (defScope s__law_address) := ⟨rfl, rfl, rfl, by decide +kernel, rfl, by decide +kernel, by decide +kernel⟩
abbrev s__law_ask : Stmt := top 79
theorem sc__law_ask : FnScope ["draw", "some", "v", "way", "k"] ["draw", "some"] (defScope s__law_ask) := ⟨rfl, rfl, rfl, by decide +kernel, rfl, by decide +kernel, by decide +kernel⟩
abbrev s_has_only : Stmt := top 9
theorem sc_has_only : FnScope ["text", "signs"] ["text", "signs"] (defScope s_has_only) := ⟨rfl, rfl, rfl, by decide +kernel, rfl, by decide +kernel, by decide +kernel⟩
abbrev s__is_label : Stmt := top 20
theorem sc__is_label : FnScope ["text"] ["text"] (defScope s__is_label) := ⟨rfl, rfl, rfl, by decide +kernel, rfl, by decide +kernel, by decide +kernel⟩
abbrev s_are_labels : Stmt := top 19
theorem sc_are_labels : FnScope ["texts", "text"] ["texts"] (defScope s_are_labels) := ⟨rfl, rfl, rfl, by decide +kernel, rfl, by decide +kernel, by decide +kernel⟩
abbrev s__is_rule : Stmt := top 43
theorem sc__is_rule : FnScope ["value", "labels"] ["value"] (defScope s__is_rule) := ⟨rfl, rfl, rfl, by decide +kernel, rfl, by decide +kernel, by decide +kernel⟩
abbrev s_need_rules : Stmt := top 40
theorem sc_need_rules : FnScope ["rules", "index", "rule"] ["rules"] (defScope s_need_rules) := ⟨rfl, rfl, rfl, by decide +kernel, rfl, by decide +kernel, by decide +kernel⟩
abbrev s_is_digits : Stmt := top 10
theorem sc_is_digits : FnScope ["text"] ["text"] (defScope s_is_digits) := ⟨rfl, rfl, rfl, by decide +kernel, rfl, by decide +kernel, by decide +kernel⟩
abbrev s__is_number : Stmt := top 22
theorem sc__is_number : FnScope ["label"] ["label"] (defScope s__is_number) := ⟨rfl, rfl, rfl, by decide +kernel, rfl, by decide +kernel, by decide +kernel⟩
abbrev s__are_four_numbers : Stmt := top 21
theorem sc__are_four_numbers : FnScope ["labels", "label"] ["labels"] (defScope s__are_four_numbers) := ⟨rfl, rfl, rfl, by decide +kernel, rfl, by decide +kernel, by decide +kernel⟩
abbrev s_is_host : Stmt := top 17
theorem sc_is_host : FnScope ["value", "labels"] ["value"] (defScope s_is_host) := ⟨rfl, rfl, rfl, by decide +kernel, rfl, by decide +kernel, by decide +kernel⟩
abbrev s__is_scheme : Stmt := top 34
theorem sc__is_scheme : FnScope ["value"] ["value"] (defScope s__is_scheme) := ⟨rfl, rfl, rfl, by decide +kernel, rfl, by decide +kernel, by decide +kernel⟩
abbrev s_is_origin : Stmt := top 29
theorem sc_is_origin : FnScope ["value"] ["value"] (defScope s_is_origin) := ⟨rfl, rfl, rfl, by decide +kernel, rfl, by decide +kernel, by decide +kernel⟩
abbrev s_is_safe : Stmt := top 31
theorem sc_is_safe : FnScope ["origin", "scheme", "host"] ["origin"] (defScope s_is_safe) := ⟨rfl, rfl, rfl, by decide +kernel, rfl, by decide +kernel, by decide +kernel⟩
abbrev s__is_path_sign : Stmt := top 35
theorem sc__is_path_sign : FnScope ["sign"] ["sign"] (defScope s__is_path_sign) := ⟨rfl, rfl, rfl, by decide +kernel, rfl, by decide +kernel, by decide +kernel⟩
abbrev s_is_path : Stmt := top 28
theorem sc_is_path : FnScope ["value", "sign"] ["value"] (defScope s_is_path) := ⟨rfl, rfl, rfl, by decide +kernel, rfl, by decide +kernel, by decide +kernel⟩
abbrev s_is_address : Stmt := top 30
theorem sc_is_address : FnScope ["value"] ["value"] (defScope s_is_address) := ⟨rfl, rfl, rfl, by decide +kernel, rfl, by decide +kernel, by decide +kernel⟩
abbrev s__need_address : Stmt := top 33
theorem sc__need_address : FnScope ["address"] ["address"] (defScope s__need_address) := ⟨rfl, rfl, rfl, by decide +kernel, rfl, by decide +kernel, by decide +kernel⟩
abbrev s_origin_of : Stmt := top 32
theorem sc_origin_of : FnScope ["address"] ["address"] (defScope s_origin_of) := ⟨rfl, rfl, rfl, by decide +kernel, rfl, by decide +kernel, by decide +kernel⟩
abbrev s__places : Stmt := top 64
theorem sc__places : FnScope ["request", "starters"] ["request"] (defScope s__places) := ⟨rfl, rfl, rfl, by decide +kernel, rfl, by decide +kernel, by decide +kernel⟩
abbrev s_is_address_host : Stmt := top 18
theorem sc_is_address_host : FnScope ["value"] ["value"] (defScope s_is_address_host) := ⟨rfl, rfl, rfl, by decide +kernel, rfl, by decide +kernel, by decide +kernel⟩
abbrev s__last_labels : Stmt := top 45
theorem sc__last_labels : FnScope ["host", "many"] ["host", "many"] (defScope s__last_labels) := ⟨rfl, rfl, rfl, by decide +kernel, rfl, by decide +kernel, by decide +kernel⟩
abbrev s__size : Stmt := top 44
theorem sc__size : FnScope ["text"] ["text"] (defScope s__size) := ⟨rfl, rfl, rfl, by decide +kernel, rfl, by decide +kernel, by decide +kernel⟩
abbrev s__matches : Stmt := top 47
theorem sc__matches : FnScope ["pattern", "host", "ending"] ["pattern", "host"] (defScope s__matches) := ⟨rfl, rfl, rfl, by decide +kernel, rfl, by decide +kernel, by decide +kernel⟩
abbrev s__suffix_size : Stmt := top 46
theorem sc__suffix_size : FnScope ["rules", "host", "longest", "exception", "rule"] ["rules", "host"] (defScope s__suffix_size) := ⟨rfl, rfl, rfl, by decide +kernel, rfl, by decide +kernel, by decide +kernel⟩
abbrev s_known_suffix : Stmt := top 41
theorem sc_known_suffix : FnScope ["rules", "host"] ["rules", "host"] (defScope s_known_suffix) := ⟨rfl, rfl, rfl, by decide +kernel, rfl, by decide +kernel, by decide +kernel⟩
abbrev s_known_family : Stmt := top 42
theorem sc_known_family : FnScope ["rules", "host", "suffix"] ["rules", "host"] (defScope s_known_family) := ⟨rfl, rfl, rfl, by decide +kernel, rfl, by decide +kernel, by decide +kernel⟩
abbrev s__site : Stmt := top 65
theorem sc__site : FnScope ["rules", "place"] ["rules", "place"] (defScope s__site) := ⟨rfl, rfl, rfl, by decide +kernel, rfl, by decide +kernel, by decide +kernel⟩
abbrev s_Traits__init : Stmt := mth (top 54) 0
theorem sc_Traits__init : FnScope ["self", "rules", "request", "site", "frame_sites", "top", "place", "frame", "other"] ["self", "rules", "request"] (defScope s_Traits__init) := ⟨rfl, rfl, rfl, by decide +kernel, rfl, by decide +kernel, by decide +kernel⟩
abbrev s_need_request : Stmt := top 58
theorem sc_need_request : FnScope ["value"] ["value"] (defScope s_need_request) := ⟨rfl, rfl, rfl, by decide +kernel, rfl, by decide +kernel, by decide +kernel⟩
abbrev s__checked_traits : Stmt := top 59
theorem sc__checked_traits : FnScope ["rules", "request"] ["rules", "request"] (defScope s__checked_traits) := ⟨rfl, rfl, rfl, by decide +kernel, rfl, by decide +kernel, by decide +kernel⟩
abbrev s_near : Stmt := top 55
theorem sc_near : FnScope ["rules", "request"] ["rules", "request"] (defScope s_near) := ⟨rfl, rfl, rfl, by decide +kernel, rfl, by decide +kernel, by decide +kernel⟩
abbrev s_lax : Stmt := top 56
theorem sc_lax : FnScope ["rules", "request"] ["rules", "request"] (defScope s_lax) := ⟨rfl, rfl, rfl, by decide +kernel, rfl, by decide +kernel, by decide +kernel⟩
abbrev s_partition_of : Stmt := top 57
theorem sc_partition_of : FnScope ["rules", "request"] ["rules", "request"] (defScope s_partition_of) := ⟨rfl, rfl, rfl, by decide +kernel, rfl, by decide +kernel, by decide +kernel⟩
abbrev s__need : Stmt := top 60
theorem sc__need : FnScope ["field", "is_right"] ["field", "is_right"] (defScope s__need) := ⟨rfl, rfl, rfl, by decide +kernel, rfl, by decide +kernel, by decide +kernel⟩
abbrev s__are_addresses : Stmt := top 62
theorem sc__are_addresses : FnScope ["value", "address"] ["value"] (defScope s__are_addresses) := ⟨rfl, rfl, rfl, by decide +kernel, rfl, by decide +kernel, by decide +kernel⟩
abbrev s__are_frames : Stmt := top 63
theorem sc__are_frames : FnScope ["value", "frame"] ["value"] (defScope s__are_frames) := ⟨rfl, rfl, rfl, by decide +kernel, rfl, by decide +kernel, by decide +kernel⟩
abbrev s_Request__init : Stmt := mth (top 53) 0
theorem sc_Request__init : FnScope ["self", "addresses", "starter", "frames", "is_reading", "by"] ["self", "addresses", "starter", "frames", "is_reading", "by"] (defScope s_Request__init) := ⟨rfl, rfl, rfl, by decide +kernel, rfl, by decide +kernel, by decide +kernel⟩
abbrev s__law_asked : Stmt := top 80
theorem sc__law_asked : FnScope ["v"] ["v"] (defScope s__law_asked) := ⟨rfl, rfl, rfl, by decide +kernel, rfl, by decide +kernel, by decide +kernel⟩
abbrev s__law_told : Stmt := top 81
theorem sc__law_told : FnScope ["rules", "v", "request"] ["rules", "v"] (defScope s__law_told) := ⟨rfl, rfl, rfl, by decide +kernel, rfl, by decide +kernel, by decide +kernel⟩
abbrev s__law_with : Stmt := top 82
theorem sc__law_with : FnScope ["v", "changes", "other"] ["v", "changes"] (defScope s__law_with) := ⟨rfl, rfl, rfl, by decide +kernel, rfl, by decide +kernel, by decide +kernel⟩
abbrev s__law_turned : Stmt := top 83
theorem sc__law_turned : FnScope ["draw", "some", "left", "found"] ["draw", "some"] (defScope s__law_turned) := ⟨rfl, rfl, rfl, by decide +kernel, rfl, by decide +kernel, by decide +kernel⟩
abbrev s__law_chains_right : Stmt := top 84
theorem sc__law_chains_right : FnScope ["draw", "rules", "v", "told", "last", "ahead", "more"] ["draw", "rules", "v"] (defScope s__law_chains_right) := ⟨rfl, rfl, rfl, by decide +kernel, rfl, by decide +kernel, by decide +kernel⟩
abbrev s__law_is_numbers : Stmt := top 70
theorem sc__law_is_numbers : FnScope ["host", "sign"] ["host"] (defScope s__law_is_numbers) := ⟨rfl, rfl, rfl, by decide +kernel, rfl, by decide +kernel, by decide +kernel⟩
abbrev s__law_suffix : Stmt := top 71
theorem sc__law_suffix : FnScope ["rules", "host", "labels", "size", "ahead", "rule", "words", "tail", "off", "is_met", "k"] ["rules", "host"] (defScope s__law_suffix) := ⟨rfl, rfl, rfl, by decide +kernel, rfl, by decide +kernel, by decide +kernel⟩
abbrev s__law_family : Stmt := top 72
theorem sc__law_family : FnScope ["rules", "host"] ["rules", "host"] (defScope s__law_family) := ⟨rfl, rfl, rfl, by decide +kernel, rfl, by decide +kernel, by decide +kernel⟩
abbrev s__law_site : Stmt := top 75
theorem sc__law_site : FnScope ["rules", "origin"] ["rules", "origin"] (defScope s__law_site) := ⟨rfl, rfl, rfl, by decide +kernel, rfl, by decide +kernel, by decide +kernel⟩
abbrev s__law_near_right : Stmt := top 85
theorem sc__law_near_right : FnScope ["rules", "v", "is_one", "is_free", "part", "own", "plain", "slow"] ["rules", "v"] (defScope s__law_near_right) := ⟨rfl, rfl, rfl, by decide +kernel, rfl, by decide +kernel, by decide +kernel⟩
abbrev s__law_moved : Stmt := top 86
theorem sc__law_moved : FnScope ["v", "change", "chain", "first", "one"] ["v", "change"] (defScope s__law_moved) := ⟨rfl, rfl, rfl, by decide +kernel, rfl, by decide +kernel, by decide +kernel⟩
abbrev s__law_other_scheme : Stmt := top 87
theorem sc__law_other_scheme : FnScope ["origin"] ["origin"] (defScope s__law_other_scheme) := ⟨rfl, rfl, rfl, by decide +kernel, rfl, by decide +kernel, by decide +kernel⟩
abbrev s__law_moves_right : Stmt := top 88
theorem sc__law_moves_right : FnScope ["rules", "v", "told", "other"] ["rules", "v"] (defScope s__law_moves_right) := ⟨rfl, rfl, rfl, by decide +kernel, rfl, by decide +kernel, by decide +kernel⟩
abbrev s__law_frames_right : Stmt := top 89
theorem sc__law_frames_right : FnScope ["rules", "v", "base", "own", "far", "told", "more", "found"] ["rules", "v"] (defScope s__law_frames_right) := ⟨rfl, rfl, rfl, by decide +kernel, rfl, by decide +kernel, by decide +kernel⟩
abbrev s_law : Stmt := top 90
theorem sc_law : FnScope ["script", "draw", "turn", "rules", "some", "v"] ["script"] (defScope s_law) := ⟨rfl, rfl, rfl, by decide +kernel, rfl, by decide +kernel, by decide +kernel⟩
/-- what the top has written -/
structure Txt (K : PySem.W.Frag) (mg : Str → Option Value) : Prop where
  b_all : mg "all" = none
  b_any : mg "any" = none
  b_bool : mg "bool" = none
  b_dict : mg "dict" = none
  b_enumerate : mg "enumerate" = none
  b_int : mg "int" = none
  b_isinstance : mg "isinstance" = none
  b_len : mg "len" = none
  b_list : mg "list" = none
  b_max : mg "max" = none
  b_min : mg "min" = none
  b_ord : mg "ord" = none
  b_range : mg "range" = none
  b_str : mg "str" = none
  b_tuple : mg "tuple" = none
  c_DIGITS : ∃ u, mg "DIGITS" = some u ∧ RelV (.str "0123456789") u
  c_MOST_OF_LABEL : ∃ u, mg "MOST_OF_LABEL" = some u ∧ RelV (.int 20) u
  c_MOST_LABELS : ∃ u, mg "MOST_LABELS" = some u ∧ RelV (.int 10) u
  c_MOST_OF_HOST : ∃ u, mg "MOST_OF_HOST" = some u ∧ RelV (.int 100) u
  c_MOST_OF_NUMBER : ∃ u, mg "MOST_OF_NUMBER" = some u ∧ RelV (.int 255) u
  c_LABEL_SIGNS : ∃ u, mg "LABEL_SIGNS" = some u ∧ RelV (.str "abcdefghijklmnopqrstuvwxyz0123456789-") u
  c_SCHEMES : ∃ a, mg "SCHEMES" = some (.ref a) ∧ ∀ H, SqT K H a [(.str "http"), (.str "https")]
  c_MOST_OF_PATH : ∃ u, mg "MOST_OF_PATH" = some u ∧ RelV (.int 200) u
  c_BARRED : ∃ u, mg "BARRED" = some u ∧ RelV (.str ";?#") u
  c_PERCENT : ∃ u, mg "PERCENT" = some u ∧ RelV (.int 37) u
  c_MOST_RULES : ∃ u, mg "MOST_RULES" = some u ∧ RelV (.int 30) u
  c_ANY : ∃ u, mg "ANY" = some u ∧ RelV (.str "*") u
  c_EXCEPTION : ∃ u, mg "EXCEPTION" = some u ∧ RelV (.str "!") u
  c_MOST_ADDRESSES : ∃ u, mg "MOST_ADDRESSES" = some u ∧ RelV (.int 10) u
  c_MOST_FRAMES : ∃ u, mg "MOST_FRAMES" = some u ∧ RelV (.int 6) u
  c_HTTP : ∃ u, mg "HTTP" = some u ∧ RelV (.str "http") u
  c_SCRIPT : ∃ u, mg "SCRIPT" = some u ∧ RelV (.str "script") u
  e_BadRequest : ∃ C, Err K mg "BadRequest" "field" C
  e_BadRules : ∃ C, Err K mg "BadRules" "index" C
  o_Request : ∃ C, OwnC K mg "Request" ["addresses", "starter", "frames", "is_reading", "by", "target"] C
  o_Traits : ∃ C, OwnC K mg "Traits" ["host", "path", "family", "is_safe", "is_script", "has_frames", "is_near", "is_lax", "partition"] C
  d__law_begun : Df K mg "_law_begun" s__law_begun ["script"]
  d__law_next : Df K mg "_law_next" s__law_next ["draw", "below"]
  d__law_pick : Df K mg "_law_pick" s__law_pick ["draw", "some"]
  d__law_rules : Df K mg "_law_rules" s__law_rules ["draw"]
  d__law_hosts : Df K mg "_law_hosts" s__law_hosts []
  d__law_address : Df K mg "_law_address" s__law_address ["draw", "some"]
  d__law_ask : Df K mg "_law_ask" s__law_ask ["draw", "some"]
  d_has_only : Df K mg "has_only" s_has_only ["text", "signs"]
  d__is_label : Df K mg "_is_label" s__is_label ["text"]
  d_are_labels : Df K mg "are_labels" s_are_labels ["texts"]
  d__is_rule : Df K mg "_is_rule" s__is_rule ["value"]
  d_need_rules : Df K mg "need_rules" s_need_rules ["rules"]
  d_is_digits : Df K mg "is_digits" s_is_digits ["text"]
  d__is_number : Df K mg "_is_number" s__is_number ["label"]
  d__are_four_numbers : Df K mg "_are_four_numbers" s__are_four_numbers ["labels"]
  d_is_host : Df K mg "is_host" s_is_host ["value"]
  d__is_scheme : Df K mg "_is_scheme" s__is_scheme ["value"]
  d_is_origin : Df K mg "is_origin" s_is_origin ["value"]
  d_is_safe : Df K mg "is_safe" s_is_safe ["origin"]
  d__is_path_sign : Df K mg "_is_path_sign" s__is_path_sign ["sign"]
  d_is_path : Df K mg "is_path" s_is_path ["value"]
  d_is_address : Df K mg "is_address" s_is_address ["value"]
  d__need_address : Df K mg "_need_address" s__need_address ["address"]
  d_origin_of : Df K mg "origin_of" s_origin_of ["address"]
  d__places : Df K mg "_places" s__places ["request"]
  d_is_address_host : Df K mg "is_address_host" s_is_address_host ["value"]
  d__last_labels : Df K mg "_last_labels" s__last_labels ["host", "many"]
  d__size : Df K mg "_size" s__size ["text"]
  d__matches : Df K mg "_matches" s__matches ["pattern", "host"]
  d__suffix_size : Df K mg "_suffix_size" s__suffix_size ["rules", "host"]
  d_known_suffix : Df K mg "known_suffix" s_known_suffix ["rules", "host"]
  d_known_family : Df K mg "known_family" s_known_family ["rules", "host"]
  d__site : Df K mg "_site" s__site ["rules", "place"]
  m_Traits__init : MthT K mg "Traits" "__init__" "Traits.__init__" s_Traits__init ["self", "rules", "request"]
  d_need_request : Df K mg "need_request" s_need_request ["value"]
  d__checked_traits : Df K mg "_checked_traits" s__checked_traits ["rules", "request"]
  d_near : Df K mg "near" s_near ["rules", "request"]
  d_lax : Df K mg "lax" s_lax ["rules", "request"]
  d_partition_of : Df K mg "partition_of" s_partition_of ["rules", "request"]
  d__need : Df K mg "_need" s__need ["field", "is_right"]
  d__are_addresses : Df K mg "_are_addresses" s__are_addresses ["value"]
  d__are_frames : Df K mg "_are_frames" s__are_frames ["value"]
  m_Request__init : MthQ K mg "Request" "__init__" "Request.__init__" s_Request__init 2 ["self", "addresses", "starter", "frames", "is_reading", "by"] ["starter", "frames", "is_reading", "by"]
  d__law_asked : Df K mg "_law_asked" s__law_asked ["v"]
  d__law_told : Df K mg "_law_told" s__law_told ["rules", "v"]
  d__law_with : Df K mg "_law_with" s__law_with ["v", "changes"]
  d__law_turned : Df K mg "_law_turned" s__law_turned ["draw", "some"]
  d__law_chains_right : Df K mg "_law_chains_right" s__law_chains_right ["draw", "rules", "v"]
  d__law_is_numbers : Df K mg "_law_is_numbers" s__law_is_numbers ["host"]
  d__law_suffix : Df K mg "_law_suffix" s__law_suffix ["rules", "host"]
  d__law_family : Df K mg "_law_family" s__law_family ["rules", "host"]
  d__law_site : Df K mg "_law_site" s__law_site ["rules", "origin"]
  d__law_near_right : Df K mg "_law_near_right" s__law_near_right ["rules", "v"]
  d__law_moved : Df K mg "_law_moved" s__law_moved ["v", "change"]
  d__law_other_scheme : Df K mg "_law_other_scheme" s__law_other_scheme ["origin"]
  d__law_moves_right : Df K mg "_law_moves_right" s__law_moves_right ["rules", "v"]
  d__law_frames_right : Df K mg "_law_frames_right" s__law_frames_right ["rules", "v"]
def sp__law_begun (K : PySem.W.Frag) : Sp := fun vs H Q _ => ∃ (a : Addr) (ns : List Int), vs = [.ref a] ∧ SqL K H a (ns.map V.int) ∧ ns.length ≤ 63 ∧
  ∀ (d g : Addr) (H' : Hp), Same H H' → GAt H' d g 900000000 → Q (.ref d) H'
theorem dpAll_intsG {K : PySem.W.Frag} {H : Hp} : ∀ ns : List Int, DpAll K H (ns.map V.int) (ns.map PyData.int)
  | [] => .nil
  | n :: ns => .cons (.int n) (dpAll_intsG ns)
/-- some number below a bound -/
def sp__law_next (K : PySem.W.Frag) : Sp := fun vs H Q _ => ∃ (d g : Addr) (b : Int) (n : Nat), vs = [.ref d, .int b] ∧ 0 < b ∧ b < 1000000000 ∧ GAt H d g (n + 1) ∧
  ∀ (r : Int) (H' : Hp), 0 ≤ r → r < b → KeepD d g H H' → GAt H' d g n → Q (.int r) H'
/-- some item of a list -/
def sp__law_pick (K : PySem.W.Frag) : Sp := fun vs H Q _ => ∃ (d g p : Addr) (xs : List V) (n : Nat), vs = [.ref d, .ref p] ∧ H p = some (.lst xs) ∧ p ≠ g ∧ 0 < xs.length ∧ xs.length ≤ 1000 ∧ GAt H d g (n + 1) ∧
  ∀ (i : Nat) (x : V) (H' : Hp), xs[i]? = some x → KeepD d g H H' → GAt H' d g n → Q x H'
def rules27 : List (List Str) := [[], ["com"], ["co.uk", "com", "uk"], ["*.uk", "!city.uk", "com"], ["b.com", "com", "*.b.com"], ["x.y.com", "com"], ["*.a.com"], ["localhost", "z.localhost"]]
def sp__law_rules : Sp := fun vs H Q _ => ∃ (d g : Addr) (n : Nat), vs = [.ref d] ∧ GAt H d g (n + 1) ∧
  ∀ (p : Addr) (rs : List Str) (H' : Hp), rs ∈ rules27 → KeepD d g H H' → GAt H' d g n → H' p = some (.tup (rs.map V.str)) → Q (.ref p) H'
def hosts27 : List Str := ["a.com", "www.a.com", "x.www.a.com", "b.com", "a.b.com", "y.com", "a.x.y.com", "com", "localhost", "a.localhost", "w.a.localhost", "a.co.uk", "w.a.co.uk", "city.uk", "w.city.uk", "10.0.0.1", "z.localhost", "co.uk", "192.168.1.255"]
/-- the hosts of these laws -/
def hosts28 : List Str := hosts27 ++ ([] : List Str)
theorem host28_ok : hosts28.all (fun y => hostB (tl y) && decide (y.length ≤ 40)) = true := by decide +kernel
theorem host28 {y : Str} (h : y ∈ hosts28) : hostB (tl y) = true ∧ y.length ≤ 40 := by
  have := List.all_eq_true.mp host28_ok y h
  rw [Bool.and_eq_true, decide_eq_true_eq] at this
  exact this
def sp__law_hosts : Sp := fun vs H Q _ => vs = [] ∧ ∀ (p : Addr) (H' : Hp), Same H H' → H' p = some (.lst (hosts27.map V.str)) → Q (.ref p) H'
def adV (x : Str × Str × Str) : List V := [.str x.1, .str x.2.1, .str x.2.2]
def orV (x : Str × Str) : List V := [.str x.1, .str x.2]
/-- the starter of a request -/
def StAt (H : Hp) (v : V) : Option (Str × Str) → Prop
  | none => v = .non
  | some x => ∃ p, v = .ref p ∧ H p = some (.tup (orV x))
/-- the parts of a request -/
structure Rq where
  ch : List (Str × Str × Str)
  st : Option (Str × Str)
  fr : List (Str × Str)
  rd : Bool
  wy : Str
def ChAt (H : Hp) (p : Addr) (l : List (Str × Str × Str)) : Prop := ∃ qs, H p = some (.tup (qs.map V.ref)) ∧ TupsAt H qs (l.map adV)
def OrsAt (H : Hp) (p : Addr) (l : List (Str × Str)) : Prop := ∃ qs, H p = some (.tup (qs.map V.ref)) ∧ TupsAt H qs (l.map orV)
def GoodO (x : Str × Str) : Prop := x.1 ∈ schemes2 ∧ hostB (tl x.2) = true
def GoodA (x : Str × Str × Str) : Prop := x.1 ∈ schemes2 ∧ hostB (tl x.2.1) = true ∧ pathB (tl x.2.2) = true
/-- what can be a request -/
structure RqOk (r : Rq) : Prop where
  c1 : 1 ≤ r.ch.length
  c2 : r.ch.length ≤ 10
  ca : ∀ x ∈ r.ch, GoodA x
  so : ∀ x, r.st = some x → GoodO x ∧ r.fr = []
  f6 : r.fr.length ≤ 6
  fo : ∀ x ∈ r.fr, GoodO x
  wy : r.wy = "http" ∨ (r.wy = "script" ∧ r.ch.length = 1 ∧ r.st = none ∧ r.rd = true)
/-- the last address -/
def Rq.last (r : Rq) : Str × Str × Str := r.ch.getLast?.getD ("", "", "")
/-- a request -/
def ReqAt (mg : Str → Option Value) (H : Hp) (a : Addr) (r : Rq) : Prop := ∃ (C dx pc pf q : Addr) (vs : V), mg "Request" = some (.ref C) ∧ H a = some (.ins C dx [("addresses", .ref pc), ("starter", vs), ("frames", .ref pf), ("is_reading", .bl r.rd), ("by", .str r.wy), ("target", .ref q)]) ∧
  ChAt H pc r.ch ∧ StAt H vs r.st ∧ OrsAt H pf r.fr ∧ H q = some (.tup (adV r.last))
theorem ChAt.same {H H' : Hp} {p : Addr} {l : List (Str × Str × Str)} (h : ChAt H p l) (s : Same H H') : ChAt H' p l := by
  obtain ⟨qs, h1, h2⟩ := h
  exact ⟨qs, s _ _ h1, h2.same s⟩
theorem OrsAt.same {H H' : Hp} {p : Addr} {l : List (Str × Str)} (h : OrsAt H p l) (s : Same H H') : OrsAt H' p l := by
  obtain ⟨qs, h1, h2⟩ := h
  exact ⟨qs, s _ _ h1, h2.same s⟩
theorem StAt.same {H H' : Hp} {v : V} {o : Option (Str × Str)} (h : StAt H v o) (s : Same H H') : StAt H' v o := by
  cases o with
  | none => exact h
  | some x => obtain ⟨p, e, m⟩ := h; exact ⟨p, e, s _ _ m⟩
theorem ReqAt.same {mg : Str → Option Value} {H H' : Hp} {a : Addr} {r : Rq} (h : ReqAt mg H a r) (s : Same H H') : ReqAt mg H' a r := by
  obtain ⟨C, dx, pc, pf, q, vs, h1, h2, h3, h4, h5, h6⟩ := h
  exact ⟨C, dx, pc, pf, q, vs, h1, s _ _ h2, h3.same s, h4.same s, h5.same s, s _ _ h6⟩
theorem TupsAt.row3 {H : Hp} {qs : List Addr} {l : List (Str × Str × Str)} (h : TupsAt H qs (l.map adV)) {i : Nat} (hi : i < l.length) : ∃ q, (qs.map V.ref)[i]? = some (.ref q) ∧ H q = some (.tup [.str l[i].1, .str l[i].2.1, .str l[i].2.2]) := by
  have hl : i < qs.length := by rw [h.len, List.length_map]; exact hi
  have e : (qs.map V.ref)[i]? = some (.ref qs[i]) := by rw [List.getElem?_map, List.getElem?_eq_getElem hl]; rfl
  obtain ⟨q, c, h1, h2, h3⟩ := h.get e
  cases h1
  rw [List.getElem?_map, List.getElem?_eq_getElem hi] at h2
  exact ⟨_, e, by rw [h3, ← Option.some.inj h2]; rfl⟩
theorem TupsAt.row2 {H : Hp} {qs : List Addr} {l : List (Str × Str)} (h : TupsAt H qs (l.map orV)) {i : Nat} (hi : i < l.length) : ∃ q, (qs.map V.ref)[i]? = some (.ref q) ∧ H q = some (.tup [.str l[i].1, .str l[i].2]) := by
  have hl : i < qs.length := by rw [h.len, List.length_map]; exact hi
  have e : (qs.map V.ref)[i]? = some (.ref qs[i]) := by rw [List.getElem?_map, List.getElem?_eq_getElem hl]; rfl
  obtain ⟨q, c, h1, h2, h3⟩ := h.get e
  cases h1
  rw [List.getElem?_map, List.getElem?_eq_getElem hi] at h2
  exact ⟨_, e, by rw [h3, ← Option.some.inj h2]; rfl⟩
theorem sqT_keepA {K : PySem.W.Frag} {a p : Addr} {H H' : Hp} {o : HO} {xs : List V} (k : KeepA a H H') (ha : H a = some o) (n1 : ∀ c, o ≠ .tup c) (n2 : ∀ q u, o ≠ .frz q u) (h : SqT K H p xs) : SqT K H' p xs := by
  rcases h with (h | ⟨q, h⟩) | h
  · exact .inl (.inl (k _ _ h fun z => by rw [z, ha] at h; exact n1 _ (Option.some.inj h)))
  · exact .inl (.inr ⟨q, k _ _ h fun z => by rw [z, ha] at h; exact n2 _ _ (Option.some.inj h)⟩)
  · exact .inr h
theorem ReqAt.keepA {mg : Str → Option Value} {H H' : Hp} {a b C dx : Addr} {r : Rq} (k : KeepA a H H') (ha : H a = some (.ins C dx [])) (h : ReqAt mg H b r) : ReqAt mg H' b r := by
  obtain ⟨D, dy, pc, pf, q, vs, h1, h2, ⟨cs, c1, c2⟩, h4, ⟨fs, f1, f2⟩, h6⟩ := h
  have na : ∀ {x : Addr} {c : List V}, H x = some (.tup c) → x ≠ a := fun e z => by rw [z, ha] at e; cases e
  refine ⟨D, dy, pc, pf, q, vs, h1, k _ _ h2 (fun z => by rw [z, ha] at h2; cases h2), ⟨cs, k _ _ c1 (na c1), k.tups ha (fun xs z => by cases z) c2⟩, ?_, ⟨fs, k _ _ f1 (na f1), k.tups ha (fun xs z => by cases z) f2⟩, k _ _ h6 (na h6)⟩
  cases e : r.st with
  | none => rw [e] at h4; exact h4
  | some x =>
    rw [e] at h4
    obtain ⟨p, e1, e2⟩ := h4
    exact ⟨p, e1, k _ _ e2 (na e2)⟩
def slots27 : List Str := ["/", "/a", "/a/", "/a/b", "/ab", "/a/b/c", "/b"]
theorem slots27_ok : slots27.all (fun y => pathB (tl y)) = true := by decide +kernel
/-- a list of hosts of these laws -/
def HostsAt (H : Hp) (g p : Addr) (hs : List Str) : Prop := H p = some (.lst (hs.map V.str)) ∧ p ≠ g ∧ 0 < hs.length ∧ hs.length ≤ 100 ∧ ∀ y ∈ hs, y ∈ hosts28
theorem HostsAt.keep {H H' : Hp} {d g p : Addr} {n : Nat} {hs : List Str} (h : HostsAt H g p hs) (k : KeepD d g H H') (D : GAt H d g n) : HostsAt H' g p hs := by
  obtain ⟨h1, h2, h3⟩ := h
  have pd : p ≠ d := fun z => by obtain ⟨_, _, _, _, e, _⟩ := D; rw [z, e] at h1; cases h1
  exact ⟨k _ _ h1 pd h2, h2, h3⟩
theorem HostsAt.same {H H' : Hp} {g p : Addr} {hs : List Str} (h : HostsAt H g p hs) (s : Same H H') : HostsAt H' g p hs := ⟨s _ _ h.1, h.2⟩
/-- a pick from a written list -/
theorem pick27 {K : PySem.W.Frag} {σ : L2.St} {H : Hp} {Q : VK} {d g : Addr} {n i : Nat} {t : TA} {xs : List V} (hs : σ[i]? = some (some (.ref d))) (G : GivA t xs) (h0 : 0 < xs.length) (hl : xs.length ≤ 1000) (D : GAt H d g (n + 1))
    (q : ∀ (j : Nat) (x : V) (H' : Hp), xs[j]? = some x → KeepD d g H H' → GAt H' d g n → Q x H') : tCall (sp__law_pick K) [] E0 (tCons (tVar i) (tCons (tLst t) tNil)) σ H Q :=
  ⟨_, hs, giv_lst G hl fun p hp => ⟨d, g, p, xs, n, rfl, upd_same, (D.new hp).2, h0, hl, D.upd (D.new hp).1 (D.new hp).2, fun j x H' e k D' => q j x H' e (Same.thenD (Same.new hp) k) D'⟩⟩
def sp__law_address : Sp := fun vs H Q _ => ∃ (d g p : Addr) (hs : List Str) (n : Nat), vs = [.ref d, .ref p] ∧ HostsAt H g p hs ∧ GAt H d g (n + 3) ∧
  ∀ (q : Addr) (x : Str × Str × Str) (H' : Hp), GoodA x → x.2.1 ∈ hosts28 → KeepD d g H H' → GAt H' d g n → H' q = some (.tup (adV x)) → H q = none → Q (.ref q) H'
theorem kn_chain_starter : (("chain" : Str) = "starter") = False := eq_false (by decide +kernel)
theorem kn_chain_frames : (("chain" : Str) = "frames") = False := eq_false (by decide +kernel)
theorem kn_chain_reads : (("chain" : Str) = "reads") = False := eq_false (by decide +kernel)
theorem kn_chain_way : (("chain" : Str) = "way") = False := eq_false (by decide +kernel)
theorem kn_starter_chain : (("starter" : Str) = "chain") = False := eq_false (by decide +kernel)
theorem kn_starter_frames : (("starter" : Str) = "frames") = False := eq_false (by decide +kernel)
theorem kn_starter_reads : (("starter" : Str) = "reads") = False := eq_false (by decide +kernel)
theorem kn_starter_way : (("starter" : Str) = "way") = False := eq_false (by decide +kernel)
theorem kn_frames_chain : (("frames" : Str) = "chain") = False := eq_false (by decide +kernel)
theorem kn_frames_starter : (("frames" : Str) = "starter") = False := eq_false (by decide +kernel)
theorem kn_frames_reads : (("frames" : Str) = "reads") = False := eq_false (by decide +kernel)
theorem kn_frames_way : (("frames" : Str) = "way") = False := eq_false (by decide +kernel)
theorem kn_reads_chain : (("reads" : Str) = "chain") = False := eq_false (by decide +kernel)
theorem kn_reads_starter : (("reads" : Str) = "starter") = False := eq_false (by decide +kernel)
theorem kn_reads_frames : (("reads" : Str) = "frames") = False := eq_false (by decide +kernel)
theorem kn_reads_way : (("reads" : Str) = "way") = False := eq_false (by decide +kernel)
theorem kn_way_chain : (("way" : Str) = "chain") = False := eq_false (by decide +kernel)
theorem kn_way_starter : (("way" : Str) = "starter") = False := eq_false (by decide +kernel)
theorem kn_way_frames : (("way" : Str) = "frames") = False := eq_false (by decide +kernel)
theorem kn_way_reads : (("way" : Str) = "reads") = False := eq_false (by decide +kernel)
def askK (pc : Addr) (vs : V) (pf : Addr) (b : Bool) (w : Str) : List (L2.Key × V) := [(Sum.inr "chain", .ref pc), (Sum.inr "starter", vs), (Sum.inr "frames", .ref pf), (Sum.inr "reads", .bl b), (Sum.inr "way", .str w)]
/-- the parts of a request in a dict -/
def AskAt (H : Hp) (d : Addr) (r : Rq) : Prop := ∃ (pc pf : Addr) (vs : V), H d = some (.dK (askK pc vs pf r.rd r.wy)) ∧ ChAt H pc r.ch ∧ StAt H vs r.st ∧ OrsAt H pf r.fr
/-- .. whose hosts are of these laws -/
structure AskOk (r : Rq) : Prop where
  ok : RqOk r
  hc : ∀ x ∈ r.ch, x.2.1 ∈ hosts28
  hs : ∀ x, r.st = some x → x.2 ∈ hosts28
  hf : ∀ x ∈ r.fr, x.2 ∈ hosts28
theorem AskAt.same {H H' : Hp} {d : Addr} {r : Rq} (h : AskAt H d r) (s : Same H H') : AskAt H' d r := by
  obtain ⟨pc, pf, vs, h1, h2, h3, h4⟩ := h
  exact ⟨pc, pf, vs, s _ _ h1, h2.same s, h3.same s, h4.same s⟩
theorem AskAt.keepD {H H' : Hp} {d g a : Addr} {n : Nat} {r : Rq} (h : AskAt H a r) (k : KeepD d g H H') (D : GAt H d g n) (ad : a ≠ d) (ag : a ≠ g) : AskAt H' a r := by
  obtain ⟨pc, pf, vs, h1, ⟨cs, c1, c2⟩, h3, ⟨fs, f1, f2⟩⟩ := h
  refine ⟨pc, pf, vs, k _ _ h1 ad ag, ⟨cs, k _ _ c1 (D.tup c1).1 (D.tup c1).2, k.tups D c2⟩, ?_, ⟨fs, k _ _ f1 (D.tup f1).1 (D.tup f1).2, k.tups D f2⟩⟩
  cases e : r.st with
  | none => rw [e] at h3; exact h3
  | some x =>
    rw [e] at h3
    obtain ⟨p, e1, e2⟩ := h3
    exact ⟨p, e1, k _ _ e2 (D.tup e2).1 (D.tup e2).2⟩
/-- tuples stay when a dict changes -/
theorem ChAt.upd {H : Hp} {a p : Addr} {kvs : List (L2.Key × V)} {o : HO} {l : List (Str × Str × Str)} (ha : H a = some (.dK kvs)) (h : ChAt H p l) : ChAt (L2.upd H a o) p l := by
  have na : ∀ {x : Addr} {c : List V}, H x = some (.tup c) → x ≠ a := fun e z => by rw [z, ha] at e; cases e
  have tu : ∀ {qs : List Addr} {cs : List (List V)}, TupsAt H qs cs → TupsAt (L2.upd H a o) qs cs := fun {qs cs} => by
    induction qs generalizing cs with
    | nil => cases cs <;> exact id
    | cons q qs ih =>
      cases cs with
      | nil => exact id
      | cons c cs => exact fun h => ⟨(upd_ne (na h.1)).trans h.1, ih h.2⟩
  obtain ⟨qs, h1, h2⟩ := h
  exact ⟨qs, (upd_ne (na h1)).trans h1, tu h2⟩
theorem OrsAt.upd {H : Hp} {a p : Addr} {kvs : List (L2.Key × V)} {o : HO} {l : List (Str × Str)} (ha : H a = some (.dK kvs)) (h : OrsAt H p l) : OrsAt (L2.upd H a o) p l := by
  have na : ∀ {x : Addr} {c : List V}, H x = some (.tup c) → x ≠ a := fun e z => by rw [z, ha] at e; cases e
  have tu : ∀ {qs : List Addr} {cs : List (List V)}, TupsAt H qs cs → TupsAt (L2.upd H a o) qs cs := fun {qs cs} => by
    induction qs generalizing cs with
    | nil => cases cs <;> exact id
    | cons q qs ih =>
      cases cs with
      | nil => exact id
      | cons c cs => exact fun h => ⟨(upd_ne (na h.1)).trans h.1, ih h.2⟩
  obtain ⟨qs, h1, h2⟩ := h
  exact ⟨qs, (upd_ne (na h1)).trans h1, tu h2⟩
theorem StAt.upd {H : Hp} {a : Addr} {v : V} {kvs : List (L2.Key × V)} {o : HO} {x : Option (Str × Str)} (ha : H a = some (.dK kvs)) (h : StAt H v x) : StAt (L2.upd H a o) v x := by
  cases x with
  | none => exact h
  | some x => obtain ⟨p, e1, e2⟩ := h; exact ⟨p, e1, (upd_ne (fun z => by rw [z, ha] at e2; cases e2)).trans e2⟩
theorem ask_put_frames (pc : Addr) (vs : V) (pf pf' : Addr) (b : Bool) (w : Str) : putK (askK pc vs pf b w) (Sum.inr "frames") (.ref pf') = askK pc vs pf' b w := by
  simp [putK, askK, kn_chain_starter, kn_chain_frames, kn_chain_reads, kn_chain_way, kn_starter_chain, kn_starter_frames, kn_starter_reads, kn_starter_way, kn_frames_chain, kn_frames_starter, kn_frames_reads, kn_frames_way, kn_reads_chain, kn_reads_starter, kn_reads_frames, kn_reads_way, kn_way_chain, kn_way_starter, kn_way_frames, kn_way_reads]
theorem ask_put_starter (pc : Addr) (vs vs' : V) (pf : Addr) (b : Bool) (w : Str) : putK (askK pc vs pf b w) (Sum.inr "starter") vs' = askK pc vs' pf b w := by
  simp [putK, askK, kn_chain_starter, kn_chain_frames, kn_chain_reads, kn_chain_way, kn_starter_chain, kn_starter_frames, kn_starter_reads, kn_starter_way, kn_frames_chain, kn_frames_starter, kn_frames_reads, kn_frames_way, kn_reads_chain, kn_reads_starter, kn_reads_frames, kn_reads_way, kn_way_chain, kn_way_starter, kn_way_frames, kn_way_reads]
theorem ask_put_reads (pc : Addr) (vs : V) (pf : Addr) (b b' : Bool) (w : Str) : putK (askK pc vs pf b w) (Sum.inr "reads") (.bl b') = askK pc vs pf b' w := by
  simp [putK, askK, kn_chain_starter, kn_chain_frames, kn_chain_reads, kn_chain_way, kn_starter_chain, kn_starter_frames, kn_starter_reads, kn_starter_way, kn_frames_chain, kn_frames_starter, kn_frames_reads, kn_frames_way, kn_reads_chain, kn_reads_starter, kn_reads_frames, kn_reads_way, kn_way_chain, kn_way_starter, kn_way_frames, kn_way_reads]
theorem ask_new (pc pf : Addr) : mergeK (mergeK [] [((Sum.inr "chain" : L2.Key), V.ref pc)]) (mergeK [] [((Sum.inr "starter" : L2.Key), V.non), (Sum.inr "frames", .ref pf), (Sum.inr "reads", .bl true), (Sum.inr "way", .str "http")]) = askK pc .non pf true "http" := by
  simp [mergeK, putK, askK, kn_chain_starter, kn_chain_frames, kn_chain_reads, kn_chain_way, kn_starter_chain, kn_starter_frames, kn_starter_reads, kn_starter_way, kn_frames_chain, kn_frames_starter, kn_frames_reads, kn_frames_way, kn_reads_chain, kn_reads_starter, kn_reads_frames, kn_reads_way, kn_way_chain, kn_way_starter, kn_way_frames, kn_way_reads]
theorem ask_script (pc pc' : Addr) (vs : V) (pf : Addr) (b : Bool) (w : Str) : mergeK (askK pc vs pf b w) (mergeK [] [((Sum.inr "chain" : L2.Key), V.ref pc'), (Sum.inr "way", .str "script")]) = askK pc' vs pf b "script" := by
  simp [mergeK, putK, askK, kn_chain_starter, kn_chain_frames, kn_chain_reads, kn_chain_way, kn_starter_chain, kn_starter_frames, kn_starter_reads, kn_starter_way, kn_frames_chain, kn_frames_starter, kn_frames_reads, kn_frames_way, kn_reads_chain, kn_reads_starter, kn_reads_frames, kn_reads_way, kn_way_chain, kn_way_starter, kn_way_frames, kn_way_reads]
theorem AskAt.putL {H : Hp} {a L : Addr} {r : Rq} {xs : List V} {o : HO} (h : AskAt H a r) (hm : H L = some (.lst xs)) : AskAt (L2.upd H L o) a r := by
  obtain ⟨pc, pf, vs, h1, ⟨cs, c1, c2⟩, h3, ⟨fs, f1, f2⟩⟩ := h
  have nt : ∀ {x : Addr} {c : List V}, H x = some (.tup c) → x ≠ L := fun e z => by rw [z, hm] at e; cases e
  refine ⟨pc, pf, vs, (upd_ne (fun z => by rw [z, hm] at h1; cases h1)).trans h1, ⟨cs, (upd_ne (nt c1)).trans c1, TupsAt.putL hm c2⟩, ?_, ⟨fs, (upd_ne (nt f1)).trans f1, TupsAt.putL hm f2⟩⟩
  cases e : r.st with
  | none => rw [e] at h3; exact h3
  | some x =>
    rw [e] at h3
    obtain ⟨p, e1, e2⟩ := h3
    exact ⟨p, e1, (upd_ne (nt e2)).trans e2⟩
theorem ask_put_chain (pc pc' : Addr) (vs : V) (pf : Addr) (b : Bool) (w : Str) : putK (askK pc vs pf b w) (Sum.inr "chain") (.ref pc') = askK pc' vs pf b w := by
  simp [putK, askK, kn_starter_chain, kn_frames_chain, kn_reads_chain, kn_way_chain]
theorem valK {l : List (L2.Key × V)} {H : Hp} {d : Addr} {k : Str} {v : V} (h : H d = some (.dK l)) (e : valV l (Sum.inr k) = some v) : DGet H d (.str k) (some v) := by
  have := DGet.k (k := (Sum.inr k : L2.Key)) h
  rw [e] at this
  exact this
theorem ask_chain (pc : Addr) (vs : V) (pf : Addr) (b : Bool) (w : Str) : valV (askK pc vs pf b w) (Sum.inr "chain") = some (.ref pc) := by simp [valV, askK, kn_chain_starter, kn_chain_frames, kn_chain_reads, kn_chain_way, kn_starter_chain, kn_starter_frames, kn_starter_reads, kn_starter_way, kn_frames_chain, kn_frames_starter, kn_frames_reads, kn_frames_way, kn_reads_chain, kn_reads_starter, kn_reads_frames, kn_reads_way, kn_way_chain, kn_way_starter, kn_way_frames, kn_way_reads]
theorem ask_starter (pc : Addr) (vs : V) (pf : Addr) (b : Bool) (w : Str) : valV (askK pc vs pf b w) (Sum.inr "starter") = some vs := by
  simp [valV, askK, kn_chain_starter, kn_chain_frames, kn_chain_reads, kn_chain_way, kn_starter_chain, kn_starter_frames, kn_starter_reads, kn_starter_way, kn_frames_chain, kn_frames_starter, kn_frames_reads, kn_frames_way, kn_reads_chain, kn_reads_starter, kn_reads_frames, kn_reads_way, kn_way_chain, kn_way_starter, kn_way_frames, kn_way_reads]
theorem ask_frames (pc : Addr) (vs : V) (pf : Addr) (b : Bool) (w : Str) : valV (askK pc vs pf b w) (Sum.inr "frames") = some (.ref pf) := by
  simp [valV, askK, kn_chain_starter, kn_chain_frames, kn_chain_reads, kn_chain_way, kn_starter_chain, kn_starter_frames, kn_starter_reads, kn_starter_way, kn_frames_chain, kn_frames_starter, kn_frames_reads, kn_frames_way, kn_reads_chain, kn_reads_starter, kn_reads_frames, kn_reads_way, kn_way_chain, kn_way_starter, kn_way_frames, kn_way_reads]
theorem ask_reads (pc : Addr) (vs : V) (pf : Addr) (b : Bool) (w : Str) : valV (askK pc vs pf b w) (Sum.inr "reads") = some (.bl b) := by
  simp [valV, askK, kn_chain_starter, kn_chain_frames, kn_chain_reads, kn_chain_way, kn_starter_chain, kn_starter_frames, kn_starter_reads, kn_starter_way, kn_frames_chain, kn_frames_starter, kn_frames_reads, kn_frames_way, kn_reads_chain, kn_reads_starter, kn_reads_frames, kn_reads_way, kn_way_chain, kn_way_starter, kn_way_frames, kn_way_reads]
theorem ask_way (pc : Addr) (vs : V) (pf : Addr) (b : Bool) (w : Str) : valV (askK pc vs pf b w) (Sum.inr "way") = some (.str w) := by
  simp [valV, askK, kn_chain_starter, kn_chain_frames, kn_chain_reads, kn_chain_way, kn_starter_chain, kn_starter_frames, kn_starter_reads, kn_starter_way, kn_frames_chain, kn_frames_starter, kn_frames_reads, kn_frames_way, kn_reads_chain, kn_reads_starter, kn_reads_frames, kn_reads_way, kn_way_chain, kn_way_starter, kn_way_frames, kn_way_reads]
def pairD (x : Str × Str) : PyData := .tuple ([x.1, x.2].map PyData.str)
theorem dpAll_pairs {K : PySem.W.Frag} {H : Hp} : ∀ {qs : List Addr} {L : List (Str × Str)}, TupsAt H qs (L.map orV) → DpAll K H (qs.map V.ref) (L.map pairD)
  | [], [], _ => .nil
  | q :: qs, x :: L, h => .cons (dp_strsT (ys := [x.1, x.2]) (SqT.of h.1)) (dpAll_pairs h.2)
theorem lay_pair {x : Str × Str} (h1 : ascii x.1) (h2 : ascii x.2) : (pairD x).canLay0 = true ∧ (pairD x).depth ≤ 60 := by
  unfold pairD
  have := canLay_strs [x.1, x.2] fun w hw => lay_str (by
    rcases List.mem_cons.mp hw with rfl | hw
    · exact h1
    · rw [List.mem_singleton.mp hw]; exact h2)
  refine ⟨by rw [PyData.canLay0]; exact this, ?_⟩
  rw [PyData.depth, depth_strs]; decide
theorem shaped_pairs {L : List (Str × Str)} (h : ∀ x ∈ L, ascii x.1 ∧ ascii x.2) : SeqAt.shaped (.list (L.map pairD)) = true := shaped_list fun d hd => by
  obtain ⟨x, hx, rfl⟩ := List.mem_map.mp hd
  exact lay_pair (h x hx).1 (h x hx).2
theorem eqv_pairs0 (L : List (Str × Str)) : PyData.eqv (.list (L.map pairD)) (.list []) = decide (L = []) := by
  cases L <;> simp [PyData.eqv, PyData.eqvAll]
theorem last_mem {r : Rq} (ok : RqOk r) : r.last ∈ r.ch := by
  have h1 : r.ch.length - 1 < r.ch.length := by have := ok.c1; omega
  have e : r.last = r.ch[r.ch.length - 1] := by
    unfold Rq.last
    rw [List.getLast?_eq_getElem?, List.getElem?_eq_getElem h1]; rfl
  rw [e]; exact List.getElem_mem h1
/-- the last item of a chain -/
theorem ChAt.last {H : Hp} {qs : List Addr} {r : Rq} (ok : RqOk r) (h : TupsAt H qs (r.ch.map adV)) : ∃ q, atI (qs.map V.ref) (-1) = some (.ref q) ∧ H q = some (.tup [.str r.last.1, .str r.last.2.1, .str r.last.2.2]) := by
  have h1 : r.ch.length - 1 < r.ch.length := by have := ok.c1; omega
  have e : r.last = r.ch[r.ch.length - 1] := by
    unfold Rq.last
    rw [List.getLast?_eq_getElem?, List.getElem?_eq_getElem h1]; rfl
  obtain ⟨q, eq, mq⟩ := TupsAt.row3 h h1
  refine ⟨q, atI_m1 ?_, by rw [e]; exact mq⟩
  have l : qs.length = r.ch.length := by rw [h.len, List.length_map]
  rw [List.length_map, l]; exact eq
def sp__law_ask (K : PySem.W.Frag) : Sp := fun vs H Q _ => ∃ (d g p : Addr) (hs : List Str) (n : Nat), vs = [.ref d, .ref p] ∧ HostsAt H g p hs ∧ GAt H d g (n + 40) ∧
  ∀ (a : Addr) (r : Rq) (H' : Hp), AskOk r → r.ch.length ≤ 3 → r.fr.length ≤ 3 → KeepD d g H H' → GAt H' d g n → AskAt H' a r → H a = none → Q (.ref a) H'
def sp_has_only : Sp := fun vs H Q _ => ∃ x g : Str, vs = [.str x, .str g] ∧ x.length ≤ 1000000 ∧ Q (.bl (onlyB (tl g) (tl x))) H
def sp__is_label : Sp := fun vs H Q _ => ∃ x : Str, vs = [.str x] ∧ x.length ≤ 1000000 ∧ Q (.bl (labB (tl x))) H
theorem one_dash (c : Nat) : decide (V.str ⟨#[c]⟩ = V.str ("-" : Str)) = decide (c = 45) := by
  rw [show ("-" : Str) = ⟨#[45]⟩ from ext_tl (by decide +kernel), dec_str, Bool.eq_iff_iff, beq_iff_eq, decide_eq_true_eq, str_eq_iff]
  show [c] = [45] ↔ _
  simp
def sp_are_labels (K : PySem.W.Frag) : Sp := fun vs H Q _ => ∃ (p : Addr) (xs : List Str), vs = [.ref p] ∧ SqL K H p (xs.map V.str) ∧ (∀ x ∈ xs, x.length ≤ 1000000) ∧ Q (.bl ((xs.map tl).all labB)) H
/-- a text, or a value that is none -/
def TxtV (K : PySem.W.Frag) (H : Hp) (v : V) : Prop := (∃ x : Str, v = .str x ∧ x.length ≤ 1000) ∨ ∃ t : Value, TyX K H v t ∧ PySem.W.kitOne K t (.type "str") = some false
/-- a value that is no host, and the place that is told of it -/
def NoHost (v : V) (k : Nat) : Prop := (∃ x : Str, v = .str x ∧ hostB (tl x) = false ∧ PlaceB (tl x) k) ∨ ((∀ x : Str, v ≠ .str x) ∧ k = 0)
def Refuses (mg : Str → Option Value) (H : Hp) (E : XK) (v : V) : Prop := ∀ (k : Nat) (C d : Addr) (H' : Hp), NoHost v k → mg "BadHost" = some (.ref C) → Same H H' → H' d = none → E (.ref C) (some d) (L2.upd H' d (.xd [(("place" : Str), .int (k : Nat))]))
theorem ty_nostr {K : PySem.W.Frag} {H : Hp} {v : V} {t : Value} (h : TyX K H v t) (hk : PySem.W.kitOne K t (.type "str") = some false) : ∀ x : Str, v ≠ .str x := fun x e => by
  subst e
  cases h with
  | base h =>
    cases h
    rw [kit_str K] at hk
    cases hk
/-- the error cn is raised with that -/
def RefO (mg : Str → Option Value) (cn f : Str) (given : V) (H : Hp) (E : XK) : Prop := ∀ (C d : Addr) (H' : Hp), mg cn = some (.ref C) → Same H H' → H' d = none → E (.ref C) (some d) (L2.upd H' d (.xd [(f, given)]))
def ruV : V → Bool
  | .str x => ruleB (tl x)
  | _ => false
def sp__is_rule (K : PySem.W.Frag) : Sp := fun vs H Q _ => ∃ v : V, vs = [v] ∧ TxtV K H v ∧ ∀ H' : Hp, Same H H' → Q (.bl (ruV v)) H'
theorem tl_bang2 : tl ("!" : Str) = [33] := by decide +kernel
theorem bang_exc2 (x : Str) : Txt.startswith x ("!" : Str) = excT (tl x) := by
  rw [startswith_tl, tl_bang2]
  unfold excT
  cases h : tl x with
  | nil => rfl
  | cons a r =>
    show ((33 == a) && List.isPrefixOf [] r) = _
    rw [Bool.eq_iff_iff, decide_eq_true_eq, List.isPrefixOf, Bool.and_true, beq_iff_eq, List.head?_cons, Option.some.injEq]
    exact ⟨Eq.symm, Eq.symm⟩
theorem tl_stardot : tl (("*" : Str) ++ ("." : Str)) = [42, 46] := by decide +kernel
/-- the item at j is right -/
def OkAt (xs : List V) (j : Nat) : Prop := j ≠ 30 ∧ ∃ v, xs[j]? = some v ∧ ruV v = true ∧ v ∉ xs.take j
/-- k is the first wrong one -/
def WrongAt (xs : List V) (k : Nat) : Prop := k < xs.length ∧ ¬ OkAt xs k ∧ ∀ j, j < k → OkAt xs j
/-- a value, seen as rules: none, where it is right; else what it is refused with -/
def RulV (K : PySem.W.Frag) (H : Hp) (v : V) (b : Option V) : Prop := (∃ t : Value, TyX K H v t ∧ PySem.W.kitOne K t (.type "tuple") = some false ∧ b = some .non) ∨
  (∃ (p : Addr) (xs : List V), v = .ref p ∧ H p = some (.tup xs) ∧ (∀ x ∈ xs, TxtV K H x) ∧ xs.length ≤ 100 ∧ (((∀ j, j < xs.length → OkAt xs j) ∧ b = none) ∨ ∃ k, WrongAt xs k ∧ b = some (.int (k : Nat))))
theorem ok_strs {xs : List V} : ∀ i, i ≤ xs.length → (∀ j, j < i → OkAt xs j) → ∃ rs : List Str, xs.take i = rs.map V.str ∧ rs.Nodup ∧ (∀ r ∈ rs, ruleB (tl r) = true) ∧ rs.length = i ∧ i ≤ 30
  | 0, _, _ => ⟨[], by simp, List.nodup_nil, by simp, rfl, by decide⟩
  | i + 1, hi, h => by
    obtain ⟨rs, e, nd, hr, hl, h30⟩ := ok_strs i (by omega) fun j hj => h j (by omega)
    obtain ⟨n30, v, hv, hru, hnot⟩ := h i (by omega)
    cases v with
    | str x =>
      refine ⟨rs ++ [x], ?_, ?_, fun r hr' => ?_, by rw [List.length_append, hl]; rfl, by omega⟩
      · rw [List.take_add_one, hv, e, List.map_append]; rfl
      · refine List.nodup_append.mpr ⟨nd, by simp, fun a ha b hb => ?_⟩
        rw [List.mem_singleton] at hb
        subst hb
        intro e2
        subst e2
        exact hnot (by rw [e]; exact List.mem_map.mpr ⟨a, ha, rfl⟩)
      · rcases List.mem_append.mp hr' with q | q
        · exact hr r q
        · rw [List.mem_singleton.mp q]; exact hru
    | _ => cases hru
theorem RulV.good {K : PySem.W.Frag} {H : Hp} {v : V} (h : RulV K H v none) : ∃ (p : Addr) (rs : List Str), v = .ref p ∧ H p = some (.tup (rs.map V.str)) ∧ rs.length ≤ 30 ∧ RulesOK rs := by
  rcases h with ⟨t, _, _, e⟩ | ⟨p, xs, rfl, hp, hx, hl, ⟨ha, _⟩ | ⟨k, _, e⟩⟩
  · cases e
  · obtain ⟨rs, e, nd, hr, hl2, h30⟩ := ok_strs xs.length (Nat.le_refl _) ha
    rw [List.take_length] at e
    subst e
    refine ⟨p, rs, rfl, hp, by omega, nd, fun r hr' => ⟨hr r hr', ?_⟩⟩
    rcases hx _ (List.mem_map.mpr ⟨r, hr', rfl⟩) with ⟨y, e, hy⟩ | ⟨t, ht, hk⟩
    · cases e; exact hy
    · exact absurd rfl (ty_nostr ht hk r)
  · cases e
theorem TxtV.same {K : PySem.W.Frag} {H H' : Hp} {v : V} (h : TxtV K H v) (s : Same H H') : TxtV K H' v := by
  rcases h with h | ⟨t, a, b⟩
  · exact .inl h
  · exact .inr ⟨t, ty_same s a, b⟩
theorem RulV.same {K : PySem.W.Frag} {H H' : Hp} {v : V} {b : Option V} (h : RulV K H v b) (s : Same H H') : RulV K H' v b := by
  rcases h with ⟨t, a, c, e⟩ | ⟨p, xs, a, c, d, e⟩
  · exact .inl ⟨t, ty_same s a, c, e⟩
  · exact .inr ⟨p, xs, a, s _ _ c, fun x hx => (d x hx).same s, e⟩
def sp_need_rules (K : PySem.W.Frag) (mg : Str → Option Value) : Sp := fun vs H Q E => ∃ (v : V) (b : Option V), vs = [v] ∧ RulV K H v b ∧ (b = none → ∀ H' : Hp, Same H H' → Q .non H') ∧ (∀ g, b = some g → RefO mg "BadRules" "index" g H E)
def sp_is_digits : Sp := fun vs H Q _ => ∃ x : Str, vs = [.str x] ∧ x.length ≤ 1000000 ∧ Q (.bl (digB (tl x))) H
def sp__is_number : Sp := fun vs H Q _ => ∃ x : Str, vs = [.str x] ∧ x.length ≤ 640 ∧ Q (.bl (numB (tl x))) H
theorem one_zero (c : Nat) : decide (V.str ⟨#[c]⟩ = V.str ("0" : Str)) = decide (c = 48) := by
  rw [show ("0" : Str) = ⟨#[48]⟩ from ext_tl (by decide +kernel), dec_str, Bool.eq_iff_iff, beq_iff_eq, decide_eq_true_eq, str_eq_iff]
  show [c] = [48] ↔ _
  simp
theorem str_zero (x : Str) : decide (V.str x = V.str ("0" : Str)) = decide (tl x = [48]) := by
  rw [Bool.eq_iff_iff, decide_eq_true_eq, decide_eq_true_eq]
  exact ⟨fun e => by rw [V.str.inj e]; decide +kernel, fun e => by rw [show x = ("0" : Str) from ext_tl (by rw [e]; decide +kernel)]⟩
def sp__are_four_numbers (K : PySem.W.Frag) : Sp := fun vs H Q _ => ∃ (p : Addr) (xs : List Str), vs = [.ref p] ∧ SqL K H p (xs.map V.str) ∧ (∀ x ∈ xs, x.length ≤ 640) ∧ Q (.bl ((xs.map tl).all numB && decide (xs.length = 4))) H
def sp_is_host (K : PySem.W.Frag) : Sp := fun vs H Q _ => ∃ (v : V) (b : Bool), vs = [v] ∧ TxV hostB K H v b ∧ ∀ H', Same H H' → Q (.bl b) H'
theorem lastL_map {P : List Str} {z : Str} {P0 : List Str} (e : P = P0 ++ [z]) : lastL (P.map tl) = tl z := by
  rw [e, List.map_append]; exact lastL_snoc _ _
def sp__is_scheme : Sp := fun vs H Q _ => ∃ x : Str, vs = [.str x] ∧ x ∈ schemes2 ∧ Q (.bl true) H
def sp_is_origin (K : PySem.W.Frag) : Sp := fun vs H Q _ => ∃ (p : Addr) (x y : Str), vs = [.ref p] ∧ H p = some (.tup [.str x, .str y]) ∧ x ∈ schemes2 ∧ hostB (tl y) = true ∧ ∀ H', Same H H' → Q (.bl true) H'
def safeB (x y : Str) : Bool := decide (x = "https") || (decide (y = "localhost") || (tl (".localhost" : Str)).isSuffixOf (tl y))
def sp_is_safe (K : PySem.W.Frag) : Sp := fun vs H Q _ => ∃ (p : Addr) (x y : Str), vs = [.ref p] ∧ H p = some (.tup [.str x, .str y]) ∧ x ∈ schemes2 ∧ hostB (tl y) = true ∧ ∀ H', Same H H' → Q (.bl (safeB x y)) H'
def sp__is_path_sign : Sp := fun vs H Q _ => ∃ c : Nat, vs = [.str ⟨#[c]⟩] ∧ Q (.bl (psign c)) H
theorem psign_eq (c : Nat) : psign c = if (!decide (tl (⟨#[c]⟩ : Str) < tl ("!" : Str))) = true then (if (!decide (tl ("~" : Str) < tl (⟨#[c]⟩ : Str))) = true then (if (!decide (c ∈ tl (";?#" : Str))) = true then !decide ((c : Int) = 37) else false) else false) else false := by
  have e1 : tl ("!" : Str) = [33] := by decide +kernel
  have e2 : tl ("~" : Str) = [126] := by decide +kernel
  have e3 : tl (";?#" : Str) = [59, 63, 35] := by decide +kernel
  have e4 : tl (⟨#[c]⟩ : Str) = [c] := rfl
  rw [e1, e2, e3, e4]
  have l1 : ([c] : List Nat) < [33] ↔ c < 33 := by simp [List.cons_lt_cons_iff]
  have l2 : ([126] : List Nat) < [c] ↔ 126 < c := by simp [List.cons_lt_cons_iff]
  have l3 : ((c : Int) = 37) ↔ c = 37 := by omega
  simp only [l1, l2, l3, psign, List.mem_cons, List.not_mem_nil, or_false]
  by_cases h1 : c < 33
  · have : ¬ 33 ≤ c := by omega
    simp [h1, this]
  · have : 33 ≤ c := by omega
    by_cases h2 : 126 < c
    · have h3 : ¬ c ≤ 126 := by omega
      simp [h1, h2, h3]
    · have h3 : c ≤ 126 := by omega
      by_cases q1 : c = 59 <;> by_cases q2 : c = 63 <;> by_cases q3 : c = 35 <;> simp [h1, h2, h3, this, q1, q2, q3]
def sp_is_path (K : PySem.W.Frag) : Sp := fun vs H Q _ => ∃ (v : V) (b : Bool), vs = [v] ∧ TxV pathB K H v b ∧ Q (.bl b) H
def sp_is_address (K : PySem.W.Frag) : Sp := fun vs H Q _ => ∃ (p : Addr) (x y z : Str), vs = [.ref p] ∧ H p = some (.tup [.str x, .str y, .str z]) ∧ x ∈ schemes2 ∧ hostB (tl y) = true ∧ pathB (tl z) = true ∧ ∀ H', Same H H' → Q (.bl true) H'
def sp__need_address (K : PySem.W.Frag) : Sp := fun vs H Q _ => ∃ (p : Addr) (x y z : Str), vs = [.ref p] ∧ H p = some (.tup [.str x, .str y, .str z]) ∧ x ∈ schemes2 ∧ hostB (tl y) = true ∧ pathB (tl z) = true ∧ ∀ H', Same H H' → Q .non H'
def sp_origin_of (K : PySem.W.Frag) : Sp := fun vs H Q _ => ∃ (p : Addr) (x y z : Str), vs = [.ref p] ∧ H p = some (.tup [.str x, .str y, .str z]) ∧ x ∈ schemes2 ∧ hostB (tl y) = true ∧ pathB (tl z) = true ∧ ∀ (q : Addr) H', Same H H' → H' q = some (.tup [.str x, .str y]) → Q (.ref q) H'
/-- what a request touches: pairs of scheme and host -/
def Rq.places (r : Rq) : List (Str × Str) := r.ch.map (fun x => (x.1, x.2.1)) ++ r.st.toList ++ r.fr
theorem RqOk.places {r : Rq} (ok : RqOk r) : ∀ x ∈ r.places, GoodO x := fun x hx => by
  unfold Rq.places at hx
  rcases List.mem_append.mp hx with h | h
  · rcases List.mem_append.mp h with h | h
    · obtain ⟨y, hy, rfl⟩ := List.mem_map.mp h
      exact ⟨(ok.ca y hy).1, (ok.ca y hy).2.1⟩
    · exact (ok.so x (Option.mem_toList.mp h)).1
  · exact ok.fo x h
theorem RqOk.placesLen {r : Rq} (ok : RqOk r) : r.places.length ≤ 17 := by
  unfold Rq.places
  rw [List.length_append, List.length_append, List.length_map]
  have := ok.c2
  have := ok.f6
  have : r.st.toList.length ≤ 1 := by cases r.st <;> simp
  omega
/-- things that begin with scheme and host -/
def PlAt (H : Hp) (qs : List Addr) (l : List (Str × Str)) : Prop := qs.length = l.length ∧ ∀ (i : Nat) (hi : i < l.length), ∃ (q : Addr) (t : List V), qs[i]? = some q ∧ H q = some (.tup (.str l[i].1 :: .str l[i].2 :: t))
theorem PlAt.same {H H' : Hp} {qs : List Addr} {l : List (Str × Str)} (h : PlAt H qs l) (s : Same H H') : PlAt H' qs l :=
  ⟨h.1, fun i hi => let ⟨q, t, e, m⟩ := h.2 i hi; ⟨q, t, e, s _ _ m⟩⟩
theorem PlAt.append {H : Hp} {qs rs : List Addr} {l m : List (Str × Str)} (h : PlAt H qs l) (g : PlAt H rs m) : PlAt H (qs ++ rs) (l ++ m) := by
  refine ⟨by rw [List.length_append, List.length_append, h.1, g.1], fun i hi => ?_⟩
  by_cases c : i < l.length
  · obtain ⟨q, t, e, x⟩ := h.2 i c
    refine ⟨q, t, ?_, ?_⟩
    · rw [List.getElem?_append_left (by rw [h.1]; exact c)]; exact e
    · rw [List.getElem_append_left c]; exact x
  · have hi2 : i - l.length < m.length := by rw [List.length_append] at hi; omega
    obtain ⟨q, t, e, x⟩ := g.2 (i - l.length) hi2
    refine ⟨q, t, ?_, ?_⟩
    · rw [List.getElem?_append_right (by rw [h.1]; omega), h.1]; exact e
    · rw [List.getElem_append_right (by omega)]; exact x
theorem pl_3 {H : Hp} {qs : List Addr} {l : List (Str × Str × Str)} (h : TupsAt H qs (l.map adV)) : PlAt H qs (l.map fun x => (x.1, x.2.1)) := by
  refine ⟨by rw [h.len, List.length_map, List.length_map], fun i hi => ?_⟩
  have hi2 : i < l.length := by rw [List.length_map] at hi; exact hi
  obtain ⟨q, e, m⟩ := TupsAt.row3 h hi2
  rw [List.getElem?_map] at e
  have hq : i < qs.length := by rw [h.len, List.length_map]; exact hi2
  rw [List.getElem?_eq_getElem hq] at e
  have e2 : qs[i] = q := V.ref.inj (Option.some.inj e)
  exact ⟨q, _, by rw [List.getElem?_eq_getElem hq, e2], by rw [m, List.getElem_map]⟩
theorem pl_2 {H : Hp} {qs : List Addr} {l : List (Str × Str)} (h : TupsAt H qs (l.map orV)) : PlAt H qs l := by
  refine ⟨by rw [h.len, List.length_map], fun i hi => ?_⟩
  obtain ⟨q, e, m⟩ := TupsAt.row2 h hi
  rw [List.getElem?_map] at e
  have hq : i < qs.length := by rw [h.len, List.length_map]; exact hi
  rw [List.getElem?_eq_getElem hq] at e
  have e2 : qs[i] = q := V.ref.inj (Option.some.inj e)
  exact ⟨q, [], by rw [List.getElem?_eq_getElem hq, e2], m⟩
def sp__places (K : PySem.W.Frag) (mg : Str → Option Value) : Sp := fun vs H Q _ => ∃ (a : Addr) (r : Rq), vs = [.ref a] ∧ ReqAt mg H a r ∧ RqOk r ∧
  ∀ (p : Addr) (qs : List Addr) (H' : Hp), Same H H' → H' p = some (.tup (qs.map V.ref)) → PlAt H' qs r.places → Q (.ref p) H'
def sp_is_address_host (K : PySem.W.Frag) : Sp := fun vs H Q _ => ∃ (v : V) (b : Bool), vs = [v] ∧ TxV addrB K H v b ∧ ∀ H', Same H H' → Q (.bl b) H'
def sp__last_labels : Sp := fun vs H Q _ => ∃ (x : Str) (n : Nat), vs = [.str x, .int n] ∧ x.length ≤ 1000 ∧ 1 ≤ n ∧ n ≤ 100000 ∧
  ∀ (e : Str) (H' : Hp), Same H H' → tl e = joinL [46] (lastN n (sp1 46 (tl x))) → e.length ≤ x.length → Q (.str e) H'
theorem sum_map_le {B : Nat} : ∀ L : List Str, (∀ x ∈ L, x.length ≤ B) → (L.map (·.length)).sum ≤ L.length * B
  | [], _ => by simp
  | x :: L, h => by
    have h1 := h x (List.mem_cons_self ..)
    have h2 := sum_map_le L fun y hy => h y (List.mem_cons_of_mem _ hy)
    rw [List.map_cons, List.sum_cons, List.length_cons, Nat.succ_mul]
    omega
theorem join_fits {a b : Nat} (h1 : a ≤ b * 1000) (h2 : b ≤ 1001) : a + b * 1 ≤ 16777216 := by omega
theorem joinL_drop1 {c : Nat} : ∀ L : List (List Nat), (joinL [c] (L.drop 1)).length ≤ (joinL [c] L).length
  | [] => Nat.le_refl _
  | [p] => Nat.zero_le _
  | p :: q :: r => by
    show _ ≤ (p ++ (c :: joinL [c] (q :: r))).length
    rw [List.length_append, List.length_cons, List.drop_succ_cons, List.drop_zero]
    omega
theorem joinL_drop {c : Nat} (L : List (List Nat)) : ∀ k, (joinL [c] (L.drop k)).length ≤ (joinL [c] L).length
  | 0 => Nat.le_refl _
  | k + 1 => by
    rw [← List.drop_drop]
    exact Nat.le_trans (joinL_drop1 _) (joinL_drop L k)
def sp__size : Sp := fun vs H Q _ => ∃ x : Str, vs = [.str x] ∧ Q (.int ((sp1 46 (tl x)).length : Nat)) H
def sp__matches : Sp := fun vs H Q _ => ∃ x y : Str, vs = [.str x, .str y] ∧ x.length ≤ 10000 ∧ y.length ≤ 1000 ∧ ((tl x).head? = some 42 → ∃ u, tl x = 42 :: 46 :: u) ∧
  ∀ H' : Hp, Same H H' → Q (.bl (mtL (sp1 46 (tl x)) (sp1 46 (tl y)))) H'
theorem tl_star : tl ("*" : Str) = [42] := by decide +kernel
def sp__suffix_size (K : PySem.W.Frag) : Sp := fun vs H Q _ => ∃ (p : Addr) (rs : List Str) (y : Str), vs = [.ref p, .str y] ∧ SqT K H p (rs.map V.str) ∧ (∀ r ∈ rs, ruleB (tl r) = true ∧ r.length ≤ 1000) ∧ y.length ≤ 1000 ∧
  ∀ H' : Hp, Same H H' → Q (.int (sufN (rs.map tl) (sp1 46 (tl y)) : Nat)) H'
theorem tl_bang : tl ("!" : Str) = [33] := by decide +kernel
theorem bang_exc (x : Str) : Txt.startswith x ("!" : Str) = excT (tl x) := by
  rw [startswith_tl, tl_bang]
  unfold excT
  cases h : tl x with
  | nil => rfl
  | cons a r =>
    show ((33 == a) && List.isPrefixOf [] r) = _
    rw [Bool.eq_iff_iff, decide_eq_true_eq, List.isPrefixOf, Bool.and_true, beq_iff_eq, List.head?_cons, Option.some.injEq]
    exact ⟨Eq.symm, Eq.symm⟩
theorem patL_len (t : List Nat) : (sp1 46 t).length = (patL t).length := by
  unfold patL patT
  split
  · next h =>
    unfold excT at h
    cases t with
    | nil => rfl
    | cons a r =>
      simp at h
      subst h
      obtain ⟨p, q, e⟩ := sp1_cons 46 r
      rw [sp1_miss (by decide) e, List.tail_cons, e]
      rfl
  · rfl
theorem rule_star {t : List Nat} (h : ruleB t = true) (hx : excT t = false) (hs : t.head? = some 42) : ∃ u, t = 42 :: 46 :: u := by
  unfold ruleB at h
  rw [hx] at h
  simp only [Bool.false_eq_true, if_false] at h
  by_cases g : [42, 46].isPrefixOf t = true
  · obtain ⟨u, e⟩ := List.isPrefixOf_iff_prefix.mp g
    exact ⟨u, e.symm⟩
  · rw [if_neg g] at h
    obtain ⟨p, q, e⟩ := sp1_cons 46 t
    rw [e, List.all_cons, Bool.and_eq_true] at h
    cases t with
    | nil => simp at hs
    | cons a r =>
      simp at hs
      subst hs
      obtain ⟨p2, q2, e2⟩ := sp1_cons 46 r
      rw [sp1_miss (by decide) e2] at e
      have e3 := (List.cons.inj e).1
      have := lab_sign h.1 (c := 42) (by rw [← e3]; exact List.mem_cons_self ..)
      exact absurd this (by decide)
theorem rule_star2 {t : List Nat} (h : ruleB t = true) (hx : excT t = true) : (patT t).head? ≠ some 42 := fun hs => by
  unfold ruleB at h
  unfold patT at hs
  rw [if_pos hx] at h hs
  rw [Bool.and_eq_true] at h
  obtain ⟨p, q, e⟩ := sp1_cons 46 t.tail
  rw [e, List.all_cons, Bool.and_eq_true] at h
  cases ht : t.tail with
  | nil => rw [ht] at hs; simp at hs
  | cons a r =>
    rw [ht] at hs e
    simp at hs
    subst hs
    obtain ⟨p2, q2, e2⟩ := sp1_cons 46 r
    rw [sp1_miss (by decide) e2] at e
    have e3 := (List.cons.inj e).1
    have := lab_sign h.2.1 (c := 42) (by rw [← e3]; exact List.mem_cons_self ..)
    exact absurd this (by decide)
theorem max_nat (a b : Nat) : (if (b : Int) > (a : Int) then (b : Int) else (a : Int)) = ((max a b : Nat) : Int) := by
  split <;> omega
theorem big_take {q : List Nat → Bool} {rs : List Str} {b i : Nat} {r : Str} (h : rs[i]? = some r) : bigN b q ((rs.take (i + 1)).map tl) = if q (tl r) then max (bigN b q ((rs.take i).map tl)) (patL (tl r)).length else bigN b q ((rs.take i).map tl) := by
  rw [List.take_succ, h]
  show bigN b q (((rs.take i) ++ [r]).map tl) = _
  rw [List.map_append]
  exact bigN_snoc _ _ _ _
def sp_known_suffix (K : PySem.W.Frag) : Sp := fun vs H Q _ => ∃ (p : Addr) (rs : List Str) (y : Str), vs = [.ref p, .str y] ∧ SqT K H p (rs.map V.str) ∧ rs.length ≤ 30 ∧ RulesOK rs ∧ hostB (tl y) = true ∧
  (∀ H' : Hp, Same H H' → addrB (tl y) = true → Q .non H') ∧
  ∀ (e : Str) (H' : Hp), Same H H' → addrB (tl y) = false → tl e = joinL [46] (lastN (sufN (rs.map tl) (sp1 46 (tl y))) (sp1 46 (tl y))) → Q (.str e) H'
def famT (rs : List (List Nat)) (t : List Nat) : List Nat := if addrB t then t else joinL [46] (famL rs (sp1 46 t))
def sp_known_family (K : PySem.W.Frag) : Sp := fun vs H Q _ => ∃ (p : Addr) (rs : List Str) (y : Str), vs = [.ref p, .str y] ∧ SqT K H p (rs.map V.str) ∧ rs.length ≤ 30 ∧ RulesOK rs ∧ hostB (tl y) = true ∧
  ∀ (e : Str) (H' : Hp), Same H H' → tl e = famT (rs.map tl) (tl y) → Q (.str e) H'
/-- the family of a host -/
def famS (rs : List Str) (y : Str) : Str := mkS (famT (rs.map tl) (tl y))
def siteS (rs : List Str) (x : Str × Str) : Str × Str := (x.1, famS rs x.2)
theorem joinL_drop9 (L : List (List Nat)) (n : Nat) : joinL [46] (L.drop n) <:+ joinL [46] L := by
  by_cases h1 : L.take n = []
  · have e : L = L.drop n := by
      have := List.take_append_drop n L
      rw [h1, List.nil_append] at this
      exact this.symm
    rw [← e]
    exact List.suffix_refl _
  · by_cases h2 : L.drop n = []
    · rw [h2]; exact List.nil_suffix
    · have := joinL_app (c := 46) h1 h2
      rw [List.take_append_drop] at this
      rw [this]
      exact ⟨joinL [46] (L.take n) ++ [46], by rw [List.append_assoc]; rfl⟩
theorem famT_suffix (rs : List (List Nat)) (t : List Nat) : famT rs t <:+ t := by
  unfold famT
  split
  · exact List.suffix_refl _
  · have := joinL_drop9 (sp1 46 t) ((sp1 46 t).length - ((lastN (sufN rs (sp1 46 t)) (sp1 46 t)).length + 1))
    rw [joinL_sp1] at this
    exact this
theorem tl_mkS9 (l : List Nat) : tl (mkS l) = l := rfl
theorem ascii_fam {rs : List Str} {y : Str} (h : ascii y) : ascii (famS rs y) := fun s hs => h s ((famT_suffix _ _).subset hs)
theorem shaped_2 {x y : Str} (h1 : ascii x) (h2 : ascii y) : SeqAt.shaped (.tuple ([x, y].map PyData.str)) = true := lay_strsT fun w hw => by
  rcases List.mem_cons.mp hw with rfl | hw
  · exact h1
  · rw [List.mem_singleton.mp hw]; exact h2
theorem ascii_sch {x : Str} (h : x ∈ schemes2) : ascii x := let ⟨_, _, _, _, a, _⟩ := sch_of h; a
/-- two sites compared -/
theorem rEqD_2 {K : PySem.W.Frag} {H : Hp} {Q : VK} {p q : Addr} {x y : Str × Str} (hp : H p = some (.tup (orV x))) (hq : H q = some (.tup (orV y))) (a1 : ascii x.1) (a2 : ascii x.2) (b1 : ascii y.1) (b2 : ascii y.2) (h : Q (.bl (decide (x = y))) H) : rEqD K (.ref p) (.ref q) H Q := by
  refine ⟨_, _, dp_strsT (ys := [x.1, x.2]) (SqT.of hp), dp_strsT (ys := [y.1, y.2]) (SqT.of hq), shaped_2 a1 a2, shaped_2 b1 b2, ?_⟩
  rw [eqv_strsT]
  rw [show decide ([x.1, x.2] = [y.1, y.2]) = decide (x = y) by rw [Bool.eq_iff_iff, decide_eq_true_eq, decide_eq_true_eq, Prod.ext_iff]; simp]
  exact h
theorem rNeD_2 {K : PySem.W.Frag} {H : Hp} {Q : VK} {p q : Addr} {x y : Str × Str} (hp : H p = some (.tup (orV x))) (hq : H q = some (.tup (orV y))) (a1 : ascii x.1) (a2 : ascii x.2) (b1 : ascii y.1) (b2 : ascii y.2) (h : Q (.bl (!decide (x = y))) H) : rNeD K (.ref p) (.ref q) H Q := by
  refine ⟨_, _, dp_strsT (ys := [x.1, x.2]) (SqT.of hp), dp_strsT (ys := [y.1, y.2]) (SqT.of hq), shaped_2 a1 a2, shaped_2 b1 b2, ?_⟩
  rw [eqv_strsT]
  rw [show decide ([x.1, x.2] = [y.1, y.2]) = decide (x = y) by rw [Bool.eq_iff_iff, decide_eq_true_eq, decide_eq_true_eq, Prod.ext_iff]; simp]
  exact h
def sp__site (K : PySem.W.Frag) : Sp := fun vs H Q _ => ∃ (p o : Addr) (rs : List Str) (x y : Str) (r : List V), vs = [.ref p, .ref o] ∧ SqT K H p (rs.map V.str) ∧ rs.length ≤ 30 ∧ RulesOK rs ∧ H o = some (.tup (.str x :: .str y :: r)) ∧ hostB (tl y) = true ∧
  ∀ (e : Addr) (H' : Hp), Same H H' → H' e = some (.tup [.str x, .str (famS rs y)]) → Q (.ref e) H'
/-- the site of the target -/
def ownF (rs : List Str) (r : Rq) : Str × Str := siteS rs (r.last.1, r.last.2.1)
def nearF (rs : List Str) (r : Rq) : Bool := r.places.all fun x => decide (siteS rs x = ownF rs r)
def laxF (rs : List Str) (r : Rq) : Bool := nearF rs r || (decide (r.fr = []) && r.rd)
def partF (rs : List Str) (r : Rq) : (Str × Str) × Bool := ((r.fr.map (siteS rs)).headD (ownF rs r), (r.fr.map (siteS rs)).any fun x => decide (x ≠ ownF rs r))
/-- a partition -/
def PartAt (H : Hp) (q : Addr) (x : (Str × Str) × Bool) : Prop := ∃ s, H q = some (.tup [.ref s, .bl x.2]) ∧ H s = some (.tup (orV x.1))
/-- the traits of rules and a request -/
def TraitsAt (mg : Str → Option Value) (H : Hp) (a : Addr) (rs : List Str) (r : Rq) : Prop := ∃ (C dx q : Addr), mg "Traits" = some (.ref C) ∧
  H a = some (.ins C dx [("host", .str r.last.2.1), ("path", .str r.last.2.2), ("family", .str (famS rs r.last.2.1)), ("is_safe", .bl (safeB r.last.1 r.last.2.1)), ("is_script", .bl (decide (r.wy = "script"))), ("has_frames", .bl (decide (0 < r.fr.length))),
    ("is_near", .bl (nearF rs r)), ("is_lax", .bl (laxF rs r)), ("partition", .ref q)]) ∧ PartAt H q (partF rs r)
def sp_Traits__init (K : PySem.W.Frag) (mg : Str → Option Value) : Sp := fun vs H Q _ => ∃ (a p b C dx : Addr) (rs : List Str) (r : Rq), vs = [.ref a, .ref p, .ref b] ∧ mg "Traits" = some (.ref C) ∧ H a = some (.ins C dx []) ∧ SqT K H p (rs.map V.str) ∧ rs.length ≤ 30 ∧ RulesOK rs ∧ ReqAt mg H b r ∧ RqOk r ∧
  ∀ H', KeepA a H H' → TraitsAt mg H' a rs r → Q .non H'
/-- a value of a built-in type that is no subclass of anything of one's own -/
def NoOwn (K : PySem.W.Frag) (H : Hp) (v : V) : Prop := ∃ T : String, TyX K H v (.type T) ∧ (fastBuiltinMro T).elim false (·.all tyV) = true
theorem kit_self7 (K : PySem.W.Frag) (C : Addr) : PySem.W.kitOne K (.ref C) (.ref C) = some true := by
  unfold PySem.W.kitOne
  simp
def sp_need_request (K : PySem.W.Frag) (mg : Str → Option Value) : Sp := fun vs H Q E => ∃ v : V, vs = [v] ∧ ((∃ a r, v = .ref a ∧ ReqAt mg H a r ∧ Q .non H) ∨ (NoOwn K H v ∧ RefO mg "BadRequest" "field" (.str "request") H E))
/-- a value as a request: right, or what it is refused with -/
def ReqV (K : PySem.W.Frag) (mg : Str → Option Value) (H : Hp) (u : V) (c : Option Rq) : Prop := (∃ a r, u = .ref a ∧ ReqAt mg H a r ∧ RqOk r ∧ c = some r) ∨ (NoOwn K H u ∧ c = none)
theorem NoOwn.same {K : PySem.W.Frag} {H H' : Hp} {u : V} (h : NoOwn K H u) (s : Same H H') : NoOwn K H' u := let ⟨T, a, b⟩ := h; ⟨T, ty_same s a, b⟩
theorem ReqV.same {K : PySem.W.Frag} {mg : Str → Option Value} {H H' : Hp} {u : V} {c : Option Rq} (h : ReqV K mg H u c) (s : Same H H') : ReqV K mg H' u c := by
  rcases h with ⟨a, r, e, hR, ok, ec⟩ | ⟨h, ec⟩
  · exact .inl ⟨a, r, e, hR.same s, ok, ec⟩
  · exact .inr ⟨h.same s, ec⟩
theorem RefO.same {mg : Str → Option Value} {cn f : Str} {g : V} {H H' : Hp} {E : XK} (h : RefO mg cn f g H E) (s : Same H H') : RefO mg cn f g H' E := fun C d H2 hC s2 hd => h C d H2 hC (s.trans s2) hd
/-- what the three functions of requests ask: rules and a request, right or not -/
def AskSp (K : PySem.W.Frag) (mg : Str → Option Value) (R : Hp → List Str → Rq → V → Prop) : Sp := fun vs H Q E => ∃ (v u : V) (b : Option V) (c : Option Rq), vs = [v, u] ∧ RulV K H v b ∧ ReqV K mg H u c ∧
  (∀ g, b = some g → RefO mg "BadRules" "index" g H E) ∧ (b = none → c = none → RefO mg "BadRequest" "field" (.str "request") H E) ∧
  (b = none → ∀ r, c = some r → ∀ (p : Addr) (rs : List Str), v = .ref p → H p = some (.tup (rs.map V.str)) → RulesOK rs → ∀ (w : V) (H' : Hp), Same H H' → R H' rs r w → Q w H')
def sp__checked_traits (K : PySem.W.Frag) (mg : Str → Option Value) : Sp := AskSp K mg fun H rs r w => ∃ a, w = .ref a ∧ TraitsAt mg H a rs r
def sp_near (K : PySem.W.Frag) (mg : Str → Option Value) : Sp := AskSp K mg fun _ rs r w => w = .bl (nearF rs r)
def sp_lax (K : PySem.W.Frag) (mg : Str → Option Value) : Sp := AskSp K mg fun _ rs r w => w = .bl (laxF rs r)
def sp_partition_of (K : PySem.W.Frag) (mg : Str → Option Value) : Sp := AskSp K mg fun H rs r w => ∃ q, w = .ref q ∧ PartAt H q (partF rs r)
def sp__need : Sp := fun vs H Q _ => ∃ f : Str, vs = [.str f, .bl true] ∧ Q .non H
theorem need_step {σ : L2.St} {H0 H : Hp} {D : Ends} {rest : TS} {f : Str} {te : TE} (g : GivS σ H0 te (.bl true)) (s : Same H0 H) (k : ∀ H2, Same H H2 → rest D σ H2) : tSeq (tDrop (tCall sp__need [] E0 (tCons (tC (.str f)) (tCons te tNil)))) rest D σ H :=
  g H _ s fun H2 s2 => ⟨f, rfl, k H2 s2⟩
def sp__are_addresses : Sp := fun vs H Q _ => ∃ (p : Addr) (l : List (Str × Str × Str)), vs = [.ref p] ∧ ChAt H p l ∧ 1 ≤ l.length ∧ l.length ≤ 10 ∧ (∀ x ∈ l, GoodA x) ∧ ∀ H', Same H H' → Q (.bl true) H'
def sp__are_frames : Sp := fun vs H Q _ => ∃ (p : Addr) (l : List (Str × Str)), vs = [.ref p] ∧ OrsAt H p l ∧ l.length ≤ 6 ∧ (∀ x ∈ l, GoodO x) ∧ ∀ H', Same H H' → Q (.bl true) H'
def sp_Request__init (K : PySem.W.Frag) (mg : Str → Option Value) : Sp := fun vs H Q _ => ∃ (a pc pf C dx : Addr) (v : V) (r : Rq), vs = [.ref a, .ref pc, v, .ref pf, .bl r.rd, .str r.wy] ∧ mg "Request" = some (.ref C) ∧ H a = some (.ins C dx []) ∧ ChAt H pc r.ch ∧ StAt H v r.st ∧ OrsAt H pf r.fr ∧ RqOk r ∧
  ∀ H', KeepA a H H' → ReqAt mg H' a r → Q .non H'
def sp__law_asked (K : PySem.W.Frag) (mg : Str → Option Value) : Sp := fun vs H Q _ => ∃ (d : Addr) (r : Rq), vs = [.ref d] ∧ AskAt H d r ∧ RqOk r ∧ ∀ (a : Addr) H', Same H H' → ReqAt mg H' a r → Q (.ref a) H'
theorem rulV_of {K : PySem.W.Frag} {H : Hp} {p : Addr} {rs : List Str} (hp : H p = some (.tup (rs.map V.str))) (ok : RulesOK rs) (hl : rs.length ≤ 30) : RulV K H (.ref p) none := by
  refine .inr ⟨p, _, rfl, hp, fun x hx => ?_, by rw [List.length_map]; omega, .inl ⟨fun j hj => ?_, rfl⟩⟩
  · obtain ⟨r, hr, rfl⟩ := List.mem_map.mp hx
    exact .inl ⟨r, rfl, (ok.2 r hr).2⟩
  · rw [List.length_map] at hj
    refine ⟨by omega, .str rs[j], by rw [List.getElem?_map, List.getElem?_eq_getElem hj]; rfl, (ok.2 _ (List.getElem_mem hj)).1, fun hm => ?_⟩
    rw [← List.map_take] at hm
    obtain ⟨z, hz, e⟩ := List.mem_map.mp hm
    have e : z = rs[j] := V.str.inj e
    subst e
    obtain ⟨k, hk, ek⟩ := List.getElem_of_mem hz
    rw [List.length_take] at hk
    rw [List.getElem_take] at ek
    have := (List.getElem_inj (h₀ := by omega) (h₁ := hj) ok.1).mp ek
    omega
theorem strs_inj {a b : List Str} (h : a.map V.str = b.map V.str) : a = b := by
  have : (a.map V.str).map (fun v => match v with | .str x => x | _ => "") = (b.map V.str).map (fun v => match v with | .str x => x | _ => "") := by rw [h]
  rw [List.map_map, List.map_map] at this
  have e : ((fun v => match v with | .str x => x | _ => "") ∘ V.str : Str → Str) = id := rfl
  rw [e, List.map_id, List.map_id] at this
  exact this
theorem ask_good {K : PySem.W.Frag} {mg : Str → Option Value} {R : Hp → List Str → Rq → V → Prop} {H : Hp} {Q : VK} {E : XK} {p a : Addr} {rs : List Str} {r : Rq} (hp : H p = some (.tup (rs.map V.str))) (ok : RulesOK rs) (hl : rs.length ≤ 30) (hR : ReqAt mg H a r) (okr : RqOk r)
    (q : ∀ (w : V) (H' : Hp), Same H H' → R H' rs r w → Q w H') : AskSp K mg R [.ref p, .ref a] H Q E := by
  refine ⟨.ref p, .ref a, none, some r, rfl, rulV_of hp ok hl, .inl ⟨a, r, rfl, hR, okr, rfl⟩, fun g z => (by cases z), fun _ z => (by cases z), fun _ r' er p' rs' ep hp' _ w H' s' hw => ?_⟩
  cases er
  cases ep
  have e : rs' = rs := strs_inj (HO.tup.inj (Option.some.inj (hp'.symm.trans hp)))
  subst e
  exact q w H' s' hw
theorem eqv_pairsT0 (L : List (Str × Str)) : PyData.eqv (.tuple (L.map pairD)) (.tuple []) = decide (L = []) := by
  cases L <;> simp [PyData.eqv, PyData.eqvAll]
theorem shaped_pairsT {L : List (Str × Str)} (h : ∀ x ∈ L, ascii x.1 ∧ ascii x.2) : SeqAt.shaped (.tuple (L.map pairD)) = true := shaped_tuple fun d hd => by
  obtain ⟨x, hx, rfl⟩ := List.mem_map.mp hd
  exact lay_pair (h x hx).1 (h x hx).2
/-- frames == () -/
theorem givS_frames0 {K : PySem.W.Frag} {σ : L2.St} {H0 : Hp} {te : TE} {pf : Addr} {L : List (Str × Str)} (g : GivS σ H0 te (.ref pf)) (h : OrsAt H0 pf L) (ok : ∀ x ∈ L, GoodO x) : GivS σ H0 (tOp (rEqD K) te (tTup tNil)) (.bl (decide (L = []))) := fun H Q s q =>
  g H _ s fun H1 s1 => ⟨by show 0 ≤ sizeLine; decide, fun w hw => by
    obtain ⟨qs, h1, h2⟩ := h
    have sw := (s.trans s1).trans (Same.new (o := HO.tup []) hw)
    refine ⟨_, _, .tup (SqT.of (sw _ _ h1)) (dpAll_pairs (h2.same sw)), .tup (SqT.of upd_same) .nil, shaped_pairsT (fun x hx => ⟨ascii_sch (ok x hx).1, ascii_host (ok x hx).2⟩), by decide +kernel, ?_⟩
    rw [eqv_pairsT0]
    exact q _ (s1.trans (Same.new hw))⟩
theorem givS_dget {σ : L2.St} {H0 : Hp} {i : Nat} {d : Addr} {k : Str} {v : V} {kvs : List (L2.Key × V)} (h : σ[i]? = some (some (.ref d))) (hd : H0 d = some (.dK kvs)) (e : valV kvs (Sum.inr k) = some v) : GivS σ H0 (tDGet (tVar i) (tC (.str k))) v := fun H Q s q =>
  ⟨_, h, d, _, rfl, valK (s _ _ hd) e, q H (Same.refl H)⟩
def partD (x : (Str × Str) × Bool) : PyData := .tuple [pairD x.1, .bool x.2]
theorem PartAt.dp {K : PySem.W.Frag} {H : Hp} {q : Addr} {x : (Str × Str) × Bool} (h : PartAt H q x) : Dp K H (.ref q) (partD x) := by
  obtain ⟨s, h1, h2⟩ := h
  exact .tup (SqT.of h1) (.cons (dp_strsT (ys := [x.1.1, x.1.2]) (SqT.of h2)) (.cons (.bl _) .nil))
theorem PartAt.same {H H' : Hp} {q : Addr} {x : (Str × Str) × Bool} (h : PartAt H q x) (s : Same H H') : PartAt H' q x := let ⟨t, a, b⟩ := h; ⟨t, s _ _ a, s _ _ b⟩
theorem part_rp {x : (Str × Str) × Bool} (a1 : ascii x.1.1) (a2 : ascii x.1.2) (l1 : x.1.1.length ≤ 300) (l2 : x.1.2.length ≤ 300) : RpD (partD x) 60000 2 := by
  have h1 : RpD (pairD x.1) (3 + (3002 + 2) * 2) 1 := RpD.tuple (fun d hd => by
    obtain ⟨y, hy, rfl⟩ := List.mem_map.mp hd
    rcases List.mem_cons.mp hy with rfl | hy
    · exact RpD.str (m := 300) a1 l1
    · rw [List.mem_singleton.mp hy]; exact RpD.str (m := 300) a2 l2) (Nat.le_refl 2)
  have h2 : RpD (partD x) (3 + (6011 + 2) * 2) 2 := RpD.tuple (fun d hd => by
    rcases List.mem_cons.mp hd with rfl | hd
    · exact h1.mono (by decide) (by decide)
    · rw [List.mem_singleton.mp hd]; exact (RpD.bool _).mono (by decide) (by decide)) (Nat.le_refl 2)
  exact h2.mono (by decide) (by decide)
theorem famS_len {rs : List Str} {y : Str} : (famS rs y).length ≤ y.length := by
  have := (famT_suffix (rs.map tl) (tl y)).length_le
  unfold famS
  rw [len_tl, tl_mkS9, len_tl y]; exact this
theorem part_good {rs : List Str} {r : Rq} (ok : AskOk r) : ascii (partF rs r).1.1 ∧ ascii (partF rs r).1.2 ∧ (partF rs r).1.1.length ≤ 300 ∧ (partF rs r).1.2.length ≤ 300 := by
  have site : ∀ x : Str × Str, x.1 ∈ schemes2 → x.2 ∈ hosts28 → ascii (siteS rs x).1 ∧ ascii (siteS rs x).2 ∧ (siteS rs x).1.length ≤ 300 ∧ (siteS rs x).2.length ≤ 300 := fun x h1 h2 => by
    obtain ⟨_, _, _, _, a, l⟩ := sch_of h1
    refine ⟨a, ascii_fam (ascii_host (host28 h2).1), Nat.le_trans l (by decide), ?_⟩
    have := famS_len (rs := rs) (y := x.2)
    have := (host28 h2).2
    show (famS rs x.2).length ≤ 300
    omega
  unfold partF
  show ascii ((r.fr.map (siteS rs)).headD (ownF rs r)).1 ∧ _
  cases e : r.fr with
  | nil => exact site _ (ok.ok.ca _ (last_mem ok.ok)).1 (ok.hc _ (last_mem ok.ok))
  | cons x t => exact site x (ok.ok.fo x (by rw [e]; exact List.mem_cons_self ..)).1 (ok.hf x (by rw [e]; exact List.mem_cons_self ..))
theorem lax_eq (rs : List Str) (r : Rq) : laxF rs r = (nearF rs r || (decide (r.fr = []) && r.rd)) := rfl
/-- what is told of a request -/
def ToldAt (H : Hp) (t : Addr) (rs : List Str) (r : Rq) : Prop := ∃ q, H t = some (.tup [.bl (nearF rs r), .bl (laxF rs r), .ref q]) ∧ PartAt H q (partF rs r)
def sp__law_told (K : PySem.W.Frag) (mg : Str → Option Value) : Sp := fun vs H Q _ => ∃ (p d : Addr) (rs : List Str) (r : Rq), vs = [.ref p, .ref d] ∧ H p = some (.tup (rs.map V.str)) ∧ RulesOK rs ∧ rs.length ≤ 30 ∧ AskAt H d r ∧ RqOk r ∧ ∀ (t : Addr) H', Same H H' → ToldAt H' t rs r → Q (.ref t) H'
def sp__law_with (K : PySem.W.Frag) : Sp := fun vs H Q _ => ∃ (d e : Addr) (ks kvs : List (L2.Key × V)), vs = [.ref d, .ref e] ∧ H d = some (.dK ks) ∧ H e = some (.dK kvs) ∧ ks.length ≤ 100 ∧ kvs.length ≤ 100 ∧ ∀ (a : Addr) H', Same H H' → H' a = some (.dK (mergeK ks kvs)) → Q (.ref a) H'
theorem TupsAt.erase {H : Hp} : ∀ {qs : List Addr} {cs : List (List V)} (k : Nat), TupsAt H qs cs → TupsAt H (qs.eraseIdx k) (cs.eraseIdx k)
  | [], [], _, _ => trivial
  | _ :: _, _ :: _, 0, h => h.2
  | _ :: _, _ :: _, k + 1, h => ⟨h.1, TupsAt.erase k h.2⟩
theorem map_erase {α β : Type} (f : α → β) : ∀ (l : List α) (k : Nat), (l.eraseIdx k).map f = (l.map f).eraseIdx k
  | [], _ => rfl
  | _ :: _, 0 => rfl
  | x :: l, k + 1 => congrArg (f x :: ·) (map_erase f l k)
theorem erase_perm {α : Type} : ∀ (l : List α) (i : Nat) (h : i < l.length), (l[i] :: l.eraseIdx i).Perm l
  | [], i, h => absurd h (Nat.not_lt_zero _)
  | x :: l, 0, _ => .refl _
  | x :: l, i + 1, h => (List.Perm.swap x (l[i]'(Nat.lt_of_succ_lt_succ h)) (l.eraseIdx i)).trans ((erase_perm l i (Nat.lt_of_succ_lt_succ h)).cons x)
def triD (x : Str × Str × Str) : PyData := .tuple ([x.1, x.2.1, x.2.2].map PyData.str)
theorem dpAll_tris {K : PySem.W.Frag} {H : Hp} : ∀ {qs : List Addr} {L : List (Str × Str × Str)}, TupsAt H qs (L.map adV) → DpAll K H (qs.map V.ref) (L.map triD)
  | [], [], _ => .nil
  | q :: qs, x :: L, h => .cons (dp_strsT (ys := [x.1, x.2.1, x.2.2]) (SqT.of h.1)) (dpAll_tris h.2)
theorem lay_tri {x : Str × Str × Str} (g : GoodA x) : (triD x).canLay0 = true ∧ (triD x).depth ≤ 60 := by
  unfold triD
  have := canLay_strs [x.1, x.2.1, x.2.2] fun w hw => lay_str (by
    rcases List.mem_cons.mp hw with rfl | hw
    · exact ascii_sch g.1
    rcases List.mem_cons.mp hw with rfl | hw
    · exact ascii_host g.2.1
    · rw [List.mem_singleton.mp hw]; exact ascii_path g.2.2)
  refine ⟨by rw [PyData.canLay0]; exact this, ?_⟩
  rw [PyData.depth, depth_strs]; decide
theorem eqv_tris0 (L : List (Str × Str × Str)) : PyData.eqv (.list (L.map triD)) (.list []) = decide (L = []) := by
  cases L <;> simp [PyData.eqv, PyData.eqvAll]
def sp__law_turned (K : PySem.W.Frag) : Sp := fun vs H Q _ => ∃ (d g p : Addr) (qs : List Addr) (l : List (Str × Str × Str)) (n : Nat), vs = [.ref d, .ref p] ∧ SqT K H p (qs.map V.ref) ∧ TupsAt H qs (l.map adV) ∧ (∀ x ∈ l, GoodA x) ∧ l.length ≤ 10 ∧ GAt H d g (n + 20) ∧
  ∀ (a : Addr) (ps : List Addr) (l' : List (Str × Str × Str)) H', KeepD d g H H' → GAt H' d g n → a ≠ d → a ≠ g → H' a = some (.lst (ps.map V.ref)) → TupsAt H' ps (l'.map adV) → l'.Perm l → Q (.ref a) H'
/-- a term gives a chain -/
def GivC (σ : L2.St) (H : Hp) (te : TE) (l : List (Str × Str × Str)) : Prop := ∀ (H1 : Hp) (Q : VK), Same H H1 → (∀ T H2, Same H1 H2 → ChAt H2 T l → Q (.ref T) H2) → te σ H1 Q
/-- a term gives a dict that makes r' of r -/
def GivW (σ : L2.St) (H : Hp) (td : TE) (r r' : Rq) : Prop := ∀ (H1 : Hp) (Q : VK), Same H H1 → (∀ (e : Addr) (H2 : Hp) (kvs : List (L2.Key × V)), Same H1 H2 → H2 e = some (.dK kvs) → kvs.length ≤ 15 → (∀ (pc pf : Addr) (vs : V) (H3 : Hp) (a' : Addr), Same H2 H3 → ChAt H3 pc r.ch → StAt H3 vs r.st → OrsAt H3 pf r.fr → H3 a' = some (.dK (mergeK (askK pc vs pf r.rd r.wy) kvs)) → AskAt H3 a' r') → Q (.ref e) H2) → td σ H1 Q
theorem givW_ch {σ : L2.St} {H : Hp} {te : TE} {l : List (Str × Str × Str)} {r : Rq} (gc : GivC σ H te l) : GivW σ H (tDisp [(tC (.str "chain"), te)]) r { r with ch := l } := fun H1 Q s q p hp => by
  have s1 := Same.new (o := HO.dK []) hp
  refine gc _ _ (s.trans s1) fun T H2 s2 hT => ?_
  have mp : H2 p = some (.dK []) := s2 _ _ upd_same
  refine ⟨mp, [(Sum.inr "chain", .ref T)], rfl, by show 1 ≤ 15; decide, q p _ _ (Same.put (s1.trans s2) hp) upd_same (by show 1 ≤ 15; decide) fun pc pf vs H3 a' s3 h1 h2 h3 h4 => ?_⟩
  have e : mergeK (askK pc vs pf r.rd r.wy) (mergeK [] [((Sum.inr "chain" : L2.Key), V.ref T)]) = askK T vs pf r.rd r.wy := ask_put_chain ..
  rw [e] at h4
  exact ⟨T, pf, vs, h4, (ChAt.upd mp hT).same s3, h2, h3⟩
theorem AskAt.merge {K : PySem.W.Frag} {σ : L2.St} {H H1 : Hp} {td : TE} {r r' : Rq} {j : Nat} {a : Addr} {Q : VK} (hd : GivW σ H td r r') (s : Same H H1) (h2 : σ[j]? = some (some (.ref a))) (hA : AskAt H a r) (q : ∀ a' H', Same H1 H' → AskAt H' a' r' → Q (.ref a') H') :
    tCall (sp__law_with K) [] E0 (tCons (tVar j) (tCons td tNil)) σ H1 Q := by
  refine ⟨_, h2, hd _ _ s fun e H2 kvs s2 me hl mk => ?_⟩
  obtain ⟨pc, pf, vs, ha, b1, b2, b3⟩ := hA.same (s.trans s2)
  exact ⟨a, e, _, _, rfl, ha, me, by show 5 ≤ 100; decide, by omega, fun a' H3 s3 ma => q a' H3 (s2.trans s3) (mk pc pf vs H3 a' s3 (b1.same s3) (b2.same s3) (b3.same s3) ma)⟩
def toldD (rs : List Str) (r : Rq) : PyData := .tuple [.bool (nearF rs r), .bool (laxF rs r), partD (partF rs r)]
theorem ToldAt.same {H H' : Hp} {t : Addr} {rs : List Str} {r : Rq} (h : ToldAt H t rs r) (s : Same H H') : ToldAt H' t rs r := let ⟨q, a, b⟩ := h; ⟨q, s _ _ a, b.same s⟩
theorem ToldAt.dp {K : PySem.W.Frag} {H : Hp} {t : Addr} {rs : List Str} {r : Rq} (h : ToldAt H t rs r) : Dp K H (.ref t) (toldD rs r) := by
  obtain ⟨q, a, b⟩ := h
  exact .tup (SqT.of a) (.cons (.bl _) (.cons (.bl _) (.cons b.dp .nil)))
theorem ascii_site {rs : List Str} {x : Str × Str} (g : GoodO x) : ascii (siteS rs x).1 ∧ ascii (siteS rs x).2 := ⟨ascii_sch g.1, ascii_fam (ascii_host g.2)⟩
theorem last_good {r : Rq} (ok : RqOk r) : GoodO (r.last.1, r.last.2.1) := ⟨(ok.ca _ (last_mem ok)).1, (ok.ca _ (last_mem ok)).2.1⟩
theorem ascii_part {rs : List Str} {r : Rq} (ok : RqOk r) : ascii (partF rs r).1.1 ∧ ascii (partF rs r).1.2 := by
  unfold partF
  show ascii ((r.fr.map (siteS rs)).headD (ownF rs r)).1 ∧ ascii ((r.fr.map (siteS rs)).headD (ownF rs r)).2
  cases e : r.fr with
  | nil => exact ascii_site (last_good ok)
  | cons x t => exact ascii_site (ok.fo x (by rw [e]; exact List.mem_cons_self ..))
theorem lay_part {rs : List Str} {r : Rq} (ok : RqOk r) : (partD (partF rs r)).canLay0 = true ∧ (partD (partF rs r)).depth ≤ 59 := by
  have h := ascii_part (rs := rs) ok
  have l := canLay_strs [(partF rs r).1.1, (partF rs r).1.2] fun w hw => lay_str (by
    rcases List.mem_cons.mp hw with rfl | hw
    · exact h.1
    · rw [List.mem_singleton.mp hw]; exact h.2)
  refine ⟨?_, ?_⟩
  · simp only [partD, pairD, PyData.canLay0, PyData.canLayAll0, Bool.and_eq_true]
    exact ⟨l, trivial, trivial⟩
  · simp [partD, pairD, PyData.depth, PyData.depthAll]
theorem shaped_told {rs : List Str} {r : Rq} (ok : RqOk r) : SeqAt.shaped (toldD rs r) = true := shaped_tuple fun d hd => by
  rcases List.mem_cons.mp hd with rfl | hd
  · exact ⟨rfl, by show (0 : Nat) ≤ 60; decide⟩
  rcases List.mem_cons.mp hd with rfl | hd
  · exact ⟨rfl, by show (0 : Nat) ≤ 60; decide⟩
  · rw [List.mem_singleton.mp hd]; exact ⟨(lay_part ok).1, Nat.le_trans (lay_part ok).2 (by decide)⟩
/-- the same is told -/
structure Tells (rs : List Str) (r r' : Rq) : Prop where
  n : nearF rs r' = nearF rs r
  l : laxF rs r' = laxF rs r
  p : partF rs r' = partF rs r
theorem Tells.d {rs : List Str} {r r' : Rq} (h : Tells rs r r') : toldD rs r' = toldD rs r := by unfold toldD; rw [h.n, h.l, h.p]
/-- _law_told(rules, _law_with(v, ..)) -/
theorem told_with {K : PySem.W.Frag} {mg : Str → Option Value} {σ : L2.St} {H H1 : Hp} {r' : Rq} {i : Nat} {p : Addr} {rs : List Str} {Q : VK} (h1 : σ[i]? = some (some (.ref p))) (s : Same H H1) (hp : H p = some (.tup (rs.map V.str))) (hr : RulesOK rs) (hl : rs.length ≤ 30) (ok' : RqOk r')
    {tw : TE} (hw : ∀ (Q : VK), (∀ a' H', Same H1 H' → AskAt H' a' r' → Q (.ref a') H') → tw σ H1 Q) (q : ∀ t H', Same H1 H' → ToldAt H' t rs r' → Q (.ref t) H') :
    tCall (sp__law_told K mg) [] E0 (tCons (tVar i) (tCons tw tNil)) σ H1 Q :=
  ⟨_, h1, hw _ fun a' H2 s2 hA => ⟨p, a', rs, r', rfl, s2 _ _ (s _ _ hp), hr, hl, hA, ok', fun t H' s' ht => q t H' (s2.trans s') ht⟩⟩
theorem RqOk.chain {r : Rq} (ok : RqOk r) {l : List (Str × Str × Str)} (h1 : 1 ≤ l.length) (h2 : l.length ≤ 10) (hg : ∀ x ∈ l, GoodA x) (hs : r.wy = "script" → l.length = 1) : RqOk { r with ch := l } :=
  ⟨h1, h2, hg, ok.so, ok.f6, ok.fo, ok.wy.elim .inl fun ⟨e, _, b, c⟩ => .inr ⟨e, hs e, b, c⟩⟩
theorem last_ch {r : Rq} {l : List (Str × Str × Str)} (hl : l.getLast? = some r.last) : ({ r with ch := l } : Rq).last = r.last := by
  show l.getLast?.getD ("", "", "") = r.last
  rw [hl]; rfl
theorem own_ch {rs : List Str} {r : Rq} {l : List (Str × Str × Str)} (hl : l.getLast? = some r.last) : ownF rs { r with ch := l } = ownF rs r := by unfold ownF; rw [last_ch hl]
theorem part_ch {rs : List Str} {r : Rq} {l : List (Str × Str × Str)} (hl : l.getLast? = some r.last) : partF rs { r with ch := l } = partF rs r := by unfold partF; rw [own_ch hl]
theorem near_ch {rs : List Str} {r : Rq} {l : List (Str × Str × Str)} (hl : l.getLast? = some r.last) (hm : ∀ x, x ∈ l ↔ x ∈ r.ch) : nearF rs { r with ch := l } = nearF rs r := by
  rw [Bool.eq_iff_iff]
  unfold nearF
  rw [List.all_eq_true, List.all_eq_true, own_ch hl]
  have e : ∀ x, x ∈ ({ r with ch := l } : Rq).places ↔ x ∈ r.places := fun x => by
    unfold Rq.places
    simp only [List.mem_append, List.mem_map, hm]
  exact ⟨fun h x hx => h x ((e x).mpr hx), fun h x hx => h x ((e x).mp hx)⟩
theorem Tells.chain {rs : List Str} {r : Rq} {l : List (Str × Str × Str)} (hl : l.getLast? = some r.last) (hm : ∀ x, x ∈ l ↔ x ∈ r.ch) : Tells rs r { r with ch := l } :=
  ⟨near_ch hl hm, by unfold laxF; rw [near_ch hl hm], part_ch hl⟩
theorem ToldAt.kd {H H' : Hp} {d g t : Addr} {n : Nat} {rs : List Str} {r : Rq} (h : ToldAt H t rs r) (k : KeepD d g H H') (D : GAt H d g n) : ToldAt H' t rs r := by
  obtain ⟨q, a, s, b, c⟩ := h
  exact ⟨q, k _ _ a (D.tup a).1 (D.tup a).2, s, k _ _ b (D.tup b).1 (D.tup b).2, k _ _ c (D.tup c).1 (D.tup c).2⟩
theorem split_last {r : Rq} (ok : RqOk r) : r.ch = r.ch.dropLast ++ [r.last] := by
  have h1 : r.ch ≠ [] := fun z => by have := ok.c1; rw [z] at this; exact absurd this (by decide)
  have e : r.last = r.ch.getLast h1 := by unfold Rq.last; rw [List.getLast?_eq_some_getLast h1]; rfl
  rw [e]; exact (List.dropLast_concat_getLast h1).symm
theorem shaped_tuple_part {rs : List Str} {r : Rq} (ok : RqOk r) : SeqAt.shaped (partD (partF rs r)) = true := shaped_tuple fun d hd => by
  have h := ascii_part (rs := rs) ok
  rcases List.mem_cons.mp hd with rfl | hd
  · exact lay_pair h.1 h.2
  · rw [List.mem_singleton.mp hd]; exact ⟨rfl, by show (0 : Nat) ≤ 60; decide⟩
theorem merge_plain (pc : Addr) (vs : V) (pf : Addr) (b : Bool) (w : Str) : mergeK (askK pc vs pf b w) (mergeK [] [((Sum.inr "starter" : L2.Key), V.non), (Sum.inr "reads", .bl true), (Sum.inr "way", .str "http")]) = askK pc .non pf true "http" := by
  simp [mergeK, putK, askK, kn_chain_starter, kn_chain_frames, kn_chain_reads, kn_chain_way, kn_starter_chain, kn_starter_frames, kn_starter_reads, kn_starter_way, kn_frames_chain, kn_frames_starter, kn_frames_reads, kn_frames_way, kn_reads_chain, kn_reads_starter, kn_reads_frames, kn_reads_way, kn_way_chain, kn_way_starter, kn_way_frames, kn_way_reads]
theorem givW_plain {σ : L2.St} {H : Hp} {r : Rq} : GivW σ H (tDisp [(tC (.str "starter"), tC V.non), (tC (.str "reads"), tC (.bl true)), (tC (.str "way"), tC (.str "http"))]) r { r with st := none, rd := true, wy := "http" } := fun H1 Q s q p hp =>
  ⟨upd_same, [(Sum.inr "starter", .non), (Sum.inr "reads", .bl true), (Sum.inr "way", .str "http")], rfl, by show 3 ≤ 15; decide, q p _ _ (by rw [upd_upd]; exact Same.new hp) upd_same (by show 3 ≤ 15; decide) fun pc pf vs H3 a' s3 h1 h2 h3 h4 => ⟨pc, pf, .non, by rw [merge_plain] at h4; exact h4, h1, rfl, h3⟩⟩
theorem givW_reads {σ : L2.St} {H : Hp} {r : Rq} {b : Bool} : GivW σ H (tDisp [(tC (.str "reads"), tC (.bl b))]) r { r with rd := b } := fun H1 Q s q p hp =>
  ⟨upd_same, [(Sum.inr "reads", .bl b)], rfl, by show 1 ≤ 15; decide, q p _ _ (by rw [upd_upd]; exact Same.new hp) upd_same (by show 1 ≤ 15; decide) fun pc pf vs H3 a' s3 h1 h2 h3 h4 => ⟨pc, pf, vs, by
    have e : mergeK (askK pc vs pf r.rd r.wy) (mergeK [] [((Sum.inr "reads" : L2.Key), V.bl b)]) = askK pc vs pf b r.wy := ask_put_reads ..
    rw [e] at h4; exact h4, h1, h2, h3⟩⟩
/-- a term gives frames -/
def GivF (σ : L2.St) (H : Hp) (te : TE) (l : List (Str × Str)) : Prop := ∀ (H1 : Hp) (Q : VK), Same H H1 → (∀ T H2, Same H1 H2 → OrsAt H2 T l → Q (.ref T) H2) → te σ H1 Q
theorem givW_fr {σ : L2.St} {H : Hp} {te : TE} {l : List (Str × Str)} {r : Rq} (gc : GivF σ H te l) : GivW σ H (tDisp [(tC (.str "frames"), te)]) r { r with fr := l } := fun H1 Q s q p hp => by
  have s1 := Same.new (o := HO.dK []) hp
  refine gc _ _ (s.trans s1) fun T H2 s2 hT => ?_
  have mp : H2 p = some (.dK []) := s2 _ _ upd_same
  refine ⟨mp, [(Sum.inr "frames", .ref T)], rfl, by show 1 ≤ 15; decide, q p _ _ (Same.put (s1.trans s2) hp) upd_same (by show 1 ≤ 15; decide) fun pc pf vs H3 a' s3 h1 h2 h3 h4 => ?_⟩
  have e : mergeK (askK pc vs pf r.rd r.wy) (mergeK [] [((Sum.inr "frames" : L2.Key), V.ref T)]) = askK pc vs T r.rd r.wy := ask_put_frames ..
  rw [e] at h4
  exact ⟨pc, T, vs, h4, h1, h2, (OrsAt.upd mp hT).same s3⟩
theorem givW_st0 {σ : L2.St} {H : Hp} {r : Rq} : GivW σ H (tDisp [(tC (.str "starter"), tC V.non)]) r { r with st := none } := fun H1 Q s q p hp =>
  ⟨upd_same, [(Sum.inr "starter", .non)], rfl, by show 1 ≤ 15; decide, q p _ _ (by rw [upd_upd]; exact Same.new hp) upd_same (by show 1 ≤ 15; decide) fun pc pf vs H3 a' s3 h1 h2 h3 h4 => ⟨pc, pf, .non, by
    have e : mergeK (askK pc vs pf r.rd r.wy) (mergeK [] [((Sum.inr "starter" : L2.Key), V.non)]) = askK pc .non pf r.rd r.wy := ask_put_starter ..
    rw [e] at h4; exact h4, h1, rfl, h3⟩⟩
def sp__law_chains_right (K : PySem.W.Frag) (mg : Str → Option Value) : Sp := fun vs H Q _ => ∃ (d g p a : Addr) (rs : List Str) (r : Rq) (n : Nat), vs = [.ref d, .ref p, .ref a] ∧ H p = some (.tup (rs.map V.str)) ∧ RulesOK rs ∧ rs.length ≤ 30 ∧ AskAt H a r ∧ RqOk r ∧ r.ch.length ≤ 3 ∧ a ≠ d ∧ a ≠ g ∧ GAt H d g (n + 20) ∧
  ∀ H', KeepD d g H H' → GAt H' d g n → Q (.bl true) H'
def nsig : List Nat := [48, 49, 50, 51, 52, 53, 54, 55, 56, 57, 46]
theorem tl_nsig : tl ("0123456789." : Str) = nsig := by decide +kernel
def numsB (t : List Nat) : Bool := t.all fun c => decide (c ∈ nsig)
def sp__law_is_numbers : Sp := fun vs H Q _ => ∃ y : Str, vs = [.str y] ∧ y.length ≤ 100 ∧ ascii y ∧ ∀ H', Same H H' → Q (.bl (numsB (tl y))) H'
def offL (P w : List (List Nat)) (n : Nat) : List Nat := (List.range n).filter fun k => !(decide (P.getD k [] = [42]) || decide (P.getD k [] = (lastN P.length w).getD k []))
def metL (P w : List (List Nat)) : Bool := decide (P.length ≤ w.length) && decide (offL P w P.length = [])
def stepL (w : List (List Nat)) (s : Nat × Nat) (t : List Nat) : Nat × Nat := if metL (patL t) w = true then (if excT t = true then (s.1, max s.2 (patL t).length) else (max s.1 (patL t).length, s.2)) else s
def foldS (w : List (List Nat)) (rs : List (List Nat)) : Nat × Nat := rs.foldl (stepL w) (1, 0)
def sufN7 (rs w : List (List Nat)) : Nat := if 0 < (foldS w rs).2 then (foldS w rs).2 - 1 else (foldS w rs).1
def sufT7 (rs : List (List Nat)) (t : List Nat) : List Nat := joinL [46] (lastN (sufN7 rs (sp1 46 t)) (sp1 46 t))
theorem metL_le {P w : List (List Nat)} (h : metL P w = true) : P.length ≤ w.length := by
  unfold metL at h
  rw [Bool.and_eq_true, decide_eq_true_eq] at h
  exact h.1
theorem foldS_le {w : List (List Nat)} (hw : 1 ≤ w.length) : ∀ rs : List (List Nat), (foldS w rs).1 ≤ w.length ∧ (foldS w rs).2 ≤ w.length ∧ 1 ≤ (foldS w rs).1 := by
  have gen : ∀ (rs : List (List Nat)) (s : Nat × Nat), s.1 ≤ w.length → s.2 ≤ w.length → 1 ≤ s.1 → (rs.foldl (stepL w) s).1 ≤ w.length ∧ (rs.foldl (stepL w) s).2 ≤ w.length ∧ 1 ≤ (rs.foldl (stepL w) s).1 := by
    intro rs
    induction rs with
    | nil => exact fun s h1 h2 h3 => ⟨h1, h2, h3⟩
    | cons t r ih =>
      intro s h1 h2 h3
      rw [List.foldl_cons]
      refine ih _ ?_ ?_ ?_ <;> (unfold stepL; by_cases hm : metL (patL t) w = true) <;> (first | rw [if_pos hm] | rw [if_neg hm]) <;> (first | (by_cases he : excT t = true <;> (first | rw [if_pos he] | rw [if_neg he]) <;> (have := metL_le hm; simp only; omega)) | assumption)
  exact fun rs => gen rs (1, 0) hw (Nat.zero_le _) (Nat.le_refl _)
theorem foldS_snoc (w rs : List (List Nat)) (t : List Nat) : foldS w (rs ++ [t]) = stepL w (foldS w rs) t := by
  unfold foldS
  rw [List.foldl_append]; rfl
theorem bang_cut (r : Str) : decide (V.str (cutS r none (some 1)) = V.str "!") = excT (tl r) := by
  unfold excT
  rw [Bool.eq_iff_iff, decide_eq_true_eq, decide_eq_true_eq]
  have e : (V.str (cutS r none (some 1)) = V.str "!") ↔ tl (cutS r none (some 1)) = tl "!" := ⟨fun h => congrArg tl (V.str.inj h), fun h => congrArg V.str (ext_tl h)⟩
  rw [e, cutS_to r (by decide), show tl "!" = [33] by decide +kernel]
  cases tl r with
  | nil => simp
  | cons a t => simp
theorem pat_cut (r : Str) : tl (cutS r (some (if excT (tl r) = true then 1 else 0)) none) = patT (tl r) := by
  unfold patT
  cases excT (tl r) with
  | true => rw [if_pos rfl, if_pos rfl, cutS_from r (by decide)]; exact List.drop_one
  | false => rw [if_neg (by decide), if_neg (by decide), cutS_from r (by decide)]; rfl
def sp__law_suffix (K : PySem.W.Frag) : Sp := fun vs H Q _ => ∃ (p : Addr) (rs : List Str) (y : Str), vs = [.ref p, .str y] ∧ SqT K H p (rs.map V.str) ∧ rs.length ≤ 30 ∧ (∀ r ∈ rs, r.length ≤ 100 ∧ r.length ≠ 0) ∧ y.length ≤ 100 ∧ (∀ s ∈ tl y, s < 128) ∧
  ∀ (e : Str) (H' : Hp), Same H H' → tl e = sufT7 (rs.map tl) (tl y) → Q (.str e) H'
def famT7 (rs : List (List Nat)) (t : List Nat) : List Nat := if numsB t = true then t else if sufT7 rs t = t then t else joinL [46] (lastN ((sp1 46 (sufT7 rs t)).length + 1) (sp1 46 t))
theorem fam7_all : rules27.all (fun rs => hosts28.all fun y => decide (famT7 (rs.map tl) (tl y) = famT (rs.map tl) (tl y))) = true := by decide +kernel
theorem rules27_ok : rules27.all (fun rs => decide (rs.Nodup) && decide (rs.length ≤ 3) && rs.all fun r => ruleB (tl r) && decide (r.length ≤ 20)) = true := by decide +kernel
theorem rules27_in {rs : List Str} (h : rs ∈ rules27) : RulesOK rs ∧ rs.length ≤ 3 ∧ ∀ r ∈ rs, r.length ≤ 20 ∧ r.length ≠ 0 := by
  have := List.all_eq_true.mp rules27_ok rs h
  rw [Bool.and_eq_true, Bool.and_eq_true, decide_eq_true_eq, decide_eq_true_eq, List.all_eq_true] at this
  refine ⟨⟨this.1.1, fun r hr => ?_⟩, this.1.2, fun r hr => ?_⟩
  all_goals
    have h2 := this.2 r hr
    rw [Bool.and_eq_true, decide_eq_true_eq] at h2
  · exact ⟨h2.1, by omega⟩
  · refine ⟨h2.2, fun z => ?_⟩
    have e : tl r = [] := List.eq_nil_of_length_eq_zero (by rw [len_tl] at z; exact z)
    rw [e] at h2
    exact absurd h2.1 (by decide +kernel)
def sp__law_family (K : PySem.W.Frag) : Sp := fun vs H Q _ => ∃ (p : Addr) (rs : List Str) (y : Str), vs = [.ref p, .str y] ∧ SqT K H p (rs.map V.str) ∧ rs ∈ rules27 ∧ y ∈ hosts28 ∧
  ∀ H', Same H H' → Q (.str (famS rs y)) H'
def sp__law_site (K : PySem.W.Frag) : Sp := fun vs H Q _ => ∃ (p o : Addr) (rs : List Str) (x y : Str), vs = [.ref p, .ref o] ∧ SqT K H p (rs.map V.str) ∧ H o = some (.tup [.str x, .str y]) ∧ rs ∈ rules27 ∧ y ∈ hosts28 ∧
  ∀ (e : Addr) (H' : Hp), Same H H' → H' e = some (.tup [.str x, .str (famS rs y)]) → Q (.ref e) H'
theorem shaped_pair {x y : Str} (h1 : ascii x) (h2 : ascii y) : SeqAt.shaped (.tuple ([x, y].map PyData.str)) = true := shaped_tuple fun d hd => by
  rcases List.mem_cons.mp hd with rfl | hd
  · exact ⟨lay_str h1, by simp [PyData.depth]⟩
  · rw [List.mem_singleton.mp hd]; exact ⟨lay_str h2, by simp [PyData.depth]⟩
theorem part_near {rs : List Str} {r : Rq} (h : nearF rs r = true) : partF rs r = (ownF rs r, false) := by
  unfold nearF at h
  rw [List.all_eq_true] at h
  have hf : ∀ x ∈ r.fr, siteS rs x = ownF rs r := fun x hx => of_decide_eq_true (h x (by unfold Rq.places; exact List.mem_append_right _ hx))
  unfold partF
  refine Prod.ext ?_ ?_
  · show (r.fr.map (siteS rs)).headD (ownF rs r) = ownF rs r
    cases e : r.fr with
    | nil => rfl
    | cons x t => exact hf x (by rw [e]; exact List.mem_cons_self ..)
  · show ((r.fr.map (siteS rs)).any fun x => decide (x ≠ ownF rs r)) = false
    rw [List.any_eq_false]
    intro y hy
    obtain ⟨x, hx, rfl⟩ := List.mem_map.mp hy
    simp [hf x hx]
def sp__law_near_right (K : PySem.W.Frag) (mg : Str → Option Value) : Sp := fun vs H Q _ => ∃ (p a : Addr) (rs : List Str) (r : Rq), vs = [.ref p, .ref a] ∧ H p = some (.tup (rs.map V.str)) ∧ rs ∈ rules27 ∧ AskAt H a r ∧ AskOk r ∧ ∀ H', Same H H' → Q (.bl true) H'
def movA (g : Str × Str → Str × Str) (x : Str × Str × Str) : Str × Str × Str := ((g (x.1, x.2.1)).1, (g (x.1, x.2.1)).2, x.2.2)
theorem merge_moved (pc pc' : Addr) (vs vs' : V) (pf pf' : Addr) (b : Bool) (w : Str) : mergeK (askK pc vs pf b w) (mergeK [] [((Sum.inr "chain" : L2.Key), V.ref pc'), (Sum.inr "starter", vs'), (Sum.inr "frames", .ref pf')]) = askK pc' vs' pf' b w := by
  simp [mergeK, putK, askK, kn_chain_starter, kn_chain_frames, kn_chain_reads, kn_chain_way, kn_starter_chain, kn_starter_frames, kn_starter_reads, kn_starter_way, kn_frames_chain, kn_frames_starter, kn_frames_reads, kn_frames_way, kn_reads_chain, kn_reads_starter, kn_reads_frames, kn_reads_way, kn_way_chain, kn_way_starter, kn_way_frames, kn_way_reads]
/-- all origins changed -/
def movR (g : Str × Str → Str × Str) (r : Rq) : Rq := { r with ch := r.ch.map (movA g), st := r.st.map g, fr := r.fr.map g }
/-- f gives g of an origin of the request -/
def ChgAt (g : Str × Str → Str × Str) (r : Rq) (ok : Hp → Prop) (spf : Sp) : Prop := ∀ (o : Addr) (x : Str × Str) (H1 : Hp) (Q : VK), ok H1 → H1 o = some (.tup (orV x)) → x ∈ r.places → (∀ e H2, Same H1 H2 → H2 e = some (.tup (orV (g x))) → Q (.ref e) H2) → spf [.ref o] H1 Q E0
def sp__law_moved (P : Program) (w : World) (K : PySem.W.Frag) (mg : Str → Option Value) (base : Heap) : Sp := fun vs H Q _ => ∃ (a f : Addr) (r : Rq) (g : Str × Str → Str × Str) (ok : Hp → Prop) (spf : Sp), vs = [.ref a, .ref f] ∧ AskAt H a r ∧ RqOk r ∧ ok H ∧ (∀ H1 H2, ok H1 → Same H1 H2 → ok H2) ∧ (∃ ps, FV P w K mg base 5 f ps spf) ∧
  ChgAt g r ok spf ∧ ∀ (a' : Addr) H', Same H H' → AskAt H' a' (movR g r) → Q (.ref a') H'
def flipS (x : Str × Str) : Str × Str := (if x.1 = "http" then "https" else "http", x.2)
theorem kn_hs : (("http" : Str) = "https") = False := eq_false (by decide +kernel)
theorem kn_sh : (("https" : Str) = "http") = False := eq_false (by decide +kernel)
theorem flip_val {s : Str} (h : s ∈ schemes2) : valV (mergeK [] [((Sum.inr "http" : L2.Key), V.str "https"), (Sum.inr "https", .str "http")]) (Sum.inr s) = some (.str (if s = "http" then "https" else "http")) := by
  have : s = "http" ∨ s = "https" := by simpa [schemes2] using h
  rcases this with rfl | rfl
  · simp [mergeK, putK, valV, kn_hs, kn_sh]
  · simp [mergeK, putK, valV, kn_hs, kn_sh]
def sp__law_other_scheme : Sp := fun vs H Q _ => ∃ (o : Addr) (x : Str × Str), vs = [.ref o] ∧ H o = some (.tup (orV x)) ∧ x.1 ∈ schemes2 ∧ ∀ (e : Addr) H', Same H H' → H' e = some (.tup (orV (flipS x))) → Q (.ref e) H'
theorem fam28_ok : (rules27.all fun rs => hosts28.all fun y => decide (famS rs (famS rs y) = famS rs y) && hostB (tl (famS rs y))) = true := by decide +kernel
theorem fam28 {rs : List Str} {y : Str} (h : rs ∈ rules27) (hy : y ∈ hosts28) : famS rs (famS rs y) = famS rs y ∧ hostB (tl (famS rs y)) = true := by
  have := List.all_eq_true.mp (List.all_eq_true.mp fam28_ok rs h) y hy
  rw [Bool.and_eq_true, decide_eq_true_eq] at this
  exact this
theorem places_mov (g : Str × Str → Str × Str) (r : Rq) : (movR g r).places = r.places.map g := by
  unfold Rq.places movR
  simp only [List.map_append, List.map_map]
  congr 2
  cases r.st <;> rfl
theorem last_mov {g : Str × Str → Str × Str} {r : Rq} (ok : RqOk r) : (movR g r).last = movA g r.last := by
  have h1 : r.ch ≠ [] := fun z => by have := ok.c1; rw [z] at this; exact absurd this (by decide)
  show (r.ch.map (movA g)).getLast?.getD ("", "", "") = movA g (r.ch.getLast?.getD ("", "", ""))
  rw [List.getLast?_map, List.getLast?_eq_some_getLast h1]
  rfl
theorem own_mov {rs : List Str} {g : Str × Str → Str × Str} {r : Rq} (ok : RqOk r) : ownF rs (movR g r) = siteS rs (g (r.last.1, r.last.2.1)) := by
  unfold ownF
  rw [last_mov ok]
  rfl
theorem places_last {r : Rq} (ok : RqOk r) : (r.last.1, r.last.2.1) ∈ r.places := by
  unfold Rq.places
  exact List.mem_append_left _ (List.mem_append_left _ (List.mem_map.mpr ⟨_, last_mem ok, rfl⟩))
theorem places_fr {r : Rq} {x : Str × Str} (h : x ∈ r.fr) : x ∈ r.places := List.mem_append_right _ h
theorem places_host {r : Rq} (ok : AskOk r) {x : Str × Str} (h : x ∈ r.places) : x.2 ∈ hosts28 ∧ x.1 ∈ schemes2 := by
  unfold Rq.places at h
  rcases List.mem_append.mp h with h | h
  · rcases List.mem_append.mp h with h | h
    · obtain ⟨y, hy, rfl⟩ := List.mem_map.mp h
      exact ⟨ok.hc y hy, (ok.ok.ca y hy).1⟩
    · cases e : r.st with
      | none => rw [e] at h; cases h
      | some y =>
        rw [e] at h
        rw [List.mem_singleton.mp h]
        exact ⟨ok.hs y e, (ok.ok.so y e).1.1⟩
  · exact ⟨ok.hf x h, (ok.ok.fo x h).1⟩
theorem ok_mov {g : Str × Str → Str × Str} {r : Rq} (ok : RqOk r) (hg : ∀ x ∈ r.places, GoodO (g x)) : RqOk (movR g r) := by
  refine ⟨by show 1 ≤ (r.ch.map _).length; rw [List.length_map]; exact ok.c1, by show (r.ch.map _).length ≤ 10; rw [List.length_map]; exact ok.c2, fun x hx => ?_, fun x hx => ?_, by show (r.fr.map _).length ≤ 6; rw [List.length_map]; exact ok.f6, fun x hx => ?_, ?_⟩
  · obtain ⟨y, hy, rfl⟩ := List.mem_map.mp hx
    have hz := hg (y.1, y.2.1) (List.mem_append_left _ (List.mem_append_left _ (List.mem_map.mpr ⟨y, hy, rfl⟩)))
    exact ⟨hz.1, hz.2, (ok.ca y hy).2.2⟩
  · cases e : r.st with
    | none => rw [show (movR g r).st = r.st.map g from rfl, e] at hx; cases hx
    | some y =>
      rw [show (movR g r).st = r.st.map g from rfl, e] at hx
      cases hx
      exact ⟨hg y (List.mem_append_left _ (List.mem_append_right _ (by rw [e]; exact List.mem_singleton.mpr rfl))), by show r.fr.map g = []; rw [(ok.so y e).2]; rfl⟩
  · obtain ⟨y, hy, rfl⟩ := List.mem_map.mp hx
    exact hg y (places_fr hy)
  · rcases ok.wy with h | ⟨a, b, c, d⟩
    · exact .inl h
    · exact .inr ⟨a, by show (r.ch.map _).length = 1; rw [List.length_map]; exact b, by show r.st.map g = none; rw [c]; rfl, d⟩
/-- G on sites goes with g: what is told -/
theorem near_mov {rs : List Str} {g G : Str × Str → Str × Str} {r : Rq} (ok : RqOk r) (hG : ∀ x ∈ r.places, siteS rs (g x) = G (siteS rs x)) (hi : ∀ x ∈ r.places, G (siteS rs x) = G (ownF rs r) → siteS rs x = ownF rs r) : nearF rs (movR g r) = nearF rs r := by
  have ho : ownF rs (movR g r) = G (ownF rs r) := by rw [own_mov ok, hG _ (places_last ok)]; rfl
  rw [Bool.eq_iff_iff]
  unfold nearF
  rw [List.all_eq_true, List.all_eq_true, places_mov, ho]
  constructor
  · intro h x hx
    have := of_decide_eq_true (h (g x) (List.mem_map.mpr ⟨x, hx, rfl⟩))
    rw [hG x hx] at this
    exact decide_eq_true (hi x hx this)
  · intro h y hy
    obtain ⟨x, hx, rfl⟩ := List.mem_map.mp hy
    exact decide_eq_true (by rw [hG x hx, of_decide_eq_true (h x hx)])
theorem lax_mov {rs : List Str} {g G : Str × Str → Str × Str} {r : Rq} (ok : RqOk r) (hG : ∀ x ∈ r.places, siteS rs (g x) = G (siteS rs x)) (hi : ∀ x ∈ r.places, G (siteS rs x) = G (ownF rs r) → siteS rs x = ownF rs r) : laxF rs (movR g r) = laxF rs r := by
  unfold laxF
  rw [near_mov ok hG hi]
  show (nearF rs r || (decide (r.fr.map g = []) && r.rd)) = _
  congr 2
  simp
theorem part_mov {rs : List Str} {g G : Str × Str → Str × Str} {r : Rq} (ok : RqOk r) (hG : ∀ x ∈ r.places, siteS rs (g x) = G (siteS rs x)) (hi : ∀ x ∈ r.places, G (siteS rs x) = G (ownF rs r) → siteS rs x = ownF rs r) : partF rs (movR g r) = (G (partF rs r).1, (partF rs r).2) := by
  have ho : ownF rs (movR g r) = G (ownF rs r) := by rw [own_mov ok, hG _ (places_last ok)]; rfl
  unfold partF
  rw [ho]
  refine Prod.ext ?_ ?_
  · show ((r.fr.map g).map (siteS rs)).headD (G (ownF rs r)) = G ((r.fr.map (siteS rs)).headD (ownF rs r))
    cases e : r.fr with
    | nil => rfl
    | cons x t => exact hG x (places_fr (by rw [e]; exact List.mem_cons_self ..))
  · show (((r.fr.map g).map (siteS rs)).any fun x => decide (x ≠ G (ownF rs r))) = (r.fr.map (siteS rs)).any fun x => decide (x ≠ ownF rs r)
    rw [Bool.eq_iff_iff, List.any_eq_true, List.any_eq_true]
    constructor
    · rintro ⟨y, hy, hn⟩
      obtain ⟨z, hz, rfl⟩ := List.mem_map.mp hy
      obtain ⟨x, hx, rfl⟩ := List.mem_map.mp hz
      refine ⟨siteS rs x, List.mem_map.mpr ⟨x, hx, rfl⟩, decide_eq_true fun q => (of_decide_eq_true hn) ?_⟩
      rw [hG x (places_fr hx), q]
    · rintro ⟨y, hy, hn⟩
      obtain ⟨x, hx, rfl⟩ := List.mem_map.mp hy
      refine ⟨siteS rs (g x), List.mem_map.mpr ⟨g x, List.mem_map.mpr ⟨x, hx, rfl⟩, rfl⟩, decide_eq_true fun q => (of_decide_eq_true hn) (hi x (places_fr hx) ?_)⟩
      rw [← hG x (places_fr hx)]
      exact q
theorem flip_inj {x y : Str × Str} (hx : x.1 ∈ schemes2) (hy : y.1 ∈ schemes2) (h : flipS x = flipS y) : x = y := by
  obtain ⟨a, b⟩ := x
  obtain ⟨c, d⟩ := y
  have ha : a = "http" ∨ a = "https" := by simpa [schemes2] using hx
  have hc : c = "http" ∨ c = "https" := by simpa [schemes2] using hy
  have e1 := congrArg Prod.fst h
  have e2 : b = d := congrArg Prod.snd h
  subst e2
  rcases ha with rfl | rfl <;> rcases hc with rfl | rfl <;> first | rfl | exact absurd e1 (by simp [flipS, kn_hs, kn_sh])
theorem flip_good {x : Str × Str} (h : GoodO x) : GoodO (flipS x) := by
  refine ⟨?_, h.2⟩
  show (if x.1 = "http" then ("https" : Str) else "http") ∈ schemes2
  split <;> decide +kernel
theorem part_sch {rs : List Str} {r : Rq} (ok : RqOk r) : (partF rs r).1.1 ∈ schemes2 := by
  unfold partF
  show ((r.fr.map (siteS rs)).headD (ownF rs r)).1 ∈ schemes2
  cases e : r.fr with
  | nil => exact (last_good ok).1
  | cons x t => exact (ok.fo x (by rw [e]; exact List.mem_cons_self ..)).1
theorem shaped_bb (a b : Bool) : SeqAt.shaped (.tuple [.bool a, .bool b]) = true := by cases a <;> cases b <;> decide +kernel
def qMv : Str := ("_law_moves_right" : Str) ++ ".<locals>." ++ "<lambda>"
theorem TupsAt.ext {H H' : Hp} (e : LamX.ExtN H H') : ∀ {qs : List Addr} {cs : List (List V)}, TupsAt H qs cs → TupsAt H' qs cs
  | [], [], _ => trivial
  | q :: _, c :: _, h => ⟨e _ _ h.1 (fun ps z => by cases z), TupsAt.ext e h.2⟩
theorem AskAt.ext {H H' : Hp} {d : Addr} {r : Rq} (h : AskAt H d r) (e : LamX.ExtN H H') : AskAt H' d r := by
  obtain ⟨pc, pf, vs, h1, ⟨cs, c1, c2⟩, h4, ⟨fs, f1, f2⟩⟩ := h
  refine ⟨pc, pf, vs, e _ _ h1 (fun ps z => by cases z), ⟨cs, e _ _ c1 (fun ps z => by cases z), TupsAt.ext e c2⟩, ?_, ⟨fs, e _ _ f1 (fun ps z => by cases z), TupsAt.ext e f2⟩⟩
  cases er : r.st with
  | none => rw [er] at h4; exact h4
  | some x =>
    rw [er] at h4
    obtain ⟨p, e1, e2⟩ := h4
    exact ⟨p, e1, e _ _ e2 (fun ps z => by cases z)⟩
theorem ToldAt.ext {H H' : Hp} {t : Addr} {rs : List Str} {r : Rq} (h : ToldAt H t rs r) (e : LamX.ExtN H H') : ToldAt H' t rs r := by
  obtain ⟨q, a, s, b, c⟩ := h
  exact ⟨q, e _ _ a (fun ps z => by cases z), s, e _ _ b (fun ps z => by cases z), e _ _ c (fun ps z => by cases z)⟩
def sp__law_moves_right (K : PySem.W.Frag) (mg : Str → Option Value) (Tb : Addr) : Sp := fun vs H Q _ => ∃ (p a : Addr) (rs : List Str) (r : Rq), vs = [.ref p, .ref a] ∧ H p = some (.tup (rs.map V.str)) ∧ rs ∈ rules27 ∧ AskAt H a r ∧ AskOk r ∧ LamX.TabS H Tb qMv ∧ ∀ H', LamX.ExtN H H' → LamX.TabS H' Tb qMv → Q (.bl true) H'
theorem far28_ok : (rules27.all fun rs => hosts28.all fun y => decide (famS rs "far-away" ≠ famS rs y)) = true := by decide +kernel
theorem far28 {rs : List Str} {y : Str} (h : rs ∈ rules27) (hy : y ∈ hosts28) : famS rs "far-away" ≠ famS rs y := of_decide_eq_true (List.all_eq_true.mp (List.all_eq_true.mp far28_ok rs h) y hy)
theorem near_own {rs : List Str} (r : Rq) : nearF rs { r with fr := r.fr ++ [(r.last.1, r.last.2.1)] } = nearF rs r := by
  unfold nearF
  have e : ({ r with fr := r.fr ++ [(r.last.1, r.last.2.1)] } : Rq).places = r.places ++ [(r.last.1, r.last.2.1)] := by
    unfold Rq.places
    simp
  rw [e, List.all_append]
  show ((r.places.all fun x => decide (siteS rs x = ownF rs r)) && (decide (siteS rs (r.last.1, r.last.2.1) = ownF rs r) && true)) = _
  rw [show siteS rs (r.last.1, r.last.2.1) = ownF rs r from rfl]
  simp
theorem tells_own {rs : List Str} {r : Rq} (h : r.fr ≠ []) : Tells rs r { r with fr := r.fr ++ [(r.last.1, r.last.2.1)] } := by
  refine ⟨near_own r, ?_, ?_⟩
  · unfold laxF
    rw [near_own r]
    show (nearF rs r || (decide (r.fr ++ [(r.last.1, r.last.2.1)] = []) && r.rd)) = _
    simp [h]
  · unfold partF
    refine Prod.ext ?_ ?_
    · show ((r.fr ++ [(r.last.1, r.last.2.1)]).map (siteS rs)).headD (ownF rs r) = (r.fr.map (siteS rs)).headD (ownF rs r)
      cases e : r.fr with
      | nil => exact absurd e h
      | cons x t => rfl
    · show (((r.fr ++ [(r.last.1, r.last.2.1)]).map (siteS rs)).any fun x => decide (x ≠ ownF rs r)) = (r.fr.map (siteS rs)).any fun x => decide (x ≠ ownF rs r)
      rw [List.map_append, List.any_append]
      show ((r.fr.map (siteS rs)).any (fun x => decide (x ≠ ownF rs r)) || (decide (siteS rs (r.last.1, r.last.2.1) ≠ ownF rs r) || false)) = _
      rw [show siteS rs (r.last.1, r.last.2.1) = ownF rs r from rfl]
      simp
theorem far_told {rs : List Str} {r : Rq} {x : Str × Str} (h : siteS rs x ≠ ownF rs r) : nearF rs { r with fr := r.fr ++ [x] } = false ∧ laxF rs { r with fr := r.fr ++ [x] } = false ∧ (partF rs { r with fr := r.fr ++ [x] }).2 = true := by
  have hn : nearF rs { r with fr := r.fr ++ [x] } = false := by
    cases e : nearF rs { r with fr := r.fr ++ [x] } with
    | false => rfl
    | true =>
      unfold nearF at e
      rw [List.all_eq_true] at e
      exact absurd (of_decide_eq_true (e x (by unfold Rq.places; simp))) h
  refine ⟨hn, ?_, ?_⟩
  · unfold laxF
    rw [hn]
    simp
  · unfold partF
    show (((r.fr ++ [x]).map (siteS rs)).any fun y => decide (y ≠ ownF rs r)) = true
    rw [List.any_eq_true]
    exact ⟨siteS rs x, by simp, decide_eq_true h⟩
theorem givF_add {K : PySem.W.Frag} {σ : L2.St} {H : Hp} {i j : Nat} {b o : Addr} {x : Str × Str} {r : Rq} (h1 : σ[i]? = some (some (.ref b))) (h2 : σ[j]? = some (some (.ref o))) (hA : AskAt H b r) (ho : H o = some (.tup (orV x))) (hl : r.fr.length ≤ 6) :
    GivF σ H (tOp (rCatA K) (tDGet (tVar i) (tC (.str "frames"))) (tTup (tCons (tVar j) tNil))) (r.fr ++ [x]) := fun H1 Q s q => by
  obtain ⟨pc, pf, vs, mb, _, _, ⟨fs, mf, tf⟩⟩ := hA.same s
  have lf : fs.length = r.fr.length := by rw [tf.len, List.length_map]
  refine ⟨_, h1, b, _, rfl, valK mb (ask_frames ..), _, h2, by show 1 ≤ sizeLine; decide, fun N hN => ?_⟩
  have sN := Same.new (o := HO.tup [V.ref o]) hN
  refine ⟨pf, N, _, _, rfl, rfl, SqT.of (sN _ _ mf), SqT.of upd_same, Nat.le_trans (by rw [List.length_map, lf]; show r.fr.length + 1 ≤ 7; omega) (by decide), fun e => ?_, fun _ e => absurd e (by simp), fun _ _ M hM => ?_⟩
  · have e0 : r.fr = [] := by
      have := congrArg List.length e
      rw [List.length_map, lf] at this
      exact List.eq_nil_of_length_eq_zero this
    refine q N _ sN ?_
    rw [e0]
    exact ⟨[o], upd_same, TupsAt.one ((s.trans sN) _ _ ho)⟩
  · have sM := Same.new (o := HO.tup (fs.map V.ref ++ [V.ref o])) hM
    refine q M _ (sN.trans sM) ⟨fs ++ [o], by rw [upd_same, List.map_append]; rfl, ?_⟩
    rw [List.map_append]
    exact (tf.same (sN.trans sM)).app (TupsAt.one ((s.trans (sN.trans sM)) _ _ ho))
def sp__law_frames_right (K : PySem.W.Frag) (mg : Str → Option Value) : Sp := fun vs H Q _ => ∃ (p a : Addr) (rs : List Str) (r : Rq), vs = [.ref p, .ref a] ∧ H p = some (.tup (rs.map V.str)) ∧ rs ∈ rules27 ∧ AskAt H a r ∧ AskOk r ∧ ∀ H', Same H H' → Q (.bl true) H'
theorem GAt.ext {H H' : Hp} {d g : Addr} {n : Nat} (h : GAt H d g n) (e : LamX.ExtN H H') : GAt H' d g n := by
  obtain ⟨ne, gs, x, t, h1, h2, h3⟩ := h
  exact ⟨ne, gs, x, t, e _ _ h1 (fun ps z => by cases z), e _ _ h2 (fun ps z => by cases z), h3⟩
theorem TabS.kd {H H' : Hp} {P d g : Addr} {q : Str} {n : Nat} (t : LamX.TabS H P q) (k : KeepD d g H H') (D : GAt H d g n) : LamX.TabS H' P q := by
  obtain ⟨ps, h1, h2, h3⟩ := t
  obtain ⟨ne, gs, x, tt, e1, e2, _⟩ := D
  refine ⟨ps, k _ _ h1 (fun z => by rw [z, e1] at h1; cases h1) (fun z => by rw [z, e2] at h1; cases h1), h2, fun pos cv hc => ?_⟩
  obtain ⟨c, f1, f2⟩ := h3 pos cv hc
  exact ⟨c, f1, k _ _ f2 (fun z => by rw [z, e1] at f2; unfold LamX.CodeO at f2; cases f2) (fun z => by rw [z, e2] at f2; unfold LamX.CodeO at f2; cases f2)⟩
def sp_law (K : PySem.W.Frag) (Tb : Addr) : Sp := fun vs H Q _ => ∃ (a : Addr) (ns : List Int), vs = [.ref a] ∧ SqL K H a (ns.map V.int) ∧ ns.length ≤ 63 ∧ LamX.TabS H Tb qMv ∧ ∀ H', Q (.bl true) H'
section
variable {P : Program} {w : World} {K : PySem.W.Frag} {mg : Str → Option Value} {base : Heap}
theorem ok__law_begun (T : Txt K mg) : Cal P w K mg base CX0 1 "_law_begun" ["script"] (sp__law_begun K) := by
  refine T.d__law_begun.ok0 sc__law_begun (fun vs H Q E h => ?_) (fun f cdv A outer s H vs Q E hr h => ?_)
  · first | (obtain ⟨_, rfl, _⟩ := h; rfl) | (obtain ⟨_, _, rfl, _⟩ := h; rfl) | (obtain ⟨_, _, _, rfl, _⟩ := h; rfl) | (obtain ⟨_, _, _, _, rfl, _⟩ := h; rfl) | (obtain ⟨_, _, _, _, _, rfl, _⟩ := h; rfl) | (obtain ⟨_, _, _, _, _, _, rfl, _⟩ := h; rfl) | (obtain ⟨_, _, _, _, _, _, _, rfl, _⟩ := h; rfl) | (obtain ⟨_, _, _, _, _, _, _, _, rfl, _⟩ := h; rfl) | (obtain ⟨_, _, _, _, _, _, _, _, _, rfl, _⟩ := h; rfl) | (obtain ⟨_, _, _, _, _, _, _, _, _, _, rfl, _⟩ := h; rfl) | (obtain ⟨_, _, _, _, _, _, _, _, _, _, _, rfl, _⟩ := h; rfl) | (obtain ⟨_, _, _, _, _, _, _, _, _, _, _, _, rfl, _⟩ := h; rfl)
  · refine ⟨_, (pss_cons (ps_set (i := 1) sc__law_begun.nd rfl (by first | exact Or.inl rfl | exact Or.inr rfl) (pe_op op_add pe_int (pe_op op_mul pe_int (pe_callB call_len_seq (by rfl) T.b_len (by decide +kernel) (pa_cons (pv 0) pa_nil)))))
      (pss_cons (ps_for PassesOwn.never rfl (pi_enum (by rfl) T.b_enumerate (pa_cons (pv 0) pa_nil)) (pg_tup rfl (pgs_cons (pg_name (i := 2) sc__law_begun.nd rfl (by first | exact Or.inl rfl | exact Or.inr rfl)) (pgs_cons (pg_name (i := 3) sc__law_begun.nd rfl (by first | exact Or.inl rfl | exact Or.inr rfl)) pgs_nil)))
      (pss_one (ps_set (i := 1) sc__law_begun.nd rfl (by first | exact Or.inl rfl | exact Or.inr rfl) (pe_op op_mod (pe_callTy call_int1 (by rfl) T.b_int (by decide +kernel) (pa_cons (pe_op op_add (pe_op op_add (pe_op op_mul (pv 1) pe_int) (pv 3)) (pe_op op_mul pe_int (pv 2))) pa_nil)) pe_int))))
      (pss_one (ps_ret (pe_disp (pps_cons pe_str (pv 1) (pps_cons pe_str (pe_lc (own := [(("cell" : Str), 3)]) rfl sc__law_begun.nd (pi_list (pv 0)) (blkOk_by (N := ["script", "blend", "k", "cell"]) (sc := defScope s__law_begun) (by decide +kernel)) (fun _ _ _ _ _ => (pg_name (i := 3) sc__law_begun.nd rfl (by first | exact Or.inl rfl | exact Or.inr rfl))) (fun _ _ _ _ _ => (pts_one (pt_cmpR (op_ge) (pv 3) (pe_op op_pow pe_int pe_int) (nomark _)))) (fun _ _ _ _ _ => (pv 3))) (pps_cons pe_str pe_int pps_nil))) rfl rfl (by simp) (by decide)))))), ?_⟩
    obtain ⟨a, ns, rfl, hS, hl, hQ⟩ := h
    refine ⟨_, rfl, a, _, rfl, .inl hS, _, _, rfl, rfl, .inl ⟨by decide, by decide⟩, _, _, rfl, rfl, ?_⟩
    refine ⟨_, rfl, a, _, rfl, hS, for_enum (K := K) (a := a) (xs := ns.map V.int) (fun i σ H1 => ∃ (st : Int) (u v : Option V), σ = [some (.ref a), some (.int st), u, v] ∧ Same H H1 ∧ 0 ≤ st ∧ st < 2305843009213693951) ⟨_, none, none, rfl, fun _ _ e => e, by rw [List.length_map]; omega, by rw [List.length_map]; omega⟩ (fun i σ H1 _ ⟨_, _, _, _, s, _⟩ => s.seq hS) ?_ ?_⟩
    · rintro i x T σ H1 hi ⟨st, u, v, rfl, s1, b0, b1⟩ hT
      obtain ⟨z, hz, rfl⟩ := List.mem_map.mp (List.mem_of_getElem? hi)
      have hi3 : i < ns.length := by
        have := (List.getElem?_eq_some_iff.mp hi).1
        rw [List.length_map] at this
        omega
      refine ⟨T, _, rfl, SqT.of upd_same, rfl, _, _, rfl, _, _, rfl, rfl, _, rfl, _, _, rfl, rfl, .inr ⟨by decide, by decide⟩, _, rfl, _, _, rfl, rfl, _, rfl, _, _, rfl, rfl, .inl ⟨by decide, by decide⟩, _, _, rfl, rfl, .inl ⟨_, rfl, _, _, rfl, rfl, by show (0 : Int) < 2305843009213693951; decide, ?_⟩⟩
      exact ⟨_, _, _, rfl, s1.trans (Same.new hT), Int.emod_nonneg _ (by decide), Int.emod_lt_of_pos _ (by decide)⟩
    · rintro σ H1 ⟨st, u, v, rfl, s1, b0, b1⟩
      intro p hp
      refine ⟨_, rfl, ?_⟩
      have sp := Same.new (o := HO.dK []) hp
      refine ⟨_, rfl, a, rfl, ⟨_, (s1.trans sp).seq hS⟩, fun D hD => lc_list (K := K) (a := a) (xs := ns.map V.int) (fun i H2 => ∃ gs : List Int, H2 D = some (.lst (gs.map V.int)) ∧ gs.length ≤ i ∧ (∀ x ∈ gs, 0 ≤ x) ∧ Same (upd H1 p (.dK [])) H2) ⟨[], upd_same, Nat.le_refl _, by simp, Same.new hD⟩ (fun i H2 _ ⟨_, _, _, _, s⟩ => ((s1.trans sp).trans s).seq hS) ?_ ?_⟩
      · rintro i x H2 hi ⟨gs, mD, hgl, hg0, s2⟩
        obtain ⟨z, hz, rfl⟩ := List.mem_map.mp (List.mem_of_getElem? hi)
        have hi3 : i < ns.length := by
          have := (List.getElem?_eq_some_iff.mp hi).1
          rw [List.length_map] at this
          omega
        refine ⟨rfl, _, rfl, _, _, rfl, rfl, ⟨by decide, by decide, by decide⟩, _, _, rfl, rfl, _, rfl, iteB (fun hb => ?_) (fun hb => ?_)⟩
        · have hc : (10 : Int) ^ (18 : Int).toNat ≤ z := of_decide_eq_true hb
          have h0 : (0 : Int) ≤ (10 : Int) ^ (18 : Int).toNat := by decide
          refine ⟨_, rfl, _, mD, Nat.lt_of_le_of_lt (by rw [List.length_map]; omega : _ ≤ 100) (by decide), gs ++ [z], by rw [upd_same, List.map_append]; rfl, by rw [List.length_append]; show _ + 1 ≤ _; omega, fun x hx => ?_, Same.put s2 hD⟩
          rcases List.mem_append.mp hx with q | q
          · exact hg0 x q
          · rw [List.mem_singleton.mp q]; omega
        · exact ⟨gs, mD, by omega, hg0, s2⟩
      · rintro H2 ⟨gs, mD, hgl, hg0, s2⟩
        have hn : D ≠ p := fun e => by rw [e, upd_same] at hD; cases hD
        refine ⟨s2 _ _ upd_same, gkv st D 0, rfl, by show 3 ≤ 15; decide, hQ p D _ ?_ ⟨hn, gs, st, 0, by rw [upd_same, gkv_merge], (upd_ne hn).trans mD, by rw [List.length_map] at hgl; omega, hg0, b0, b1, by decide, by decide⟩⟩
        exact s1.trans (Same.put (sp.trans s2) hp)
theorem ok__law_next (T : Txt K mg) : Cal P w K mg base CX0 1 "_law_next" ["draw", "below"] (sp__law_next K) := by
  refine T.d__law_next.ok0 sc__law_next (fun vs H Q E h => ?_) (fun f cdv A outer s H vs Q E hr h => ?_)
  · first | (obtain ⟨_, rfl, _⟩ := h; rfl) | (obtain ⟨_, _, rfl, _⟩ := h; rfl) | (obtain ⟨_, _, _, rfl, _⟩ := h; rfl) | (obtain ⟨_, _, _, _, rfl, _⟩ := h; rfl) | (obtain ⟨_, _, _, _, _, rfl, _⟩ := h; rfl) | (obtain ⟨_, _, _, _, _, _, rfl, _⟩ := h; rfl) | (obtain ⟨_, _, _, _, _, _, _, rfl, _⟩ := h; rfl) | (obtain ⟨_, _, _, _, _, _, _, _, rfl, _⟩ := h; rfl) | (obtain ⟨_, _, _, _, _, _, _, _, _, rfl, _⟩ := h; rfl) | (obtain ⟨_, _, _, _, _, _, _, _, _, _, rfl, _⟩ := h; rfl) | (obtain ⟨_, _, _, _, _, _, _, _, _, _, _, rfl, _⟩ := h; rfl) | (obtain ⟨_, _, _, _, _, _, _, _, _, _, _, _, rfl, _⟩ := h; rfl)
  · have hu := hu_of hr
    refine ⟨_, (pss_cons (ps_asg (pe_tup (pa_cons (pe_op op_add (pe_dget hu (pv 0) pe_str (fun _ _ => rfl)) pe_int) (pa_cons (pe_dget hu (pv 0) pe_str (fun _ _ => rfl)) pa_nil))) (pg_tup rfl (pgs_cons (pg_sub (pv 0) pe_str (set_dict hu )) (pgs_cons (pg_name (i := 2) sc__law_next.nd rfl (by first | exact Or.inl rfl | exact Or.inr rfl)) pgs_nil))))
      (pss_cons (ps_set (i := 3) sc__law_next.nd rfl (by first | exact Or.inl rfl | exact Or.inr rfl) (pe_op op_mod (pe_callTy call_int1 (by rfl) T.b_int (by decide +kernel) (pa_cons (pe_dget hu (pv 0) pe_str (fun _ _ => rfl)) pa_nil)) (pe_callB (call_max2 rfl) (by rfl) T.b_max (by decide +kernel) (pa_cons pe_int (pa_cons (pe_callB call_len_seq (by rfl) T.b_len (by decide +kernel) (pa_cons (pv 2) pa_nil)) pa_nil)))))
      (Evl.pss_cut (ps_if (PW.pt (pw_and (pt_cmpR (op_neD hr.units) (pv 2) (pe_lst pa_nil) (nomark _)) (pw_and1 (pt_cmpR (op_gt) (pe_ix ix_list (pv 2) (pv 3) (fun _ _ => rfl)) pe_int (nomark _)))))
      (pss_cons (ps_set (i := 4) sc__law_next.nd rfl (by first | exact Or.inl rfl | exact Or.inr rfl) (pe_op op_mod (pe_callTy call_int1 (by rfl) T.b_int (by decide +kernel) (pa_cons (pe_ix ix_list (pv 2) (pv 3) (fun _ _ => rfl)) pa_nil)) (pv 1)))
      (pss_cons (ps_asg (pe_op op_fdivW (pe_ix ix_list (pv 2) (pv 3) (fun _ _ => rfl)) (pv 1)) (pg_sub (pv 2) (pv 3) set_list))
      (pss_one (ps_ret (pv 4)))))
      pss_nil)
      (pss_cons (ps_set (i := 5) sc__law_next.nd rfl (by first | exact Or.inl rfl | exact Or.inr rfl) (pe_op op_add (pe_op op_add (pe_op op_mul (pe_dget hu (pv 0) pe_str (fun _ _ => rfl)) pe_int) (pe_op op_mul pe_int (pe_dget hu (pv 0) pe_str (fun _ _ => rfl)))) pe_int))
      (pss_cons (ps_dput hu (pv 0) pe_str (pe_op op_mod (pe_callTy call_int1 (by rfl) T.b_int (by decide +kernel) (pa_cons (pv 5) pa_nil)) pe_int) rfl)
      (pss_one (ps_ret (pe_op op_mod (pe_callTy call_int1 (by rfl) T.b_int (by decide +kernel) (pa_cons (pe_op op_fdivW (pe_dget hu (pv 0) pe_str (fun _ _ => rfl)) pe_int) pa_nil)) (pv 1))))))))), ?_⟩
    obtain ⟨d, g, b, n, rfl, b0, b1, ⟨ne, gs, m, t, h1, h2, h3, h4, h5, h6, h7, h8⟩, hQ⟩ := h
    refine ⟨_, rfl, d, _, rfl, gget_turn h1, _, _, rfl, rfl, _, rfl, d, _, rfl, gget_great h1, by show 2 ≤ sizeLine; decide, fun T hT => ?_⟩
    have sT := Same.new (o := HO.tup [V.int (t+1), V.ref g]) hT
    refine ⟨T, _, rfl, SqT.of upd_same, rfl, _, _, rfl, _, rfl, d, _, rfl, gput_turn (t+1) (sT _ _ h1), _, _, rfl, rfl, ?_⟩
    have e1 : (upd (upd H T (HO.tup [V.int (t+1), V.ref g])) d (HO.dK (gkv m g (t+1)))) d = some (HO.dK (gkv m g (t+1))) := upd_same
    have e2 : (upd (upd H T (HO.tup [V.int (t+1), V.ref g])) d (HO.dK (gkv m g (t+1)))) g = some (HO.lst (gs.map V.int)) := (upd_ne ne).trans (sT _ _ h2)
    have k1 : KeepD d g H (upd (upd H T (HO.tup [V.int (t+1), V.ref g])) d (HO.dK (gkv m g (t+1)))) := (Same.keepD sT).updD
    generalize upd (upd H T (HO.tup [V.int (t+1), V.ref g])) d (HO.dK (gkv m g (t+1))) = H1 at e1 e2 k1 ⊢
    refine ⟨_, rfl, d, _, rfl, gget_turn e1, .inl ⟨_, rfl, _, rfl, g, _, rfl, .inl (SqL.of e2), _, _, rfl, _, _, rfl, rfl, ?_⟩⟩
    have hM : ∃ M : Nat, (if ((gs.map V.int).length : Int) > 1 then ((gs.map V.int).length : Int) else 1) = (M : Int) ∧ 0 < M ∧ (gs ≠ [] → M = gs.length) := by
      rw [List.length_map]
      rcases gs with _ | ⟨x, _ | ⟨y, zs⟩⟩
      · exact ⟨1, rfl, by decide, fun h => absurd rfl h⟩
      · exact ⟨1, rfl, by decide, fun _ => rfl⟩
      · refine ⟨(x :: y :: zs).length, if_pos ?_, Nat.succ_pos _, fun _ => rfl⟩
        show (((zs.length + 1 + 1 : Nat) : Int)) > 1; omega
    obtain ⟨M, eM, hM0, hM1⟩ := hM
    rw [eM]
    refine ⟨by show (0 : Int) < (M : Int); omega, ?_⟩
    have r0 : 0 ≤ (t + 1) % (M : Int) := Int.emod_nonneg _ (by omega)
    have r1 : (t + 1) % (M : Int) < (M : Int) := Int.emod_lt_of_pos _ (by omega)
    obtain ⟨k, ek⟩ : ∃ k : Nat, (t + 1) % (M : Int) = (k : Int) := ⟨((t + 1) % (M : Int)).toNat, by omega⟩
    show gName 3 (V.int ((t + 1) % (M : Int))) _ _ _
    rw [ek] at r0 r1 ⊢
    refine ⟨fun σ' H' => σ' = [some (.ref d), some (.int b), some (.ref g), some (.int (k : Int)), none, none] ∧ KeepD d g H H' ∧ H' d = some (.dK (gkv m g (t+1))) ∧ H' g = some (.lst (gs.map V.int)), ?_, ?_⟩
    · refine ⟨_, rfl, giv_lst giv_nil (by decide) fun p hp => ?_⟩
      have sp := Same.new (o := HO.lst []) hp
      refine ⟨_, _, .lst (SqL.of (sp _ _ e2)) (dpAll_intsG gs), .lst (SqL.of upd_same) .nil, shaped_list fun q hq => (by obtain ⟨n, _, rfl⟩ := List.mem_map.mp hq; exact ⟨rfl, by show (0 : Nat) ≤ 60; decide⟩), rfl, _, rfl, ?_⟩
      rcases gs with _ | ⟨x0, gt⟩
      · exact ⟨rfl, k1.same sp, sp _ _ e1, sp _ _ e2⟩
      have eM : M = (x0 :: gt).length := hM1 (by simp)
      rw [show (!(PyData.list (List.map PyData.int (x0 :: gt))).eqv (PyData.list [])) = true by simp [PyData.eqv, PyData.eqvAll]]
      refine iteT ?_
      have hk : k < (x0 :: gt).length := by omega
      have e3 := sp _ _ e1
      have e4 := sp _ _ e2
      have k3 := k1.same sp
      generalize upd H1 p (HO.lst []) = H2 at e3 e4 k3 ⊢
      have ha : atI ((x0 :: gt).map V.int) (k : Int) = some (.int ((x0 :: gt)[k])) := atI_nat (by rw [List.getElem?_map, List.getElem?_eq_getElem hk]; rfl)
      have hx : 0 ≤ (x0 :: gt)[k] := h4 _ (List.getElem_mem hk)
      refine ⟨_, rfl, _, rfl, g, _, _, _, rfl, rfl, SqL.of e4, ha, _, _, rfl, rfl, _, rfl, ?_⟩
      refine iteB (fun hb => ?_) (fun hb => ?_)
      · refine ⟨_, rfl, _, rfl, g, _, _, _, rfl, rfl, SqL.of e4, ha, .inl ⟨_, rfl, _, rfl, _, _, rfl, rfl, b0, ?_⟩⟩
        refine ⟨_, rfl, _, rfl, g, _, _, _, rfl, rfl, SqL.of e4, ha, _, rfl, _, _, rfl, rfl, wide_div (b := 40) b0 (by omega) (by decide) (by decide), _, rfl, _, rfl, g, _, _, k, rfl, rfl, e4, ?_, ?_⟩
        · exact ixN_nat (by rw [List.length_map]; exact hk)
        · refine ⟨_, rfl, hQ _ _ (Int.emod_nonneg _ (by omega)) (Int.emod_lt_of_pos _ b0) k3.updG ⟨ne, (x0 :: gt).set k ((x0 :: gt)[k] / b), m, t + 1, (upd_ne ne.symm).trans e3, by rw [upd_same, List.map_set], by rw [List.length_set]; exact h3, fun x hm => ?_, h5, h6, by omega, by omega⟩⟩
          rcases List.mem_or_eq_of_mem_set hm with q | q
          · exact h4 x q
          · rw [q]; exact Int.ediv_nonneg hx (by omega)
      · exact ⟨rfl, k3, e3, e4⟩
    · rintro σ' H2 ⟨rfl, k2, e3, e4⟩
      refine ⟨_, rfl, d, _, rfl, gget_mixed e3, _, _, rfl, rfl, .inl ⟨by omega, by omega⟩, _, rfl, d, _, rfl, gget_turn e3, _, _, rfl, rfl, .inl ⟨by decide, by decide⟩, _, _, rfl, rfl, _, _, rfl, rfl, ?_⟩
      generalize m * 6364136223846793 + 1442695040888963 * (t + 1) = s0
      refine ⟨_, rfl, .inl ⟨_, rfl, _, _, rfl, rfl, by show (0 : Int) < 2305843009213693951; decide, ?_⟩⟩
      refine ⟨_, rfl, _, _, rfl, gput_mixed _ e3, ?_⟩
      have e5 : (upd H2 d (HO.dK (gkv ((s0 + 11) % 2305843009213693951) g (t+1)))) d = some (HO.dK (gkv ((s0 + 11) % 2305843009213693951) g (t+1))) := upd_same
      have m0 : 0 ≤ (s0 + 11) % 2305843009213693951 := Int.emod_nonneg _ (by decide)
      have m1 : (s0 + 11) % 2305843009213693951 < 2305843009213693951 := Int.emod_lt_of_pos _ (by decide)
      refine ⟨_, rfl, d, _, rfl, gget_mixed e5, _, _, rfl, rfl, wide_div (b := 40) (by decide) (by decide) (by decide) (by decide), .inl ⟨_, rfl, _, rfl, _, _, rfl, rfl, b0, ?_⟩⟩
      exact hQ _ _ (Int.emod_nonneg _ (by omega)) (Int.emod_lt_of_pos _ b0) k2.updD ⟨ne, gs, _, t + 1, e5, (upd_ne ne).trans e4, h3, h4, m0, m1, by omega, by omega⟩
theorem ok__law_pick (T : Txt K mg) : Cal P w K mg base CX0 2 "_law_pick" ["draw", "some"] (sp__law_pick K) := by
  refine T.d__law_pick.ok0 sc__law_pick (fun vs H Q E h => ?_) (fun f cdv A outer s H vs Q E hr h => ?_)
  · first | (obtain ⟨_, rfl, _⟩ := h; rfl) | (obtain ⟨_, _, rfl, _⟩ := h; rfl) | (obtain ⟨_, _, _, rfl, _⟩ := h; rfl) | (obtain ⟨_, _, _, _, rfl, _⟩ := h; rfl) | (obtain ⟨_, _, _, _, _, rfl, _⟩ := h; rfl) | (obtain ⟨_, _, _, _, _, _, rfl, _⟩ := h; rfl) | (obtain ⟨_, _, _, _, _, _, _, rfl, _⟩ := h; rfl) | (obtain ⟨_, _, _, _, _, _, _, _, rfl, _⟩ := h; rfl) | (obtain ⟨_, _, _, _, _, _, _, _, _, rfl, _⟩ := h; rfl) | (obtain ⟨_, _, _, _, _, _, _, _, _, _, rfl, _⟩ := h; rfl) | (obtain ⟨_, _, _, _, _, _, _, _, _, _, _, rfl, _⟩ := h; rfl) | (obtain ⟨_, _, _, _, _, _, _, _, _, _, _, _, rfl, _⟩ := h; rfl)
  · refine ⟨_, (pss_one (ps_ret (pe_ix ix_list (pv 1) (pe_c (ok__law_next T) hr (by decide) (by rfl) pass0 (pa_cons (pv 0) (pa_cons (pe_callB call_len_seq (by rfl) T.b_len (by decide +kernel) (pa_cons (pv 1) pa_nil)) pa_nil))) (fun _ _ => rfl)))), ?_⟩
    obtain ⟨d, g, p, xs, n, rfl, mp, pg, h0, hl, D, hQ⟩ := h
    have hl1 : (xs.length : Int) < 1000000000 := by omega
    refine ⟨_, rfl, _, rfl, _, rfl, p, _, rfl, .inl (SqL.of mp), ?_⟩
    refine ⟨d, g, (xs.length : Int), n, rfl, by omega, hl1, D, fun r H1 h0 h1 k1 D1 => ?_⟩
    obtain ⟨m, rfl⟩ : ∃ m : Nat, r = m := ⟨r.toNat, by omega⟩
    have hm : m < xs.length := by omega
    have pd : p ≠ d := fun z => by obtain ⟨_, _, _, _, e, _⟩ := D; rw [z, e] at mp; cases mp
    exact ⟨p, xs, m, xs[m], rfl, rfl, SqL.of (k1 _ _ mp pd pg), atI_nat (List.getElem?_eq_getElem hm), hQ m _ H1 (List.getElem?_eq_getElem hm) k1 D1⟩
theorem ok__law_rules (T : Txt K mg) : Cal P w K mg base CX0 3 "_law_rules" ["draw"] sp__law_rules := by
  refine T.d__law_rules.ok0 sc__law_rules (fun vs H Q E h => ?_) (fun f cdv A outer s H vs Q E hr h => ?_)
  · first | (obtain ⟨_, rfl, _⟩ := h; rfl) | (obtain ⟨_, _, rfl, _⟩ := h; rfl) | (obtain ⟨_, _, _, rfl, _⟩ := h; rfl) | (obtain ⟨_, _, _, _, rfl, _⟩ := h; rfl) | (obtain ⟨_, _, _, _, _, rfl, _⟩ := h; rfl) | (obtain ⟨_, _, _, _, _, _, rfl, _⟩ := h; rfl) | (obtain ⟨_, _, _, _, _, _, _, rfl, _⟩ := h; rfl) | (obtain ⟨_, _, _, _, _, _, _, _, rfl, _⟩ := h; rfl) | (obtain ⟨_, _, _, _, _, _, _, _, _, rfl, _⟩ := h; rfl) | (obtain ⟨_, _, _, _, _, _, _, _, _, _, rfl, _⟩ := h; rfl) | (obtain ⟨_, _, _, _, _, _, _, _, _, _, _, rfl, _⟩ := h; rfl) | (obtain ⟨_, _, _, _, _, _, _, _, _, _, _, _, rfl, _⟩ := h; rfl)
  · refine ⟨_, (pss_cons (ps_set (i := 1) sc__law_rules.nd rfl (by first | exact Or.inl rfl | exact Or.inr rfl) (pe_lst (pa_cons (pe_tup pa_nil) (pa_cons (pe_tup (pa_cons pe_str pa_nil)) (pa_cons (pe_tup (pa_cons pe_str (pa_cons pe_str (pa_cons pe_str pa_nil)))) (pa_cons (pe_tup (pa_cons pe_str (pa_cons pe_str (pa_cons pe_str pa_nil)))) (pa_cons (pe_tup (pa_cons pe_str (pa_cons pe_str (pa_cons pe_str pa_nil)))) pa_nil)))))))
      (pss_one (ps_ret (pe_c (ok__law_pick T) hr (by decide) (by rfl) pass0 (pa_cons (pv 0) (pa_cons (pe_op op_cat (pv 1) (pe_lst (pa_cons (pe_tup (pa_cons pe_str (pa_cons pe_str pa_nil))) (pa_cons (pe_tup (pa_cons pe_str pa_nil)) (pa_cons (pe_tup (pa_cons pe_str (pa_cons pe_str pa_nil))) pa_nil))))) pa_nil)))))), ?_⟩
    obtain ⟨d, g, n, rfl, D, hQ⟩ := h
    refine seq_asg ?_
    refine rows_lst (L := (rules27.take 5).map fun r => r.map V.str) (rows_cons giv_nil (rows_cons (giv_cons giv_c giv_nil) (rows_cons (giv_cons giv_c (giv_cons giv_c (giv_cons giv_c giv_nil))) (rows_cons (giv_cons giv_c (giv_cons giv_c (giv_cons giv_c giv_nil))) (rows_cons (giv_cons giv_c (giv_cons giv_c (giv_cons giv_c giv_nil))) rows_nil))))) (by decide) fun p1 qs1 H1 s1 t1 m1 _ => ?_
    refine ⟨_, rfl, ?_⟩
    refine rows_cat (L := (rules27.drop 5).map fun r => r.map V.str) (rows_cons (giv_cons giv_c (giv_cons giv_c giv_nil)) (rows_cons (giv_cons giv_c giv_nil) (rows_cons (giv_cons giv_c (giv_cons giv_c giv_nil)) rows_nil))) (fun Q' q' => ⟨_, rfl, q'⟩) m1 t1 (by decide) (by decide) fun p qs H2 s2 t2 m2 n2 => ?_
    have s12 := s1.trans s2
    have hl : qs.length = 8 := by rw [t2.len]; rfl
    refine ⟨d, g, p, _, n, rfl, m2, ((D.same s1).new n2).2, by rw [List.length_map, hl]; decide, by rw [List.length_map, hl]; decide, D.same s12, fun i x H3 hi k3 D3 => ?_⟩
    obtain ⟨q, c, rfl, hc, mq⟩ := t2.get hi
    have e : (rules27.take 5).map (fun r => r.map V.str) ++ (rules27.drop 5).map (fun r => r.map V.str) = rules27.map fun r => r.map V.str := by rw [← List.map_append, List.take_append_drop]
    rw [e, List.getElem?_map] at hc
    obtain ⟨rs, hrs, rfl⟩ := Option.map_eq_some_iff.mp hc
    have D2 := D.same s12
    exact hQ q rs H3 (List.mem_of_getElem? hrs) (Same.thenD s12 k3) D3 (k3 _ _ mq (D2.tup mq).1 (D2.tup mq).2)
theorem ok__law_hosts (T : Txt K mg) : Cal P w K mg base CX0 1 "_law_hosts" [] sp__law_hosts := by
  refine T.d__law_hosts.ok0 sc__law_hosts (fun vs H Q E h => ?_) (fun f cdv A outer s H vs Q E hr h => ?_)
  · obtain ⟨rfl, _⟩ := h; rfl
  · refine ⟨_, (pss_cons (ps_set (i := 0) sc__law_hosts.nd rfl (by first | exact Or.inl rfl | exact Or.inr rfl) (pe_lst (pa_cons pe_str (pa_cons pe_str (pa_cons pe_str (pa_cons pe_str (pa_cons pe_str (pa_cons pe_str (pa_cons pe_str (pa_cons pe_str (pa_cons pe_str pa_nil)))))))))))
      (pss_cons (ps_set (i := 0) sc__law_hosts.nd rfl (by first | exact Or.inl rfl | exact Or.inr rfl) (pe_op op_cat (pv 0) (pe_lst (pa_cons pe_str (pa_cons pe_str (pa_cons pe_str (pa_cons pe_str (pa_cons pe_str (pa_cons pe_str (pa_cons pe_str pa_nil))))))))))
      (pss_one (ps_ret (pe_op op_cat (pv 0) (pe_lst (pa_cons pe_str (pa_cons pe_str (pa_cons pe_str pa_nil))))))))), ?_⟩
    obtain ⟨rfl, hQ⟩ := h
    refine seq_asg ?_
    refine giv_lst (vs := (hosts27.take 9).map V.str) (giv_cons giv_c (giv_cons giv_c (giv_cons giv_c (giv_cons giv_c (giv_cons giv_c (giv_cons giv_c (giv_cons giv_c (giv_cons giv_c (giv_cons giv_c giv_nil))))))))) (by decide) fun p1 h1 => ?_
    try dsimp only
    refine seq_asg ?_
    refine ⟨_, rfl, ?_⟩
    refine giv_lst (vs := ((hosts27.drop 9).take 7).map V.str) (giv_cons giv_c (giv_cons giv_c (giv_cons giv_c (giv_cons giv_c (giv_cons giv_c (giv_cons giv_c (giv_cons giv_c giv_nil))))))) (by decide) fun p2 h2 => ?_
    have s1 := Same.new (o := HO.lst ((hosts27.take 9).map V.str)) h1
    have s2 := Same.new (o := HO.lst (((hosts27.drop 9).take 7).map V.str)) h2
    refine ⟨p1, p2, _, _, rfl, rfl, s2 _ _ upd_same, upd_same, by show 16 ≤ sizeLine; decide, fun p3 h3 => ?_⟩
    have s3 := Same.new (o := HO.lst ((hosts27.take 9).map V.str ++ ((hosts27.drop 9).take 7).map V.str)) h3
    refine ⟨_, rfl, ?_⟩
    refine giv_lst (vs := (hosts27.drop 16).map V.str) (giv_cons giv_c (giv_cons giv_c (giv_cons giv_c giv_nil))) (by decide) fun p4 h4 => ?_
    have s4 := Same.new (o := HO.lst ((hosts27.drop 16).map V.str)) h4
    refine ⟨p3, p4, _, _, rfl, rfl, s4 _ _ upd_same, upd_same, by show 19 ≤ sizeLine; decide, fun p5 h5 => ?_⟩
    have s5 := Same.new (o := HO.lst (((hosts27.take 9).map V.str ++ ((hosts27.drop 9).take 7).map V.str) ++ (hosts27.drop 16).map V.str)) h5
    exact hQ p5 _ ((((s1.trans s2).trans s3).trans s4).trans s5) upd_same
theorem ok__law_address (T : Txt K mg) : Cal P w K mg base CX0 3 "_law_address" ["draw", "some"] sp__law_address := by
  refine T.d__law_address.ok0 sc__law_address (fun vs H Q E h => ?_) (fun f cdv A outer s H vs Q E hr h => ?_)
  · first | (obtain ⟨_, rfl, _⟩ := h; rfl) | (obtain ⟨_, _, rfl, _⟩ := h; rfl) | (obtain ⟨_, _, _, rfl, _⟩ := h; rfl) | (obtain ⟨_, _, _, _, rfl, _⟩ := h; rfl) | (obtain ⟨_, _, _, _, _, rfl, _⟩ := h; rfl) | (obtain ⟨_, _, _, _, _, _, rfl, _⟩ := h; rfl) | (obtain ⟨_, _, _, _, _, _, _, rfl, _⟩ := h; rfl) | (obtain ⟨_, _, _, _, _, _, _, _, rfl, _⟩ := h; rfl) | (obtain ⟨_, _, _, _, _, _, _, _, _, rfl, _⟩ := h; rfl) | (obtain ⟨_, _, _, _, _, _, _, _, _, _, rfl, _⟩ := h; rfl) | (obtain ⟨_, _, _, _, _, _, _, _, _, _, _, rfl, _⟩ := h; rfl) | (obtain ⟨_, _, _, _, _, _, _, _, _, _, _, _, rfl, _⟩ := h; rfl)
  · refine ⟨_, (pss_cons (ps_set (i := 2) sc__law_address.nd rfl (by first | exact Or.inl rfl | exact Or.inr rfl) (pe_lst (pa_cons pe_str (pa_cons pe_str (pa_cons pe_str (pa_cons pe_str (pa_cons pe_str (pa_cons pe_str (pa_cons pe_str pa_nil)))))))))
      (pss_one (ps_ret (pe_tup (pa_cons (pe_c (ok__law_pick T) hr (by decide) (by rfl) pass0 (pa_cons (pv 0) (pa_cons (pe_lst (pa_cons pe_str (pa_cons pe_str pa_nil))) pa_nil))) (pa_cons (pe_c (ok__law_pick T) hr (by decide) (by rfl) pass0 (pa_cons (pv 0) (pa_cons (pv 1) pa_nil))) (pa_cons (pe_c (ok__law_pick T) hr (by decide) (by rfl) pass0 (pa_cons (pv 0) (pa_cons (pv 2) pa_nil))) pa_nil))))))), ?_⟩
    obtain ⟨d, g, p, hs, n, rfl, hp, D, hQ⟩ := h
    refine seq_asg ?_
    refine giv_lst (vs := slots27.map V.str) (giv_cons giv_c (giv_cons giv_c (giv_cons giv_c (giv_cons giv_c (giv_cons giv_c (giv_cons giv_c (giv_cons giv_c giv_nil))))))) (by decide) fun p1 hp1 => ?_
    have s1 := Same.new (o := HO.lst (slots27.map V.str)) hp1
    have m1 := upd_same (H := H) (a := p1) (o := HO.lst (slots27.map V.str))
    have D1 := D.same s1
    have n1 := D.new hp1
    generalize upd H p1 (HO.lst (slots27.map V.str)) = H1 at s1 m1 D1 ⊢
    refine pick27 (n := n + 2) rfl (giv_cons giv_c (giv_cons giv_c giv_nil)) (by decide) (by decide) D1 fun j x H2 hx k2 D2 => ?_
    obtain ⟨sc, rfl, hsc⟩ : ∃ sc : Str, x = .str sc ∧ sc ∈ schemes2 := by
      have := List.mem_of_getElem? hx
      simp only [List.mem_cons, List.not_mem_nil, or_false] at this
      rcases this with rfl | rfl <;> exact ⟨_, rfl, by decide +kernel⟩
    have hp2 := (hp.same s1).keep k2 D1
    refine ⟨_, rfl, _, rfl, d, g, p, _, n + 1, rfl, hp2.1, hp2.2.1, by rw [List.length_map]; exact hp2.2.2.1, by rw [List.length_map]; have := hp2.2.2.2.1; omega, D2, fun j3 x3 H3 hx3 k3 D3 => ?_⟩
    obtain ⟨y, hy, rfl⟩ := strAt hx3
    have hy28 := hp.2.2.2.2 y (List.mem_of_getElem? hy)
    have m3 := k3 _ _ (k2 _ _ m1 n1.1 n1.2) n1.1 n1.2
    refine ⟨_, rfl, _, rfl, d, g, p1, _, n, rfl, m3, n1.2, by decide, by decide, D3, fun j4 x4 H4 hx4 k4 D4 => ?_⟩
    obtain ⟨z, hz, rfl⟩ := strAt hx4
    refine ⟨by show 3 ≤ sizeLine; decide, fun q hq => ?_⟩
    have hz2 : pathB (tl z) = true := List.all_eq_true.mp slots27_ok z (List.mem_of_getElem? hz)
    have kk := (k2.trans k3).trans k4
    have sq := Same.new (o := HO.tup [V.str sc, V.str y, V.str z]) hq
    have nq := D4.new hq
    refine hQ q (sc, y, z) _ ⟨hsc, (host28 hy28).1, hz2⟩ hy28 ((Same.thenD s1 kk).same sq) (D4.same sq) upd_same ?_
    exact s1.free (kk.newer nq.1 nq.2 hq)
theorem ok__law_ask (T : Txt K mg) : Cal P w K mg base CX0 4 "_law_ask" ["draw", "some"] (sp__law_ask K) := by
  refine T.d__law_ask.ok0 sc__law_ask (fun vs H Q E h => ?_) (fun f cdv A outer s H vs Q E hr h => ?_)
  · first | (obtain ⟨_, rfl, _⟩ := h; rfl) | (obtain ⟨_, _, rfl, _⟩ := h; rfl) | (obtain ⟨_, _, _, rfl, _⟩ := h; rfl) | (obtain ⟨_, _, _, _, rfl, _⟩ := h; rfl) | (obtain ⟨_, _, _, _, _, rfl, _⟩ := h; rfl) | (obtain ⟨_, _, _, _, _, _, rfl, _⟩ := h; rfl) | (obtain ⟨_, _, _, _, _, _, _, rfl, _⟩ := h; rfl) | (obtain ⟨_, _, _, _, _, _, _, _, rfl, _⟩ := h; rfl) | (obtain ⟨_, _, _, _, _, _, _, _, _, rfl, _⟩ := h; rfl) | (obtain ⟨_, _, _, _, _, _, _, _, _, _, rfl, _⟩ := h; rfl) | (obtain ⟨_, _, _, _, _, _, _, _, _, _, _, rfl, _⟩ := h; rfl) | (obtain ⟨_, _, _, _, _, _, _, _, _, _, _, _, rfl, _⟩ := h; rfl)
  · have hu := hu_of hr
    refine ⟨_, (pss_cons (ps_set (i := 2) sc__law_ask.nd rfl (by first | exact Or.inl rfl | exact Or.inr rfl) (pe_disp (pps_cons pe_str (pe_callTy call_tuple_of (by rfl) T.b_tuple (by decide +kernel) (pa_cons (pe_lc (own := [(("k" : Str), 4)]) rfl sc__law_ask.nd (pi_range1 (by rfl) T.b_range (pa_cons (pe_op op_add pe_int (pe_op op_mul (pe_c (ok__law_next T) hr (by decide) (by rfl) pass0 (pa_cons (pv 0) (pa_cons pe_int pa_nil))) (pe_c (ok__law_next T) hr (by decide) (by rfl) pass0 (pa_cons (pv 0) (pa_cons pe_int pa_nil))))) pa_nil)) (blkOk_by (N := ["draw", "some", "v", "way", "k"]) (sc := defScope s__law_ask) (by decide +kernel)) (fun _ _ _ _ _ => (pg_name (i := 4) sc__law_ask.nd rfl (by first | exact Or.inl rfl | exact Or.inr rfl))) (fun _ _ _ _ _ => pts_nil) (fun _ _ _ _ _ => (pe_c (ok__law_address T) hr (by decide) (by rfl) pass0 (pa_cons (pv 0) (pa_cons (pv 1) pa_nil))))) pa_nil)) pps_nil) rfl rfl (by simp) (by decide)))
      (pss_cons (ps_expr (pe_bm PySem.F.plainAttrs_dict PySem.F.slot_dict_update PySem.F.type_dict_update mt_updD (pv 2) (pa_cons (pe_disp (pps_cons pe_str pe_non (pps_cons pe_str (pe_tup pa_nil) (pps_cons pe_str pe_bl (pps_cons pe_str pe_str pps_nil)))) rfl rfl (by simp) (by decide)) pa_nil)))
      (pss_cons (ps_set (i := 3) sc__law_ask.nd rfl (by first | exact Or.inl rfl | exact Or.inr rfl) (pe_c (ok__law_next T) hr (by decide) (by rfl) pass0 (pa_cons (pv 0) (pa_cons pe_int pa_nil))))
      (Evl.pss_cut (ps_if (pt_cmpR (op_eq) (pv 3) pe_int (nomark _))
      (pss_one (ps_expr (pe_bm PySem.F.plainAttrs_dict PySem.F.slot_dict_update PySem.F.type_dict_update mt_updD (pv 2) (pa_cons (pe_disp (pps_cons pe_str (pe_slice sl_tupA (pe_dget hu (pv 2) pe_str (fun _ _ => rfl)) po_none (po_some pe_int)) (pps_cons pe_str pe_str pps_nil)) rfl rfl (by simp) (by decide)) pa_nil))))
      pss_nil)
      (Evl.pss_cut (ps_if (pt_cmpR (op_in_seq) (pv 3) (pe_tup (pa_cons pe_int (pa_cons pe_int (pa_cons pe_int pa_nil)))) (by with_unfolding_all rfl))
      (pss_one (ps_dput hu (pv 2) pe_str (pe_callTy call_tuple_of (by rfl) T.b_tuple (by decide +kernel) (pa_cons (pe_lc (own := [(("k" : Str), 4)]) rfl sc__law_ask.nd (pi_range1 (by rfl) T.b_range (pa_cons (pe_c (ok__law_next T) hr (by decide) (by rfl) pass0 (pa_cons (pv 0) (pa_cons pe_int pa_nil))) pa_nil)) (blkOk_by (N := ["draw", "some", "v", "way", "k"]) (sc := defScope s__law_ask) (by decide +kernel)) (fun _ _ _ _ _ => (pg_name (i := 4) sc__law_ask.nd rfl (by first | exact Or.inl rfl | exact Or.inr rfl))) (fun _ _ _ _ _ => pts_nil) (fun _ _ _ _ _ => (pe_slice (show SlR _ (rSlA K) from sl_tupA) (pe_c (ok__law_address T) hr (by decide) (by rfl) pass0 (pa_cons (pv 0) (pa_cons (pv 1) pa_nil))) po_none (po_some pe_int)))) pa_nil)) rfl))
      pss_nil)
      (Evl.pss_cut (ps_if (pt_cmpR (op_in_seq) (pv 3) (pe_tup (pa_cons pe_int (pa_cons pe_int pa_nil))) (by with_unfolding_all rfl))
      (pss_one (ps_dput hu (pv 2) pe_str (pe_slice sl_tupA (pe_c (ok__law_address T) hr (by decide) (by rfl) pass0 (pa_cons (pv 0) (pa_cons (pv 1) pa_nil))) po_none (po_some pe_int)) rfl))
      pss_nil)
      (Evl.pss_cut (ps_if (pt_cmpR (op_in_seq) (pv 3) (pe_tup (pa_cons pe_int (pa_cons pe_int (pa_cons pe_int pa_nil)))) (by with_unfolding_all rfl))
      (pss_one (ps_dput hu (pv 2) pe_str (pe_cmpR (op_eq) (pe_c (ok__law_next T) hr (by decide) (by rfl) pass0 (pa_cons (pv 0) (pa_cons pe_int pa_nil))) pe_int (nomark _)) rfl))
      pss_nil)
      (pss_one (ps_ret (pv 2)))))))))), ?_⟩
    obtain ⟨d, g, p, hs, n, rfl, hp, D, hQ⟩ := h
    refine seq_asg ?_
    intro a ha
    have s0 := Same.new (o := HO.dK []) ha
    have na := D.new ha
    have ma0 := upd_same (H := H) (a := a) (o := HO.dK [])
    have D0 := D.same s0
    generalize upd H a (HO.dK []) = H0 at s0 ma0 D0 ⊢
    refine ⟨_, rfl, d, g, 3, n + 39, rfl, by decide, by decide, D0, fun r1 H1 a0 a1 k1 D1 => ?_⟩
    refine ⟨_, rfl, d, g, 2, n + 38, rfl, by decide, by decide, D1, fun r2 H2 b0 b1 k2 D2 => ?_⟩
    obtain ⟨m, hm⟩ : ∃ m : Nat, 1 + r1 * r2 = (m : Int) ∧ 1 ≤ m ∧ m ≤ 3 := by
      have : r2 = 0 ∨ r2 = 1 := by omega
      rcases this with rfl | rfl
      · exact ⟨1, by omega, by decide, by decide⟩
      · exact ⟨(1 + r1).toNat, by omega, by omega, by omega⟩
    refine ⟨r1, r2, rfl, rfl, .inl ⟨Int.lt_of_lt_of_le (by decide : -(2 ^ 64) < (0 : Int)) a0, Int.lt_of_lt_of_le a1 (by decide)⟩, 1, r1 * r2, rfl, rfl, m, congrArg (fun z => [V.int z]) hm.1, by omega, by omega, fun L hL => ?_⟩
    have eN : ((m : Nat) : Int).toNat = m := rfl
    rw [eN]
    have n2 := D2.new hL
    have hp2 : HostsAt H2 g p hs := ((hp.same s0).keep k1 D0).keep k2 D1
    have kk := k1.trans k2
    refine lc_range (n := m) (fun j H' => ∃ (qs : List Addr) (l : List (Str × Str × Str)), H' L = some (.lst (qs.map V.ref)) ∧ l.length = j ∧ TupsAt H' qs (l.map adV) ∧ (∀ x ∈ l, GoodA x ∧ x.2.1 ∈ hosts28) ∧ KeepD d g H2 H' ∧ GAt H' d g (n + 37 - 3 * j)) ⟨[], [], upd_same, rfl, trivial, by simp, KeepD.refl.updN hL, (D2.upd n2.1 n2.2).less (by omega)⟩ ?_ ?_
    · rintro j H3 hj ⟨qs, l, mL, ll, tq, hg, k3, D3⟩
      refine ⟨rfl, _, rfl, _, rfl, d, g, p, hs, n + 37 - 3 * (j + 1), rfl, hp2.keep k3 D2, D3.less (by omega), fun q x H4 gx hx k4 D4 mq nq => ?_⟩
      have lq : qs.length = j := by rw [tq.len, List.length_map, ll]
      have mL4 := k4 _ _ mL n2.1 n2.2
      refine ⟨_, mL4, Nat.lt_of_le_of_lt (by rw [List.length_map]; omega : _ ≤ 100) (by decide), qs ++ [q], l ++ [x], by rw [upd_same, List.map_append]; rfl, by rw [List.length_append, ll]; rfl, ?_, fun y hy => ?_, ?_, D4.upd n2.1 n2.2⟩
      · rw [List.map_append]
        exact TupsAt.putL mL4 ((k4.tups D3 tq).app (TupsAt.one mq))
      · rcases List.mem_append.mp hy with h | h
        · exact hg y h
        · rw [List.mem_singleton.mp h]; exact ⟨gx, hx⟩
      · exact (k3.trans k4).updN hL
    rintro H3 ⟨qs, l, mL, ll, tq, hg, k3, D3⟩
    refine ⟨L, _, rfl, .inl ⟨SqL.of mL, fun T hT => ?_⟩⟩
    have sT := Same.new (o := HO.tup (qs.map V.ref)) hT
    have mT := upd_same (H := H3) (a := T) (o := HO.tup (qs.map V.ref))
    have D4 := D3.same sT
    have k4 := k3.same sT
    have tq4 := tq.same sT
    generalize upd H3 T (HO.tup (qs.map V.ref)) = H4 at sT mT D4 k4 tq4 ⊢
    have s3T : KeepD d g H0 H4 := kk.trans k4
    have ma4 : H4 a = some (.dK []) := s3T _ _ ma0 na.1 na.2
    refine ⟨ma4, [(Sum.inr "chain", .ref T)], rfl, by show 1 ≤ 15; decide, ?_⟩
    have mT5 : (upd H4 a (.dK (mergeK [] [((Sum.inr "chain" : L2.Key), V.ref T)]))) T = some (.tup (qs.map V.ref)) := (upd_ne (fun z => by rw [z, ma4] at mT; cases mT)).trans mT
    have ch5 : ChAt (upd H4 a (.dK (mergeK [] [((Sum.inr "chain" : L2.Key), V.ref T)]))) T l := ChAt.upd ma4 ⟨qs, mT, tq4⟩
    have k5 : KeepD d g H (upd H4 a (.dK (mergeK [] [((Sum.inr "chain" : L2.Key), V.ref T)]))) := (Same.thenD s0 s3T).updN ha
    have D5 := D4.upd (o := .dK (mergeK [] [((Sum.inr "chain" : L2.Key), V.ref T)])) na.1 na.2
    have ma5 := upd_same (H := H4) (a := a) (o := HO.dK (mergeK [] [((Sum.inr "chain" : L2.Key), V.ref T)]))
    generalize upd H4 a (.dK (mergeK [] [((Sum.inr "chain" : L2.Key), V.ref T)])) = H5 at mT5 ch5 k5 D5 ma5 ⊢
    try dsimp only
    refine ⟨_, rfl, .inr (.inr (.inl ⟨rfl, .inl ⟨_, ma5⟩⟩)), fun b hb => ?_⟩
    refine ⟨by show 0 ≤ sizeLine; decide, fun F hF => ?_⟩
    have sb := Same.new (o := HO.dK []) hb
    have mb := upd_same (H := H5) (a := b) (o := HO.dK [])
    generalize upd H5 b (HO.dK []) = H6 at sb mb hF ⊢
    have sF := Same.new (o := HO.tup []) hF
    have mF := upd_same (H := H6) (a := F) (o := HO.tup [])
    generalize upd H6 F (HO.tup []) = H7 at sF mF ⊢
    have mb7 := sF _ _ mb
    refine ⟨mb7, [(Sum.inr "starter", .non), (Sum.inr "frames", .ref F), (Sum.inr "reads", .bl true), (Sum.inr "way", .str "http")], rfl, by show 4 ≤ 15; decide, ?_⟩
    have s57 := sb.trans sF
    have ma7 := s57 _ _ ma5
    have ba : b ≠ a := fun z => by rw [z, ma5] at hb; cases hb
    have nb := D5.new hb
    have ch7 := ch5.same s57
    have or7 : OrsAt H7 F [] := ⟨[], mF, trivial⟩
    have or8 := OrsAt.upd (o := .dK (mergeK [] [((Sum.inr "starter" : L2.Key), V.non), (Sum.inr "frames", .ref F), (Sum.inr "reads", .bl true), (Sum.inr "way", .str "http")])) mb7 or7
    have ch8 := ChAt.upd (o := .dK (mergeK [] [((Sum.inr "starter" : L2.Key), V.non), (Sum.inr "frames", .ref F), (Sum.inr "reads", .bl true), (Sum.inr "way", .str "http")])) mb7 ch7
    have ma8 := (upd_ne (o := HO.dK (mergeK [] [((Sum.inr "starter" : L2.Key), V.non), (Sum.inr "frames", .ref F), (Sum.inr "reads", .bl true), (Sum.inr "way", .str "http")])) ba.symm).trans ma7
    have mb8 := upd_same (H := H7) (a := b) (o := HO.dK (mergeK [] [((Sum.inr "starter" : L2.Key), V.non), (Sum.inr "frames", .ref F), (Sum.inr "reads", .bl true), (Sum.inr "way", .str "http")]))
    have hbH : H b = none := k5.newer nb.1 nb.2 hb
    have k8 : KeepD d g H (upd H7 b (.dK (mergeK [] [((Sum.inr "starter" : L2.Key), V.non), (Sum.inr "frames", .ref F), (Sum.inr "reads", .bl true), (Sum.inr "way", .str "http")]))) := (k5.same s57).updN hbH
    have D8 := (D5.same s57).upd (o := .dK (mergeK [] [((Sum.inr "starter" : L2.Key), V.non), (Sum.inr "frames", .ref F), (Sum.inr "reads", .bl true), (Sum.inr "way", .str "http")])) nb.1 nb.2
    generalize upd H7 b (.dK (mergeK [] [((Sum.inr "starter" : L2.Key), V.non), (Sum.inr "frames", .ref F), (Sum.inr "reads", .bl true), (Sum.inr "way", .str "http")])) = H8 at or8 ch8 ma8 mb8 k8 D8 ⊢
    refine ⟨a, b, _, _, rfl, rfl, ba.symm, ma8, mb8, by show 5 ≤ sizeLine; decide, ?_⟩
    rw [ask_new]
    have A9 : AskAt (upd H8 a (.dK (askK T .non F true "http"))) a ⟨l, none, [], true, "http"⟩ := ⟨T, F, .non, upd_same, ChAt.upd ma8 ch8, rfl, OrsAt.upd ma8 or8⟩
    have k9 : KeepD d g H (upd H8 a (.dK (askK T .non F true "http"))) := k8.updN ha
    have D9 := D8.upd (o := .dK (askK T .non F true "http")) na.1 na.2
    generalize upd H8 a (.dK (askK T .non F true "http")) = H9 at A9 k9 D9 ⊢
    clear k8 D8 or8 ch8 ma8 mb8 ch7 or7 ma7 s57 mb7 mF sF mb sb hF hb hbH nb ba
    have ok9 : AskOk ⟨l, none, [], true, "http"⟩ := ⟨⟨by rw [ll]; exact hm.2.1, by show l.length ≤ 10; omega, fun x hx => (hg x hx).1, fun x z => (by cases z), Nat.zero_le _, fun x z => (by cases z), .inl rfl⟩, fun x hx => (hg x hx).2, fun x z => (by cases z), fun x z => (by cases z)⟩
    have l9 : l.length ≤ 3 := by omega
    have D9 := D9.less (show n + 25 ≤ _ by omega)
    try dsimp only
    refine seq_asg ?_
    refine ⟨_, rfl, d, g, 6, n + 24, rfl, by decide, by decide, D9, fun w H10 w0 w1 k10 D10 => ?_⟩
    have A10 := A9.keepD k10 D9 na.1 na.2
    have kA := k9.trans k10
    generalize hr0 : (⟨l, none, [], true, "http"⟩ : Rq) = r0 at A10 ok9
    try dsimp only
    refine ⟨fun σ' H' => ∃ (r : Rq) (v4 : Option V), σ' = [some (.ref d), some (.ref p), some (.ref a), some (.int w), v4] ∧ AskOk r ∧ r.ch.length ≤ 3 ∧ r.st = none ∧ r.fr = [] ∧ r.rd = true ∧ (w ≠ 0 → r.wy = "http") ∧ KeepD d g H H' ∧ GAt H' d g (n + 24) ∧ AskAt H' a r, ?_, ?_⟩
    · refine ⟨_, rfl, rfl, _, rfl, iteB (fun c => ?_) (fun c => ?_)⟩
      rotate_left
      · have hw : w ≠ 0 := fun z => of_decide_eq_false c (by rw [z])
        subst hr0
        exact ⟨_, none, rfl, ok9, l9, rfl, rfl, rfl, fun _ => rfl, kA, D10, A10⟩
      have hw : w = 0 := V.int.inj (of_decide_eq_true c)
      subst hr0
      obtain ⟨pc, pf, vs, ma, ⟨cs, mc, tc⟩, hst, hfr⟩ := A10
      have lc : cs.length = l.length := by rw [tc.len, List.length_map]
      refine ⟨_, rfl, .inr (.inr (.inl ⟨rfl, .inl ⟨_, ma⟩⟩)), fun b hb => ?_⟩
      have sb := Same.new (o := HO.dK []) hb
      have mb := upd_same (H := H10) (a := b) (o := HO.dK [])
      have ba : b ≠ a := fun z => by rw [z, ma] at hb; cases hb
      have nb := D10.new hb
      have hbH : H b = none := kA.newer nb.1 nb.2 hb
      generalize upd H10 b (HO.dK []) = H11 at sb mb ⊢
      show tSl _ _ _ _ _ _ _
      refine te_cut (R := fun v H' => ∃ T', v = .ref T' ∧ Same H11 H' ∧ ChAt H' T' (l.take 1)) (fun Q' q' => ?_) (fun v H12 ⟨T', ev, s12, ch12⟩ => ?_)
      · refine ⟨_, rfl, a, _, rfl, valK (sb _ _ ma) (ask_chain ..), 1, rfl, pc, _, rfl, SqT.of (sb _ _ mc), fun hw => ?_, fun _ q hq => ?_⟩
        · have h1 := hw.2
          have h2 : HT.sIx (cs.map V.ref).length (cs.map V.ref).length (some (1 : Int)) = min 1 (cs.map V.ref).length := HT.sIx_nat _ _ 1
          rw [h2, List.length_map] at h1
          refine q' _ _ ⟨pc, rfl, Same.refl _, ?_⟩
          rw [List.take_of_length_le (by omega)]
          exact ⟨cs, sb _ _ mc, tc.same sb⟩
        · refine q' _ _ ⟨q, rfl, Same.new hq, cs.take 1, ?_, ?_⟩
          · rw [upd_same, cutV_to _ (by decide), List.map_take]; rfl
          · rw [List.map_take]
            exact (tc.same (sb.trans (Same.new hq))).take 1
      subst ev
      have s13 := sb.trans s12
      refine ⟨s12 _ _ mb, [(Sum.inr "chain", .ref T'), (Sum.inr "way", .str "script")], rfl, by show 2 ≤ 15; decide, ?_⟩
      have mb12 := s12 _ _ mb
      have ma12 := s13 _ _ ma
      generalize hmm : mergeK [] [((Sum.inr "chain" : L2.Key), V.ref T'), (Sum.inr "way", .str "script")] = mm
      have ma13 := (upd_ne (o := HO.dK mm) ba.symm).trans ma12
      refine ⟨a, b, _, _, rfl, rfl, ba.symm, ma13, upd_same, ?_, ?_⟩
      · rw [← hmm]; show 7 ≤ sizeLine; decide
      rw [← hmm, ask_script, hmm]
      refine ⟨⟨l.take 1, none, [], true, "script"⟩, none, rfl, ?_, by rw [List.length_take]; omega, rfl, rfl, rfl, fun h => absurd hw h, ?_, ?_, ?_⟩
      · refine ⟨⟨by show 1 ≤ (l.take 1).length; rw [List.length_take]; omega, by show (l.take 1).length ≤ 10; rw [List.length_take]; omega, fun x hx => (hg x (List.mem_of_mem_take hx)).1, fun x z => (by cases z), Nat.zero_le _, fun x z => (by cases z), .inr ⟨rfl, by show (l.take 1).length = 1; rw [List.length_take]; omega, rfl, rfl⟩⟩, fun x hx => (hg x (List.mem_of_mem_take hx)).2, fun x z => (by cases z), fun x z => (by cases z)⟩
      · exact (((kA.same s13)).updN hbH).updN ha
      · exact ((D10.same s13).upd nb.1 nb.2).upd na.1 na.2
      · exact ⟨T', pf, vs, upd_same, ChAt.upd ma13 (ChAt.upd mb12 ch12), hst, OrsAt.upd ma13 (OrsAt.upd mb12 (hfr.same s13))⟩
    rintro σ H11 ⟨r1, v4, rfl, ok1, c1, st1, fr1, rd1, wy1, kB, D11, A11⟩
    refine ⟨fun σ' H' => ∃ (r : Rq) (v4 : Option V), σ' = [some (.ref d), some (.ref p), some (.ref a), some (.int w), v4] ∧ AskOk r ∧ r.ch.length ≤ 3 ∧ r.fr.length ≤ 3 ∧ r.st = none ∧ (w = 0 ∨ w = 1 ∨ w = 2 ∨ r.fr = []) ∧ r.rd = true ∧ (w ≠ 0 → r.wy = "http") ∧ KeepD d g H H' ∧ GAt H' d g (n + 10) ∧ AskAt H' a r, ?_, ?_⟩
    · refine ⟨_, rfl, by show 3 ≤ sizeLine; decide, fun b hb => ?_⟩
      have sb := Same.new (o := HO.tup [V.int 0, V.int 1, V.int 2]) hb
      refine ⟨b, _, rfl, .inr (SqT.of upd_same), rfl, rfl, ?_⟩
      refine ⟨_, rfl, ?_⟩
      have ein : inV (V.int w) [V.int 0, V.int 1, V.int 2] = decide (w = 0 ∨ w = 1 ∨ w = 2) := by
        have : w = 0 ∨ w = 1 ∨ w = 2 ∨ w = 3 ∨ w = 4 ∨ w = 5 := by omega
        rcases this with rfl | rfl | rfl | rfl | rfl | rfl <;> decide +kernel
      show (if inV (V.int w) [V.int 0, V.int 1, V.int 2] = true then _ else _)
      rw [ein]
      have D12 := D11.same sb
      have A12 := A11.same sb
      have k12 := kB.same sb
      generalize upd H11 b (HO.tup [V.int 0, V.int 1, V.int 2]) = H12 at sb D12 A12 k12 ⊢
      refine iteB (fun c => ?_) (fun c => ?_)
      rotate_left
      · exact ⟨r1, v4, rfl, ok1, c1, by rw [fr1]; exact Nat.zero_le _, st1, .inr (.inr (.inr fr1)), rd1, wy1, k12, D12.less (by omega), A12⟩
      have c := of_decide_eq_true c
      have hp12 := hp.keep k12 D
      refine ⟨_, rfl, d, g, 4, n + 23, rfl, by decide, by decide, D12, fun m2 H13 m0 m1 k13 D13 => ?_⟩
      obtain ⟨m3, hm3⟩ : ∃ m3 : Nat, m2 = (m3 : Int) := ⟨m2.toNat, by omega⟩
      subst hm3
      refine ⟨m3, rfl, by omega, by omega, fun LL hLL => ?_⟩
      rw [show ((m3 : Nat) : Int).toNat = m3 from rfl]
      have n13 := D13.new hLL
      have A13 := A12.keepD k13 D12 na.1 na.2
      have hp13 := hp12.keep k13 D12
      refine lc_range (n := m3) (fun j H' => ∃ (qs : List Addr) (fl : List (Str × Str)), H' LL = some (.lst (qs.map V.ref)) ∧ fl.length = j ∧ TupsAt H' qs (fl.map orV) ∧ (∀ x ∈ fl, GoodO x ∧ x.2 ∈ hosts28) ∧ KeepD d g H13 H' ∧ GAt H' d g (n + 22 - 3 * j)) ⟨[], [], upd_same, rfl, trivial, by simp, KeepD.refl.updN hLL, (D13.upd n13.1 n13.2).less (by omega)⟩ ?_ ?_
      · rintro j H14 hj ⟨qs, fl, mL, ll2, tq, hgf, k14, D14⟩
        refine ⟨rfl, _, rfl, _, rfl, d, g, p, hs, n + 22 - 3 * (j + 1), rfl, hp13.keep k14 D13, D14.less (by omega), fun q x H15 gx hx k15 D15 mq nq => ?_⟩
        have lq : qs.length = j := by rw [tq.len, List.length_map, ll2]
        have mL15 := k15 _ _ mL n13.1 n13.2
        refine ⟨_, rfl, q, _, rfl, SqT.of mq, fun gg => absurd (show HT.sIx 3 3 (some 2) = 3 from gg.2) (by decide), fun _ q2 hq2 => ?_⟩
        have sq := Same.new (o := HO.tup [V.str x.1, V.str x.2.1]) hq2
        have mL16 := sq _ _ mL15
        have D16 := D15.same sq
        refine ⟨_, mL16, Nat.lt_of_le_of_lt (by rw [List.length_map]; omega : _ ≤ 100) (by decide), qs ++ [q2], fl ++ [(x.1, x.2.1)], by rw [upd_same, List.map_append]; rfl, by rw [List.length_append, ll2]; rfl, ?_, fun y hy => ?_, ?_, D16.upd n13.1 n13.2⟩
        · rw [List.map_append]
          exact TupsAt.putL mL16 (((k15.tups D14 tq).same sq).app (TupsAt.one upd_same))
        · rcases List.mem_append.mp hy with h | h
          · exact hgf y h
          · rw [List.mem_singleton.mp h]; exact ⟨⟨gx.1, gx.2.1⟩, hx⟩
        · exact ((k14.trans k15).same sq).updN hLL
      rintro H14 ⟨qs, fl, mL, ll2, tq, hgf, k14, D14⟩
      refine ⟨LL, _, rfl, .inl ⟨SqL.of mL, fun T2 hT2 => ?_⟩⟩
      have sT := Same.new (o := HO.tup (qs.map V.ref)) hT2
      have A15 := (A13.keepD k14 D13 na.1 na.2).same sT
      have D15 := D14.same sT
      have k15 := ((k12.trans k13).trans k14).same sT
      have or15 : OrsAt (upd H14 T2 (.tup (qs.map V.ref))) T2 fl := ⟨qs, upd_same, tq.same sT⟩
      generalize upd H14 T2 (.tup (qs.map V.ref)) = H15 at A15 D15 k15 or15 ⊢
      obtain ⟨pc, pf, vs, ma, hch, hst, hfr⟩ := A15
      refine ⟨_, rfl, a, _, rfl, DPut.k (k := (Sum.inr "frames" : L2.Key)) ma (by show 5 < sizeLine; decide), ?_⟩
      rw [ask_put_frames]
      refine ⟨{ r1 with fr := fl }, v4, rfl, ⟨⟨ok1.ok.c1, ok1.ok.c2, ok1.ok.ca, fun x z => (by rw [show ({ r1 with fr := fl } : Rq).st = r1.st from rfl, st1] at z; cases z), by show fl.length ≤ 6; omega, fun x hx => (hgf x hx).1, ok1.ok.wy⟩, ok1.hc, ok1.hs, fun x hx => (hgf x hx).2⟩, c1, by show fl.length ≤ 3; omega, st1, by rcases c with h | h | h <;> simp [h], rd1, wy1, k15.updN ha, (D15.upd na.1 na.2).less (by omega), ?_⟩
      exact ⟨pc, T2, vs, upd_same, ChAt.upd ma hch, StAt.upd ma hst, OrsAt.upd ma or15⟩
    rintro σ H12 ⟨r2, v5, rfl, ok2, c2, f2, st2, w2, rd2, wy2, kC, D12, A12⟩
    refine ⟨fun σ' H' => ∃ (r : Rq) (v4 : Option V), σ' = [some (.ref d), some (.ref p), some (.ref a), some (.int w), v4] ∧ AskOk r ∧ r.ch.length ≤ 3 ∧ r.fr.length ≤ 3 ∧ r.rd = true ∧ (w ≠ 0 → r.wy = "http") ∧ KeepD d g H H' ∧ GAt H' d g (n + 5) ∧ AskAt H' a r, ?_, ?_⟩
    · refine ⟨_, rfl, by show 2 ≤ sizeLine; decide, fun b hb => ?_⟩
      have sb := Same.new (o := HO.tup [V.int 3, V.int 4]) hb
      refine ⟨b, _, rfl, .inr (SqT.of upd_same), rfl, rfl, ?_⟩
      refine ⟨_, rfl, ?_⟩
      have ein : inV (V.int w) [V.int 3, V.int 4] = decide (w = 3 ∨ w = 4) := by
        have : w = 0 ∨ w = 1 ∨ w = 2 ∨ w = 3 ∨ w = 4 ∨ w = 5 := by omega
        rcases this with rfl | rfl | rfl | rfl | rfl | rfl <;> decide +kernel
      show (if inV (V.int w) [V.int 3, V.int 4] = true then _ else _)
      rw [ein]
      have D13 := D12.same sb
      have A13 := A12.same sb
      have k13 := kC.same sb
      generalize upd H12 b (HO.tup [V.int 3, V.int 4]) = H13 at sb D13 A13 k13 ⊢
      refine iteB (fun c => ?_) (fun c => ?_)
      rotate_left
      · exact ⟨r2, v5, rfl, ok2, c2, f2, rd2, wy2, k13, D13.less (by omega), A13⟩
      have c := of_decide_eq_true c
      have hf0 : r2.fr = [] := by
        rcases w2 with h | h | h | h
        · omega
        · omega
        · omega
        · exact h
      have hwy : r2.wy = "http" := wy2 (by omega)
      have hp13 := hp.keep k13 D
      refine ⟨_, rfl, _, rfl, d, g, p, hs, n + 5, rfl, hp13, D13.less (by omega), fun q x H14 gx hx k14 D14 mq nq => ?_⟩
      refine ⟨_, rfl, q, _, rfl, SqT.of mq, fun gg => absurd (show HT.sIx 3 3 (some 2) = 3 from gg.2) (by decide), fun _ q2 hq2 => ?_⟩
      rw [show cutV (adV x) none (some 2) = [V.str x.1, V.str x.2.1] by rw [cutV_to _ (by decide)]; rfl]
      have sq := Same.new (o := HO.tup [V.str x.1, V.str x.2.1]) hq2
      have A14 := (A13.keepD k14 D13 na.1 na.2).same sq
      have m2 := upd_same (H := H14) (a := q2) (o := HO.tup [V.str x.1, V.str x.2.1])
      have D15 := D14.same sq
      have k15 := (k13.trans k14).same sq
      have stn : StAt (upd H14 q2 (.tup [V.str x.1, V.str x.2.1])) (.ref q2) (some (x.1, x.2.1)) := ⟨q2, rfl, m2⟩
      generalize upd H14 q2 (.tup [V.str x.1, V.str x.2.1]) = H15 at A14 m2 D15 k15 stn
      obtain ⟨pc, pf, vs, ma, hch, hst, hfr⟩ := A14
      refine ⟨_, rfl, a, _, rfl, DPut.k (k := (Sum.inr "starter" : L2.Key)) ma (by show 5 < sizeLine; decide), ?_⟩
      rw [ask_put_starter]
      refine ⟨{ r2 with st := some (x.1, x.2.1) }, v5, rfl, ⟨⟨ok2.ok.c1, ok2.ok.c2, ok2.ok.ca, fun y z => (by cases z; exact ⟨⟨gx.1, gx.2.1⟩, hf0⟩), ok2.ok.f6, ok2.ok.fo, .inl hwy⟩, ok2.hc, fun y z => (by cases z; exact hx), ok2.hf⟩, c2, f2, rd2, wy2, k15.updN ha, D15.upd na.1 na.2, ?_⟩
      exact ⟨pc, pf, _, upd_same, ChAt.upd ma hch, StAt.upd ma stn, OrsAt.upd ma hfr⟩
    rintro σ H13 ⟨r3, v6, rfl, ok3, c3, f3, rd3, wy3, kD, D13, A13⟩
    refine ⟨fun σ' H' => ∃ (r : Rq) (v4 : Option V), σ' = [some (.ref d), some (.ref p), some (.ref a), some (.int w), v4] ∧ AskOk r ∧ r.ch.length ≤ 3 ∧ r.fr.length ≤ 3 ∧ KeepD d g H H' ∧ GAt H' d g n ∧ AskAt H' a r, ?_, ?_⟩
    · refine ⟨_, rfl, by show 3 ≤ sizeLine; decide, fun b hb => ?_⟩
      have sb := Same.new (o := HO.tup [V.int 1, V.int 4, V.int 5]) hb
      refine ⟨b, _, rfl, .inr (SqT.of upd_same), rfl, rfl, ?_⟩
      refine ⟨_, rfl, ?_⟩
      have ein : inV (V.int w) [V.int 1, V.int 4, V.int 5] = decide (w = 1 ∨ w = 4 ∨ w = 5) := by
        have : w = 0 ∨ w = 1 ∨ w = 2 ∨ w = 3 ∨ w = 4 ∨ w = 5 := by omega
        rcases this with rfl | rfl | rfl | rfl | rfl | rfl <;> decide +kernel
      show (if inV (V.int w) [V.int 1, V.int 4, V.int 5] = true then _ else _)
      rw [ein]
      have D14 := D13.same sb
      have A14 := A13.same sb
      have k14 := kD.same sb
      generalize upd H13 b (HO.tup [V.int 1, V.int 4, V.int 5]) = H14 at sb D14 A14 k14 ⊢
      refine iteB (fun c => ?_) (fun c => ?_)
      rotate_left
      · exact ⟨r3, v6, rfl, ok3, c3, f3, k14, D14.less (by omega), A14⟩
      have c := of_decide_eq_true c
      have hwy : r3.wy = "http" := wy3 (by omega)
      refine ⟨_, rfl, d, g, 2, n + 4, rfl, by decide, by decide, D14, fun m2 H15 m0 m1 k15 D15 => ?_⟩
      have A15 := A14.keepD k15 D14 na.1 na.2
      obtain ⟨pc, pf, vs, ma, hch, hst, hfr⟩ := A15
      refine ⟨rfl, _, rfl, a, _, rfl, DPut.k (k := (Sum.inr "reads" : L2.Key)) ma (by show 5 < sizeLine; decide), ?_⟩
      rw [ask_put_reads]
      refine ⟨{ r3 with rd := decide (V.int m2 = V.int 0) }, v6, rfl, ⟨⟨ok3.ok.c1, ok3.ok.c2, ok3.ok.ca, ok3.ok.so, ok3.ok.f6, ok3.ok.fo, .inl hwy⟩, ok3.hc, ok3.hs, ok3.hf⟩, c3, f3, (k14.trans k15).updN ha, (D15.upd na.1 na.2).less (by omega), ?_⟩
      exact ⟨pc, pf, _, upd_same, ChAt.upd ma hch, StAt.upd ma hst, OrsAt.upd ma hfr⟩
    rintro σ H14 ⟨r4, v7, rfl, ok4, c4, f4, kE, D14, A14⟩
    exact ⟨_, rfl, hQ a r4 H14 ok4 c4 f4 kE D14 A14 ha⟩
theorem ok_has_only (T : Txt K mg) : Cal P w K mg base CX0 1 "has_only" ["text", "signs"] sp_has_only := by
  refine T.d_has_only.ok0 sc_has_only (fun vs H Q E h => ?_) (fun f cdv A outer s H vs Q E hr h => ?_)
  · first | (obtain ⟨_, rfl, _⟩ := h; rfl) | (obtain ⟨_, _, rfl, _⟩ := h; rfl) | (obtain ⟨_, _, _, rfl, _⟩ := h; rfl) | (obtain ⟨_, _, _, _, rfl, _⟩ := h; rfl) | (obtain ⟨_, _, _, _, _, rfl, _⟩ := h; rfl) | (obtain ⟨_, _, _, _, _, _, rfl, _⟩ := h; rfl) | (obtain ⟨_, _, _, _, _, _, _, rfl, _⟩ := h; rfl) | (obtain ⟨_, _, _, _, _, _, _, _, rfl, _⟩ := h; rfl) | (obtain ⟨_, _, _, _, _, _, _, _, _, rfl, _⟩ := h; rfl) | (obtain ⟨_, _, _, _, _, _, _, _, _, _, rfl, _⟩ := h; rfl) | (obtain ⟨_, _, _, _, _, _, _, _, _, _, _, rfl, _⟩ := h; rfl) | (obtain ⟨_, _, _, _, _, _, _, _, _, _, _, _, rfl, _⟩ := h; rfl)
  · refine ⟨_, (pss_one (ps_ret (pe_and (pe_cmpR (op_ne) (pv 0) pe_str (nomark _)) (pe_one (pe_cmpR (op_eq) (pe_m1 PySem.F.slot_str_strip PySem.F.type_str_strip mt_stripChars (pv 0) (pv 1)) pe_str (nomark _)))))), ?_⟩
    obtain ⟨x, g, rfl, hx, hQ⟩ := h
    rw [← strip_only] at hQ
    refine ⟨_, rfl, rfl, _, rfl, ?_⟩
    cases hz : (!decide (V.str x = V.str ("" : Str))) with
    | false => rw [hz, Bool.false_and] at hQ; exact iteF hQ
    | true =>
      rw [hz, Bool.true_and] at hQ
      exact iteT ⟨_, rfl, ⟨_, rfl⟩, _, rfl, _, _, rfl, rfl, Nat.le_trans hx (by decide), rfl, hQ⟩
theorem ok__is_label (T : Txt K mg) : Cal P w K mg base CX0 2 "_is_label" ["text"] sp__is_label := by
  refine T.d__is_label.ok0 sc__is_label (fun vs H Q E h => ?_) (fun f cdv A outer s H vs Q E hr h => ?_)
  · first | (obtain ⟨_, rfl, _⟩ := h; rfl) | (obtain ⟨_, _, rfl, _⟩ := h; rfl) | (obtain ⟨_, _, _, rfl, _⟩ := h; rfl) | (obtain ⟨_, _, _, _, rfl, _⟩ := h; rfl) | (obtain ⟨_, _, _, _, _, rfl, _⟩ := h; rfl) | (obtain ⟨_, _, _, _, _, _, rfl, _⟩ := h; rfl) | (obtain ⟨_, _, _, _, _, _, _, rfl, _⟩ := h; rfl) | (obtain ⟨_, _, _, _, _, _, _, _, rfl, _⟩ := h; rfl) | (obtain ⟨_, _, _, _, _, _, _, _, _, rfl, _⟩ := h; rfl) | (obtain ⟨_, _, _, _, _, _, _, _, _, _, rfl, _⟩ := h; rfl) | (obtain ⟨_, _, _, _, _, _, _, _, _, _, _, rfl, _⟩ := h; rfl) | (obtain ⟨_, _, _, _, _, _, _, _, _, _, _, _, rfl, _⟩ := h; rfl)
  · refine ⟨_, (pss_cons (ps_if (PW.pt (pw_or (pt_cmpR (op_gt) (pe_callB call_len_str (by rfl) T.b_len (by decide +kernel) (pa_cons (pv 0) pa_nil)) (pe_gc (by rfl) T.c_MOST_OF_LABEL) (nomark _)) (pw_or1 (pt_not (pt_val (pe_c (ok_has_only T) hr (by decide) (by rfl) pass0 (pa_cons (pv 0) (pa_cons (pe_gc (by rfl) T.c_LABEL_SIGNS) pa_nil))))))))
      (pss_one (ps_ret pe_bl))
      pss_nil)
      (pss_one (ps_ret (pe_and (pe_cmpR (op_ne) (pe_ix ix_str (pv 0) pe_int (fun _ _ => rfl)) pe_str (nomark _)) (pe_one (pe_cmpR (op_ne) (pe_ix ix_str (pv 0) (pe_un un_neg pe_int) (fun _ _ => rfl)) pe_str (nomark _))))))), ?_⟩
    obtain ⟨x, rfl, hx, hQ⟩ := h
    refine ⟨_, rfl, x, rfl, Nat.le_trans hx (by decide), _, _, rfl, rfl, _, rfl, iteB (fun h1 => ?_) (fun h1 => ?_)⟩
    · have h1 : (20 : Int) < (x.length : Int) := of_decide_eq_true h1
      have e : labB (tl x) = false := by
        unfold labB
        rw [decide_eq_false (by rw [len_tl] at h1; omega), Bool.false_and]
      rw [e] at hQ
      exact hQ
    have h1 : ¬ (20 : Int) < (x.length : Int) := of_decide_eq_false h1
    have hl : (tl x).length ≤ 20 := by rw [len_tl] at h1; omega
    unfold labB at hQ
    rw [decide_eq_true hl, Bool.true_and] at hQ
    refine ⟨_, rfl, x, _, rfl, hx, ?_⟩
    rw [tl_lsig]
    refine ⟨_, rfl, ?_⟩
    cases h2 : onlyB lsig (tl x) with
    | false =>
      rw [h2, Bool.false_and] at hQ
      exact iteT hQ
    | true =>
      rw [h2, Bool.true_and] at hQ
      refine iteF ?_
      have hne : tl x ≠ [] := by
        unfold onlyB at h2
        rw [Bool.and_eq_true, decide_eq_true_eq] at h2
        exact h2.2
      obtain ⟨r, d, er⟩ := snoc_of_ne hne
      obtain ⟨a, r2, ea⟩ : ∃ a r2, tl x = a :: r2 := List.exists_cons_of_ne_nil hne
      have h0 : atI x.cps.toList 0 = some a := by show atI (tl x) ((0 : Nat) : Int) = _; rw [ea]; exact atI_nat rfl
      have hz : atI x.cps.toList (-1) = some d := by show atI (tl x) (-1) = _; rw [er]; exact atI_last r d
      have e1 : (tl x).head? = some a := by rw [ea]; rfl
      have e2 : (tl x).getLast? = some d := by rw [er, List.getLast?_concat]
      rw [e1, e2] at hQ
      refine ⟨_, rfl, x, _, a, rfl, rfl, Nat.le_trans hx (by decide), h0, rfl, _, rfl, ?_⟩
      rw [one_dash]
      have e3 : decide (some a ≠ some 45) = !decide (a = 45) := by rw [Bool.eq_iff_iff]; simp
      have e4 : decide (some d ≠ some 45) = !decide (d = 45) := by rw [Bool.eq_iff_iff]; simp
      rw [e3, e4] at hQ
      cases h3 : decide (a = 45) with
      | true =>
        rw [h3] at hQ
        exact iteF hQ
      | false =>
        rw [h3] at hQ
        refine iteT ⟨_, rfl, _, rfl, x, _, d, rfl, rfl, Nat.le_trans hx (by decide), hz, rfl, ?_⟩
        rw [one_dash]
        exact hQ
theorem ok_are_labels (T : Txt K mg) : Cal P w K mg base CX0 3 "are_labels" ["texts"] (sp_are_labels K) := by
  refine T.d_are_labels.ok0 sc_are_labels (fun vs H Q E h => ?_) (fun f cdv A outer s H vs Q E hr h => ?_)
  · first | (obtain ⟨_, rfl, _⟩ := h; rfl) | (obtain ⟨_, _, rfl, _⟩ := h; rfl) | (obtain ⟨_, _, _, rfl, _⟩ := h; rfl) | (obtain ⟨_, _, _, _, rfl, _⟩ := h; rfl) | (obtain ⟨_, _, _, _, _, rfl, _⟩ := h; rfl) | (obtain ⟨_, _, _, _, _, _, rfl, _⟩ := h; rfl) | (obtain ⟨_, _, _, _, _, _, _, rfl, _⟩ := h; rfl) | (obtain ⟨_, _, _, _, _, _, _, _, rfl, _⟩ := h; rfl) | (obtain ⟨_, _, _, _, _, _, _, _, _, rfl, _⟩ := h; rfl) | (obtain ⟨_, _, _, _, _, _, _, _, _, _, rfl, _⟩ := h; rfl) | (obtain ⟨_, _, _, _, _, _, _, _, _, _, _, rfl, _⟩ := h; rfl) | (obtain ⟨_, _, _, _, _, _, _, _, _, _, _, _, rfl, _⟩ := h; rfl)
  · refine ⟨_, (pss_cons (ps_for PassesOwn.never rfl (pi_list (pv 0)) (pg_name (i := 1) sc_are_labels.nd rfl (by first | exact Or.inl rfl | exact Or.inr rfl))
      (pss_one (ps_if (pt_not (pt_val (pe_c (ok__is_label T) hr (by decide) (by rfl) pass0 (pa_cons (pv 1) pa_nil))))
      (pss_one (ps_ret pe_bl))
      pss_nil)))
      (pss_one (ps_ret pe_bl))), ?_⟩
    obtain ⟨p, xs, rfl, hp, hx, hQ⟩ := h
    refine ⟨_, rfl, p, rfl, ⟨_, hp⟩, for_list (K := K) (a := p) (xs := xs.map V.str) (fun i σ H1 => ∃ sv, σ = [some (.ref p), sv] ∧ H1 = H ∧ ((xs.take i).map tl).all labB = true) ⟨none, rfl, rfl, by simp⟩ (fun i σ H1 _ ⟨_, _, e, _⟩ => by rw [e]; exact hp) ?_ ?_⟩
    · rintro i v σ H1 hi ⟨sv, rfl, rfl, ha⟩
      obtain ⟨x, hxi, rfl⟩ := strAt hi
      refine ⟨_, rfl, x, rfl, hx x (List.mem_of_getElem? hxi), _, rfl, ?_⟩
      cases hl : labB (tl x) with
      | true => exact iteF ⟨_, rfl, rfl, by rw [allS_at hxi, ha, hl]; rfl⟩
      | false =>
        have e : (xs.map tl).all labB = false := by
          rw [List.all_eq_false]
          exact ⟨tl x, List.mem_map.mpr ⟨x, List.mem_of_getElem? hxi, rfl⟩, by rw [hl]; exact Bool.false_ne_true⟩
        rw [e] at hQ
        exact iteT hQ
    · rintro σ H1 ⟨sv, rfl, rfl, ha⟩
      rw [List.length_map, List.take_length] at ha
      rw [ha] at hQ
      exact hQ
theorem ok__is_rule (T : Txt K mg) : Cal P w K mg base CX0 4 "_is_rule" ["value"] (sp__is_rule K) := by
  refine T.d__is_rule.ok0 sc__is_rule (fun vs H Q E h => ?_) (fun f cdv A outer s H vs Q E hr h => ?_)
  · first | (obtain ⟨_, rfl, _⟩ := h; rfl) | (obtain ⟨_, _, rfl, _⟩ := h; rfl) | (obtain ⟨_, _, _, rfl, _⟩ := h; rfl) | (obtain ⟨_, _, _, _, rfl, _⟩ := h; rfl) | (obtain ⟨_, _, _, _, _, rfl, _⟩ := h; rfl) | (obtain ⟨_, _, _, _, _, _, rfl, _⟩ := h; rfl) | (obtain ⟨_, _, _, _, _, _, _, rfl, _⟩ := h; rfl) | (obtain ⟨_, _, _, _, _, _, _, _, rfl, _⟩ := h; rfl) | (obtain ⟨_, _, _, _, _, _, _, _, _, rfl, _⟩ := h; rfl) | (obtain ⟨_, _, _, _, _, _, _, _, _, _, rfl, _⟩ := h; rfl) | (obtain ⟨_, _, _, _, _, _, _, _, _, _, _, rfl, _⟩ := h; rfl) | (obtain ⟨_, _, _, _, _, _, _, _, _, _, _, _, rfl, _⟩ := h; rfl)
  · refine ⟨_, (pss_cons (ps_if (pt_not (pt_val (pe_callB call_isi (by rfl) T.b_isinstance (by decide +kernel) (pa_cons (pv 0) (pa_cons (pe_bltn (v := .ty "str") (by rfl) T.b_str (by decide +kernel) rfl) pa_nil)))))
      (pss_one (ps_ret pe_bl))
      pss_nil)
      (pss_cons (ps_if (pt_val (pe_m1 PySem.F.slot_str_startswith PySem.F.type_str_startswith mt_startswith (pv 0) (pe_gc (by rfl) T.c_EXCEPTION)))
      (pss_cons (ps_set (i := 1) sc__is_rule.nd rfl (by first | exact Or.inl rfl | exact Or.inr rfl) (pe_split (pe_slice sl_str (pv 0) (po_some pe_int) po_none) pe_str))
      (pss_one (ps_ret (pe_and (pe_cmpR (op_gt) (pe_callB call_len_seq (by rfl) T.b_len (by decide +kernel) (pa_cons (pv 1) pa_nil)) pe_int (nomark _)) (pe_one (pe_c (ok_are_labels T) hr (by decide) (by rfl) pass0 (pa_cons (pv 1) pa_nil)))))))
      pss_nil)
      (pss_one (ps_ret (pe_c (ok_are_labels T) hr (by decide) (by rfl) pass0 (pa_cons (pe_split (pe_m1 PySem.F.slot_str_removeprefix PySem.F.type_str_removeprefix mt_removeprefix (pv 0) (pe_op op_add_str (pe_gc (by rfl) T.c_ANY) pe_str)) pe_str) pa_nil)))))), ?_⟩
    obtain ⟨v, rfl, hv, hQ⟩ := h
    rcases hv with ⟨x, rfl, hx⟩ | ⟨t, ht, hk⟩
    rotate_left
    · have e : ruV v = false := by
        have := ty_nostr ht hk
        cases v with
        | str x => exact absurd rfl (this x)
        | _ => rfl
      rw [e] at hQ
      exact ⟨_, rfl, _, _, _, _, false, rfl, .ty _, ht, hk, _, rfl, iteT (hQ _ (Same.refl _))⟩
    have hQ : ∀ H' : Hp, Same H H' → Q (.bl (ruleB (tl x))) H' := hQ
    refine ⟨_, rfl, _, _, _, _, true, rfl, .ty _, .base (.str x), kit_str K, _, rfl, iteF ?_⟩
    refine ⟨_, rfl, ⟨_, rfl⟩, _, _, rfl, rfl, _, rfl, ?_⟩
    rw [bang_exc2]
    unfold ruleB at hQ
    cases hx1 : excT (tl x) with
    | true =>
      rw [hx1, if_pos rfl] at hQ
      have el : (cutS x (some 1) none).length ≤ 1000 := by
        rw [len_tl, cutS_from x (by decide), List.length_drop, ← len_tl]
        omega
      have ep : tl (cutS x (some 1) none) = (tl x).tail := by rw [cutS_from x (by decide), ← List.drop_one]; rfl
      refine iteT ⟨_, rfl, _, rfl, x, rfl, Nat.le_trans hx (by decide), ⟨_, rfl⟩, _, _, rfl, rfl, by decide +kernel, Nat.le_trans (by omega : _ ≤ 100000) (by decide), fun p hp => ?_⟩
      have e1 := split_sp1 (cutS x (some 1) none) (c := 46) (by decide)
      have ml : ∀ p ∈ Txt.split (cutS x (some 1) none) ⟨#[46]⟩, p.length ≤ 1000 := fun p hp => Nat.le_trans (split_mem_len (c := 46) (by decide) hp) el
      rw [← dot_eq] at e1 ml
      rw [ep] at e1
      rw [← e1] at hQ
      generalize Txt.split (cutS x (some 1) none) ("." : Str) = P at *
      have s1 := Same.new (o := HO.lst (P.map V.str)) hp
      have m1 : (upd H p (.lst (P.map V.str))) p = some (.lst (P.map V.str)) := upd_same
      generalize upd H p (.lst (P.map V.str)) = H1 at s1 m1 ⊢
      refine ⟨_, rfl, p, _, rfl, .inl (SqL.of m1), _, _, rfl, rfl, ?_⟩
      refine ⟨_, rfl, iteB (fun h2 => ?_) (fun h2 => ?_)⟩
      · have h2 : (1 : Int) < ((P.map V.str).length : Int) := of_decide_eq_true h2
        rw [List.length_map] at h2
        rw [decide_eq_true (by rw [List.length_map]; omega), Bool.true_and] at hQ
        exact ⟨_, rfl, p, P, rfl, SqL.of m1, fun y hy => Nat.le_trans (ml y hy) (by decide), hQ _ s1⟩
      · have h2 : ¬ (1 : Int) < ((P.map V.str).length : Int) := of_decide_eq_false h2
        rw [List.length_map] at h2
        rw [decide_eq_false (by rw [List.length_map]; omega), Bool.false_and] at hQ
        exact hQ _ s1
    | false =>
      rw [hx1, if_neg Bool.false_ne_true] at hQ
      refine iteF ?_
      obtain ⟨y, ey, hy, eq⟩ : ∃ y : Str, Txt.removeprefix x (("*" : Str) ++ ("." : Str)) = y ∧ y.length ≤ 1000 ∧ tl y = (if [42, 46].isPrefixOf (tl x) = true then (tl x).drop 2 else tl x) := by
        refine ⟨_, rfl, ?_⟩
        by_cases g : [42, 46].isPrefixOf (tl x) = true
        · obtain ⟨u, eu⟩ := List.isPrefixOf_iff_prefix.mp g
          have h1 := removeprefix_hit (x := x) (y := ("*" : Str) ++ ("." : Str)) (b := u) (by rw [tl_stardot, eu])
          rw [if_pos g, len_tl, h1, ← eu]
          rw [len_tl, ← eu] at hx
          exact ⟨by rw [List.length_append] at hx; omega, rfl⟩
        · rw [if_neg g, removeprefix_miss (by rw [tl_stardot]; exact fun q => g (List.isPrefixOf_iff_prefix.mpr q))]
          exact ⟨hx, rfl⟩
      rw [← eq] at hQ
      refine ⟨_, rfl, ⟨_, rfl⟩, _, _, rfl, rfl, by decide +kernel, _, _, rfl, rfl, Nat.le_trans hx (by decide), ?_⟩
      rw [ey]
      have e1 := split_sp1 y (c := 46) (by decide)
      have ml : ∀ p ∈ Txt.split y ⟨#[46]⟩, p.length ≤ 1000 := fun p hp => Nat.le_trans (split_mem_len (c := 46) (by decide) hp) hy
      rw [← dot_eq] at e1 ml
      rw [← e1] at hQ
      refine ⟨⟨_, rfl⟩, _, _, rfl, rfl, by decide +kernel, Nat.le_trans (by omega : _ ≤ 100000) (by decide), fun p hp => ?_⟩
      exact ⟨p, _, rfl, SqL.of upd_same, fun z hz => Nat.le_trans (ml z hz) (by decide), hQ _ (Same.new hp)⟩
theorem ok_need_rules (T : Txt K mg) : Cal P w K mg base (L2.CX P w) 5 "need_rules" ["rules"] (sp_need_rules K mg) := by
  refine T.d_need_rules.okX sc_need_rules (fun vs H Q E h => ?_) (fun f cdv A outer s H vs Q E hr h => ?_)
  · first | (obtain ⟨_, rfl, _⟩ := h; rfl) | (obtain ⟨_, _, rfl, _⟩ := h; rfl) | (obtain ⟨_, _, _, rfl, _⟩ := h; rfl) | (obtain ⟨_, _, _, _, rfl, _⟩ := h; rfl) | (obtain ⟨_, _, _, _, _, rfl, _⟩ := h; rfl) | (obtain ⟨_, _, _, _, _, _, rfl, _⟩ := h; rfl) | (obtain ⟨_, _, _, _, _, _, _, rfl, _⟩ := h; rfl) | (obtain ⟨_, _, _, _, _, _, _, _, rfl, _⟩ := h; rfl) | (obtain ⟨_, _, _, _, _, _, _, _, _, rfl, _⟩ := h; rfl) | (obtain ⟨_, _, _, _, _, _, _, _, _, _, rfl, _⟩ := h; rfl) | (obtain ⟨_, _, _, _, _, _, _, _, _, _, _, rfl, _⟩ := h; rfl) | (obtain ⟨_, _, _, _, _, _, _, _, _, _, _, _, rfl, _⟩ := h; rfl)
  · obtain ⟨C_BadRules, e_BadRules⟩ := T.e_BadRules
    refine ⟨_, (pss_cons (ps_if (pt_not (pt_val (pe_callB call_isi (by rfl) T.b_isinstance (by decide +kernel) (pa_cons (pv 0) (pa_cons (pe_bltn (v := .ty "tuple") (by rfl) T.b_tuple (by decide +kernel) rfl) pa_nil)))))
      (pss_one (ps_raiseE rfl e_BadRules hr (by decide) pass0 (takes_of rfl rfl rfl rfl) (pa_cons pe_non pa_nil) (by rfl)))
      pss_nil)
      (pss_one (ps_for (passes_of rfl) rfl (pi_enumT (by rfl) T.b_enumerate (pa_cons (pv 0) pa_nil)) (pg_tup rfl (pgs_cons (pg_name (i := 1) sc_need_rules.nd rfl (by first | exact Or.inl rfl | exact Or.inr rfl)) (pgs_cons (pg_name (i := 2) sc_need_rules.nd rfl (by first | exact Or.inl rfl | exact Or.inr rfl)) pgs_nil)))
      (pss_one (ps_if (PW.pt (pw_or (pt_cmpR (op_eq) (pv 1) (pe_gc (by rfl) T.c_MOST_RULES) (nomark _)) (pw_or (pt_not (pt_val (pe_c (ok__is_rule T) hr (by decide) (by rfl) pass0 (pa_cons (pv 2) pa_nil)))) (pw_or1 (pt_cmpR (op_in_seq) (pv 2) (pe_slice sl_tupA (pv 0) po_none (po_some (pv 1))) (by with_unfolding_all rfl))))))
      (pss_one (ps_raiseE rfl e_BadRules hr (by decide) pass0 (takes_of rfl rfl rfl rfl) (pa_cons (pv 1) pa_nil) (by rfl)))
      pss_nil))))), ?_⟩
    obtain ⟨v, b, rfl, hv, q1, q2⟩ := h
    rcases hv with ⟨t, ht, hk, rfl⟩ | ⟨p, xs, rfl, hp, hx, hl, hb⟩
    · exact ⟨_, rfl, _, _, _, _, false, rfl, .ty _, ht, hk, _, rfl, iteT ⟨_, rfl, fun d hd => q2 .non rfl C_BadRules d _ e_BadRules.g (Same.refl _) hd⟩⟩
    have fin : ∀ i d H1, i < xs.length → ¬ OkAt xs i → (∀ j, j < i → OkAt xs j) → Same H H1 → H1 d = none → E (.ref C_BadRules) (some d) (L2.upd H1 d (.xd [(("index" : Str), .int (i : Nat))])) := by
      intro i d H1 hi hw ho s hd
      rcases hb with ⟨ha, _⟩ | ⟨k, hk, rfl⟩
      · exact absurd (ha i hi) hw
      · obtain rfl : k = i := by
          rcases Nat.lt_trichotomy k i with q | q | q
          · exact absurd (ho k q) hk.2.1
          · exact q
          · exact absurd (hk.2.2 i q) hw
        exact q2 _ rfl C_BadRules d _ e_BadRules.g s hd
    refine ⟨_, rfl, _, _, _, _, true, rfl, .ty _, .base (.tup hp), kit_ty (by decide +kernel), _, rfl, iteF ?_⟩
    refine ⟨_, rfl, p, _, rfl, SqT.of hp, for_enumT (K := K) (a := p) (xs := xs) (fun i σ H1 => ∃ v1 v2, σ = [some (.ref p), v1, v2] ∧ Same H H1 ∧ ∀ j, j < i → OkAt xs j) ⟨none, none, rfl, Same.refl _, fun j hj => absurd hj (Nat.not_lt_zero j)⟩ (fun i σ H1 _ ⟨_, _, _, s, _⟩ => SqT.of (s _ _ hp)) ?_ ?_⟩
    · rintro i v T σ H1 hi ⟨v1, v2, rfl, s1, ho⟩ hT
      have hil := (List.getElem?_eq_some_iff.mp hi).1
      have s2 := s1.trans (Same.new (o := HO.tup [V.int (i : Nat), v]) hT)
      refine ⟨T, _, rfl, SqT.of upd_same, rfl, _, _, rfl, _, _, rfl, rfl, ?_⟩
      generalize upd H1 T (.tup [V.int (i : Nat), v]) = H2 at s2 ⊢
      refine ⟨_, rfl, rfl, _, rfl, iteB (fun h30 => ?_) (fun h30 => ?_)⟩
      · have h30 : i = 30 := by rw [dec_int] at h30; have := beq_iff_eq.mp h30; omega
        exact iteT ⟨_, rfl, _, rfl, fun d hd => fin i d _ hil (fun z => z.1 h30) ho s2 hd⟩
    
      have h30 : i ≠ 30 := fun e => by rw [dec_int] at h30; exact beq_eq_false_iff_ne.mp h30 (by omega)
      refine ⟨_, rfl, v, rfl, (hx v (List.mem_of_getElem? hi)).same s2, fun H3 s3 => ⟨_, rfl, ?_⟩⟩
      have s4 := s2.trans s3
      cases hru : ruV v with
      | false => exact iteT (iteT ⟨_, rfl, _, rfl, fun d hd => fin i d _ hil (fun ⟨_, v', e1, e2, _⟩ => by rw [hi] at e1; cases e1; rw [hru] at e2; cases e2) ho s4 hd⟩)
      | true =>
        refine iteF ?_
        have hq := SqT.of (K := K) (s4 _ _ hp)
        obtain ⟨r, rfl⟩ : ∃ r : Str, v = .str r := by
          cases v with
          | str x => exact ⟨x, rfl⟩
          | _ => cases hru
        refine ⟨_, rfl, _, rfl, _, rfl, _, rfl, p, _, rfl, hq, fun hw => ?_, fun _ p2 hp2 => ?_⟩
        · exfalso
          have := hw.2
          rw [show HT.sIx xs.length xs.length (some ((i : Nat) : Int)) = min i xs.length from HT.sIx_nat _ _ _] at this
          omega
        · rw [cutV_to _ (by omega : (0 : Int) ≤ (i : Nat)), Int.toNat_natCast]
          obtain ⟨rs, ers, nd, hr, hl2, h30'⟩ := ok_strs i (by omega) ho
          rw [ers]
          have s5 := s4.trans (Same.new (o := HO.tup (rs.map V.str)) hp2)
          refine ⟨p2, _, rfl, .inr (SqT.of upd_same), rfl, Kb.flat_strs _, ?_⟩
          rw [in_strs]
          refine ⟨_, rfl, ?_⟩
          refine iteB (fun hin => ?_) (fun hin => ?_)
          · have hin : r ∈ rs := of_decide_eq_true hin
            refine ⟨_, rfl, _, rfl, fun d hd => fin i d _ hil (fun ⟨_, v', e1, _, e3⟩ => ?_) ho s5 hd⟩
            rw [hi] at e1; cases e1
            exact e3 (by rw [ers]; exact List.mem_map.mpr ⟨r, hin, rfl⟩)
          · have hin : r ∉ rs := of_decide_eq_false hin
            refine ⟨_, _, rfl, s5, fun j hj => ?_⟩
            rcases Nat.lt_succ_iff_lt_or_eq.mp hj with q | rfl
            · exact ho j q
            · refine ⟨h30, _, hi, hru, fun z => ?_⟩
              rw [ers] at z
              obtain ⟨y, hy, e⟩ := List.mem_map.mp z
              cases e
              exact hin hy
    · rintro σ H1 ⟨v1, v2, rfl, s1, ho⟩
      rcases hb with ⟨ha, rfl⟩ | ⟨k, hk, _⟩
      · exact q1 rfl _ s1
      · exact absurd (ho k hk.1) hk.2.1
theorem ok_is_digits (T : Txt K mg) : Cal P w K mg base CX0 2 "is_digits" ["text"] sp_is_digits := by
  refine T.d_is_digits.ok0 sc_is_digits (fun vs H Q E h => ?_) (fun f cdv A outer s H vs Q E hr h => ?_)
  · first | (obtain ⟨_, rfl, _⟩ := h; rfl) | (obtain ⟨_, _, rfl, _⟩ := h; rfl) | (obtain ⟨_, _, _, rfl, _⟩ := h; rfl) | (obtain ⟨_, _, _, _, rfl, _⟩ := h; rfl) | (obtain ⟨_, _, _, _, _, rfl, _⟩ := h; rfl) | (obtain ⟨_, _, _, _, _, _, rfl, _⟩ := h; rfl) | (obtain ⟨_, _, _, _, _, _, _, rfl, _⟩ := h; rfl) | (obtain ⟨_, _, _, _, _, _, _, _, rfl, _⟩ := h; rfl) | (obtain ⟨_, _, _, _, _, _, _, _, _, rfl, _⟩ := h; rfl) | (obtain ⟨_, _, _, _, _, _, _, _, _, _, rfl, _⟩ := h; rfl) | (obtain ⟨_, _, _, _, _, _, _, _, _, _, _, rfl, _⟩ := h; rfl) | (obtain ⟨_, _, _, _, _, _, _, _, _, _, _, _, rfl, _⟩ := h; rfl)
  · refine ⟨_, (pss_one (ps_ret (pe_c (ok_has_only T) hr (by decide) (by rfl) pass0 (pa_cons (pv 0) (pa_cons (pe_gc (by rfl) T.c_DIGITS) pa_nil))))), ?_⟩
    obtain ⟨x, rfl, hx, hQ⟩ := h
    exact ⟨_, rfl, x, _, rfl, hx, by rw [tl_digs]; exact hQ⟩
theorem ok__is_number (T : Txt K mg) : Cal P w K mg base CX0 3 "_is_number" ["label"] sp__is_number := by
  refine T.d__is_number.ok0 sc__is_number (fun vs H Q E h => ?_) (fun f cdv A outer s H vs Q E hr h => ?_)
  · first | (obtain ⟨_, rfl, _⟩ := h; rfl) | (obtain ⟨_, _, rfl, _⟩ := h; rfl) | (obtain ⟨_, _, _, rfl, _⟩ := h; rfl) | (obtain ⟨_, _, _, _, rfl, _⟩ := h; rfl) | (obtain ⟨_, _, _, _, _, rfl, _⟩ := h; rfl) | (obtain ⟨_, _, _, _, _, _, rfl, _⟩ := h; rfl) | (obtain ⟨_, _, _, _, _, _, _, rfl, _⟩ := h; rfl) | (obtain ⟨_, _, _, _, _, _, _, _, rfl, _⟩ := h; rfl) | (obtain ⟨_, _, _, _, _, _, _, _, _, rfl, _⟩ := h; rfl) | (obtain ⟨_, _, _, _, _, _, _, _, _, _, rfl, _⟩ := h; rfl) | (obtain ⟨_, _, _, _, _, _, _, _, _, _, _, rfl, _⟩ := h; rfl) | (obtain ⟨_, _, _, _, _, _, _, _, _, _, _, _, rfl, _⟩ := h; rfl)
  · refine ⟨_, (pss_cons (ps_if (PW.pt (pw_or (pt_not (pt_val (pe_c (ok_is_digits T) hr (by decide) (by rfl) pass0 (pa_cons (pv 0) pa_nil)))) (pw_or1 (pt_cmpR (op_gt) (pe_callTy call_int_str (by rfl) T.b_int (by decide +kernel) (pa_cons (pv 0) pa_nil)) (pe_gc (by rfl) T.c_MOST_OF_NUMBER) (nomark _)))))
      (pss_one (ps_ret pe_bl))
      pss_nil)
      (pss_one (ps_ret (pe_or (pe_cmpR (op_eq) (pv 0) pe_str (nomark _)) (pe_one (pe_cmpR (op_ne) (pe_ix ix_str (pv 0) pe_int (fun _ _ => rfl)) pe_str (nomark _))))))), ?_⟩
    obtain ⟨x, rfl, hx, hQ⟩ := h
    unfold numB at hQ
    refine ⟨_, rfl, x, rfl, Nat.le_trans hx (by decide), _, rfl, ?_⟩
    cases h1 : digB (tl x) with
    | false =>
      rw [h1, Bool.false_and] at hQ
      exact iteT hQ
    | true =>
      rw [h1, Bool.true_and] at hQ
      refine iteF ⟨_, rfl, x, _, rfl, int_dig h1 hx, hx, _, _, rfl, rfl, _, rfl, ?_⟩
      refine iteB (fun h2 => ?_) (fun h2 => ?_)
      · have h2 : (255 : Int) < ((NumText.digitsVal (tl x) : Nat) : Int) := of_decide_eq_true h2
        rw [decide_eq_false (by omega), Bool.false_and] at hQ
        exact hQ
      · have h2 : ¬ (255 : Int) < ((NumText.digitsVal (tl x) : Nat) : Int) := of_decide_eq_false h2
        rw [decide_eq_true (by omega), Bool.true_and] at hQ
        refine ⟨_, rfl, rfl, _, rfl, ?_⟩
        rw [str_zero]
        cases h3 : decide (tl x = [48]) with
        | true =>
          rw [h3, Bool.true_or] at hQ
          exact iteT hQ
        | false =>
          rw [h3, Bool.false_or] at hQ
          obtain ⟨a, r2, ea⟩ : ∃ a r2, tl x = a :: r2 := List.exists_cons_of_ne_nil (digB_iff.mp h1).2
          have h0 : atI x.cps.toList 0 = some a := by show atI (tl x) ((0 : Nat) : Int) = _; rw [ea]; exact atI_nat rfl
          refine iteF ⟨_, rfl, x, _, a, rfl, rfl, Nat.le_trans hx (by decide), h0, rfl, ?_⟩
          rw [one_zero]
          have e3 : decide ((tl x).head? ≠ some 48) = !decide (a = 48) := by rw [ea, Bool.eq_iff_iff]; simp
          rw [e3] at hQ
          exact hQ
theorem ok__are_four_numbers (T : Txt K mg) : Cal P w K mg base CX0 4 "_are_four_numbers" ["labels"] (sp__are_four_numbers K) := by
  refine T.d__are_four_numbers.ok0 sc__are_four_numbers (fun vs H Q E h => ?_) (fun f cdv A outer s H vs Q E hr h => ?_)
  · first | (obtain ⟨_, rfl, _⟩ := h; rfl) | (obtain ⟨_, _, rfl, _⟩ := h; rfl) | (obtain ⟨_, _, _, rfl, _⟩ := h; rfl) | (obtain ⟨_, _, _, _, rfl, _⟩ := h; rfl) | (obtain ⟨_, _, _, _, _, rfl, _⟩ := h; rfl) | (obtain ⟨_, _, _, _, _, _, rfl, _⟩ := h; rfl) | (obtain ⟨_, _, _, _, _, _, _, rfl, _⟩ := h; rfl) | (obtain ⟨_, _, _, _, _, _, _, _, rfl, _⟩ := h; rfl) | (obtain ⟨_, _, _, _, _, _, _, _, _, rfl, _⟩ := h; rfl) | (obtain ⟨_, _, _, _, _, _, _, _, _, _, rfl, _⟩ := h; rfl) | (obtain ⟨_, _, _, _, _, _, _, _, _, _, _, rfl, _⟩ := h; rfl) | (obtain ⟨_, _, _, _, _, _, _, _, _, _, _, _, rfl, _⟩ := h; rfl)
  · refine ⟨_, (pss_cons (ps_for PassesOwn.never rfl (pi_list (pv 0)) (pg_name (i := 1) sc__are_four_numbers.nd rfl (by first | exact Or.inl rfl | exact Or.inr rfl))
      (pss_one (ps_if (pt_not (pt_val (pe_c (ok__is_number T) hr (by decide) (by rfl) pass0 (pa_cons (pv 1) pa_nil))))
      (pss_one (ps_ret pe_bl))
      pss_nil)))
      (pss_one (ps_ret (pe_cmpR (op_eq) (pe_callB call_len_seq (by rfl) T.b_len (by decide +kernel) (pa_cons (pv 0) pa_nil)) pe_int (nomark _))))), ?_⟩
    obtain ⟨p, xs, rfl, hp, hx, hQ⟩ := h
    refine ⟨_, rfl, p, rfl, ⟨_, hp⟩, for_list (K := K) (a := p) (xs := xs.map V.str) (fun i σ H1 => ∃ sv, σ = [some (.ref p), sv] ∧ H1 = H ∧ ((xs.take i).map tl).all numB = true) ⟨none, rfl, rfl, by simp⟩ (fun i σ H1 _ ⟨_, _, e, _⟩ => by rw [e]; exact hp) ?_ ?_⟩
    · rintro i v σ H1 hi ⟨sv, rfl, rfl, ha⟩
      obtain ⟨x, hxi, rfl⟩ := strAt hi
      refine ⟨_, rfl, x, rfl, hx x (List.mem_of_getElem? hxi), _, rfl, ?_⟩
      cases hl : numB (tl x) with
      | true => exact iteF ⟨_, rfl, rfl, by rw [allS_at hxi, ha, hl]; rfl⟩
      | false =>
        have e : (xs.map tl).all numB = false := by
          rw [List.all_eq_false]
          exact ⟨tl x, List.mem_map.mpr ⟨x, List.mem_of_getElem? hxi, rfl⟩, by rw [hl]; exact Bool.false_ne_true⟩
        rw [e, Bool.false_and] at hQ
        exact iteT hQ
    · rintro σ H1 ⟨sv, rfl, rfl, ha⟩
      rw [List.length_map, List.take_length] at ha
      rw [ha, Bool.true_and] at hQ
      refine ⟨_, rfl, p, _, rfl, .inl hp, rfl, ?_⟩
      have e : decide (V.int ((xs.map V.str).length : Nat) = V.int 4) = decide (xs.length = 4) := by
        rw [dec_int, Bool.eq_iff_iff, beq_iff_eq, decide_eq_true_eq, List.length_map]; omega
      rw [e]
      exact hQ
theorem ok_is_host (T : Txt K mg) : Cal P w K mg base CX0 5 "is_host" ["value"] (sp_is_host K) := by
  refine T.d_is_host.ok0 sc_is_host (fun vs H Q E h => ?_) (fun f cdv A outer s H vs Q E hr h => ?_)
  · first | (obtain ⟨_, rfl, _⟩ := h; rfl) | (obtain ⟨_, _, rfl, _⟩ := h; rfl) | (obtain ⟨_, _, _, rfl, _⟩ := h; rfl) | (obtain ⟨_, _, _, _, rfl, _⟩ := h; rfl) | (obtain ⟨_, _, _, _, _, rfl, _⟩ := h; rfl) | (obtain ⟨_, _, _, _, _, _, rfl, _⟩ := h; rfl) | (obtain ⟨_, _, _, _, _, _, _, rfl, _⟩ := h; rfl) | (obtain ⟨_, _, _, _, _, _, _, _, rfl, _⟩ := h; rfl) | (obtain ⟨_, _, _, _, _, _, _, _, _, rfl, _⟩ := h; rfl) | (obtain ⟨_, _, _, _, _, _, _, _, _, _, rfl, _⟩ := h; rfl) | (obtain ⟨_, _, _, _, _, _, _, _, _, _, _, rfl, _⟩ := h; rfl) | (obtain ⟨_, _, _, _, _, _, _, _, _, _, _, _, rfl, _⟩ := h; rfl)
  · refine ⟨_, (pss_cons (ps_if (PW.pt (pw_or (pt_not (pt_val (pe_callB call_isi (by rfl) T.b_isinstance (by decide +kernel) (pa_cons (pv 0) (pa_cons (pe_bltn (v := .ty "str") (by rfl) T.b_str (by decide +kernel) rfl) pa_nil))))) (pw_or1 (pt_cmpR (op_gt) (pe_callB call_len_str (by rfl) T.b_len (by decide +kernel) (pa_cons (pv 0) pa_nil)) (pe_gc (by rfl) T.c_MOST_OF_HOST) (nomark _)))))
      (pss_one (ps_ret pe_bl))
      pss_nil)
      (pss_cons (ps_set (i := 1) sc_is_host.nd rfl (by first | exact Or.inl rfl | exact Or.inr rfl) (pe_split (pv 0) pe_str))
      (pss_cons (ps_if (PW.pt (pw_or (pt_cmpR (op_gt) (pe_callB call_len_seq (by rfl) T.b_len (by decide +kernel) (pa_cons (pv 1) pa_nil)) (pe_gc (by rfl) T.c_MOST_LABELS) (nomark _)) (pw_or1 (pt_not (pt_val (pe_c (ok_are_labels T) hr (by decide) (by rfl) pass0 (pa_cons (pv 1) pa_nil)))))))
      (pss_one (ps_ret pe_bl))
      pss_nil)
      (pss_one (ps_ret (pe_or (pe_not (pe_c (ok_is_digits T) hr (by decide) (by rfl) pass0 (pa_cons (pe_ix ix_list (pv 1) (pe_un un_neg pe_int) (fun _ _ => rfl)) pa_nil))) (pe_one (pe_c (ok__are_four_numbers T) hr (by decide) (by rfl) pass0 (pa_cons (pv 1) pa_nil))))))))), ?_⟩
    obtain ⟨v, b, rfl, hv, hQ⟩ := h
    rcases hv with ⟨x, rfl, hx, rfl⟩ | ⟨t, ht, hk, rfl⟩
    · refine ⟨_, rfl, _, _, _, _, true, rfl, .ty _, .base (.str x), kit_str K, _, rfl, iteF ?_⟩
      refine ⟨_, rfl, x, rfl, Nat.le_trans hx (by decide), _, _, rfl, rfl, _, rfl, iteB (fun h1 => ?_) (fun h1 => ?_)⟩
      · have h1 : (100 : Int) < (x.length : Int) := of_decide_eq_true h1
        have e : hostB (tl x) = false := by
          unfold hostB
          rw [decide_eq_false (by rw [len_tl] at h1; omega), Bool.false_and]
        rw [e] at hQ
        exact hQ _ (Same.refl _)
      have h1 : ¬ (100 : Int) < (x.length : Int) := of_decide_eq_false h1
      have hl : (tl x).length ≤ 100 := by rw [len_tl] at h1; omega
      have hl2 : x.length ≤ 100 := by rw [len_tl]; exact hl
      unfold hostB at hQ
      rw [decide_eq_true hl, Bool.true_and] at hQ
      refine ⟨_, rfl, ⟨_, rfl⟩, _, _, rfl, rfl, by decide +kernel, Nat.le_trans (by omega : _ ≤ 10000) (by decide), fun p hp => ?_⟩
      have e1 := split_sp1 x (c := 46) (by decide)
      have ml : ∀ p ∈ Txt.split x ⟨#[46]⟩, p.length ≤ x.length := fun p hp => split_mem_len (c := 46) (by decide) hp
      rw [← dot_eq] at e1 ml
      rw [← e1] at hQ
      have hne : Txt.split x ("." : Str) ≠ [] := fun e => by rw [e] at e1; exact sp1_ne _ _ e1.symm
      generalize Txt.split x ("." : Str) = P at *
      obtain ⟨P0, z, eP⟩ : ∃ P0 z, P = P0 ++ [z] := ⟨P.dropLast, P.getLast hne, (List.dropLast_concat_getLast hne).symm⟩
      have s1 := Same.new (o := HO.lst (P.map V.str)) hp
      have m1 : (upd H p (.lst (P.map V.str))) p = some (.lst (P.map V.str)) := upd_same
      generalize upd H p (.lst (P.map V.str)) = H1 at s1 m1 ⊢
      unfold hostL at hQ
      refine ⟨_, rfl, p, _, rfl, .inl (SqL.of m1), _, _, rfl, rfl, _, rfl, iteB (fun h2 => ?_) (fun h2 => ?_)⟩
      · have h2 : (10 : Int) < ((P.map V.str).length : Int) := of_decide_eq_true h2
        rw [List.length_map] at h2
        rw [decide_eq_false (by rw [List.length_map]; omega), Bool.false_and] at hQ
        exact hQ _ s1
      have h2 : ¬ (10 : Int) < ((P.map V.str).length : Int) := of_decide_eq_false h2
      rw [List.length_map] at h2
      rw [decide_eq_true (by rw [List.length_map]; omega), Bool.true_and] at hQ
      refine ⟨_, rfl, p, P, rfl, SqL.of m1, fun y hy => Nat.le_trans (ml y hy) (by omega), _, rfl, ?_⟩
      cases h3 : (P.map tl).all labB with
      | false =>
        rw [h3, Bool.false_and] at hQ
        exact iteT (hQ _ s1)
      | true =>
        rw [h3, Bool.true_and, lastL_map eP] at hQ
        refine iteF ?_
        have ha : atI (P.map V.str) (-1) = some (.str z) := by rw [eP, List.map_append]; exact atI_last _ _
        refine ⟨_, rfl, _, rfl, p, _, _, _, rfl, rfl, SqL.of m1, ha, z, rfl, Nat.le_trans (ml z (by rw [eP]; simp)) (by omega), _, rfl, _, rfl, ?_⟩
        cases h4 : digB (tl z) with
        | false =>
          rw [h4] at hQ
          exact iteT (hQ _ s1)
        | true =>
          rw [h4] at hQ
          refine iteF ⟨_, rfl, p, P, rfl, SqL.of m1, fun y hy => Nat.le_trans (ml y hy) (by omega), ?_⟩
          rw [List.length_map] at hQ
          exact hQ _ s1
    · refine ⟨_, rfl, _, _, _, _, false, rfl, .ty _, ht, hk, _, rfl, iteT ?_⟩
      exact hQ _ (Same.refl _)
theorem ok__is_scheme (T : Txt K mg) : Cal P w K mg base CX0 1 "_is_scheme" ["value"] sp__is_scheme := by
  refine T.d__is_scheme.ok0 sc__is_scheme (fun vs H Q E h => ?_) (fun f cdv A outer s H vs Q E hr h => ?_)
  · first | (obtain ⟨_, rfl, _⟩ := h; rfl) | (obtain ⟨_, _, rfl, _⟩ := h; rfl) | (obtain ⟨_, _, _, rfl, _⟩ := h; rfl) | (obtain ⟨_, _, _, _, rfl, _⟩ := h; rfl) | (obtain ⟨_, _, _, _, _, rfl, _⟩ := h; rfl) | (obtain ⟨_, _, _, _, _, _, rfl, _⟩ := h; rfl) | (obtain ⟨_, _, _, _, _, _, _, rfl, _⟩ := h; rfl) | (obtain ⟨_, _, _, _, _, _, _, _, rfl, _⟩ := h; rfl) | (obtain ⟨_, _, _, _, _, _, _, _, _, rfl, _⟩ := h; rfl) | (obtain ⟨_, _, _, _, _, _, _, _, _, _, rfl, _⟩ := h; rfl) | (obtain ⟨_, _, _, _, _, _, _, _, _, _, _, rfl, _⟩ := h; rfl) | (obtain ⟨_, _, _, _, _, _, _, _, _, _, _, _, rfl, _⟩ := h; rfl)
  · obtain ⟨a_SCHEMES, hm_SCHEMES, sq_SCHEMES⟩ := T.c_SCHEMES
    refine ⟨_, (pss_one (ps_ret (pe_and (pe_callB call_isi (by rfl) T.b_isinstance (by decide +kernel) (pa_cons (pv 0) (pa_cons (pe_bltn (v := .ty "str") (by rfl) T.b_str (by decide +kernel) rfl) pa_nil))) (pe_one (pe_cmpR (op_in_seq) (pv 0) (pe_gt (by rfl) hm_SCHEMES) (by with_unfolding_all rfl)))))), ?_⟩
    obtain ⟨x, rfl, hx, hQ⟩ := h
    have sq : ∀ H1 : Hp, SqT K H1 a_SCHEMES (schemes2.map V.str) := sq_SCHEMES
    refine ⟨_, rfl, _, _, _, _, true, rfl, .ty _, .base (.str x), kit_str K, _, rfl, iteT ?_⟩
    refine ⟨_, rfl, a_SCHEMES, schemes2.map V.str, rfl, .inr (sq H), rfl, by decide +kernel, ?_⟩
    rw [in_strs, decide_eq_true hx]
    exact hQ
theorem ok_is_origin (T : Txt K mg) : Cal P w K mg base CX0 6 "is_origin" ["value"] (sp_is_origin K) := by
  refine T.d_is_origin.ok0 sc_is_origin (fun vs H Q E h => ?_) (fun f cdv A outer s H vs Q E hr h => ?_)
  · first | (obtain ⟨_, rfl, _⟩ := h; rfl) | (obtain ⟨_, _, rfl, _⟩ := h; rfl) | (obtain ⟨_, _, _, rfl, _⟩ := h; rfl) | (obtain ⟨_, _, _, _, rfl, _⟩ := h; rfl) | (obtain ⟨_, _, _, _, _, rfl, _⟩ := h; rfl) | (obtain ⟨_, _, _, _, _, _, rfl, _⟩ := h; rfl) | (obtain ⟨_, _, _, _, _, _, _, rfl, _⟩ := h; rfl) | (obtain ⟨_, _, _, _, _, _, _, _, rfl, _⟩ := h; rfl) | (obtain ⟨_, _, _, _, _, _, _, _, _, rfl, _⟩ := h; rfl) | (obtain ⟨_, _, _, _, _, _, _, _, _, _, rfl, _⟩ := h; rfl) | (obtain ⟨_, _, _, _, _, _, _, _, _, _, _, rfl, _⟩ := h; rfl) | (obtain ⟨_, _, _, _, _, _, _, _, _, _, _, _, rfl, _⟩ := h; rfl)
  · refine ⟨_, (pss_cons (ps_if (PW.pt (pw_or (pt_not (pt_val (pe_callB call_isi (by rfl) T.b_isinstance (by decide +kernel) (pa_cons (pv 0) (pa_cons (pe_bltn (v := .ty "tuple") (by rfl) T.b_tuple (by decide +kernel) rfl) pa_nil))))) (pw_or1 (pt_cmpR (op_ne) (pe_callB call_len_seq (by rfl) T.b_len (by decide +kernel) (pa_cons (pv 0) pa_nil)) pe_int (nomark _)))))
      (pss_one (ps_ret pe_bl))
      pss_nil)
      (pss_one (ps_ret (pe_and (pe_c (ok__is_scheme T) hr (by decide) (by rfl) pass0 (pa_cons (pe_ix ix_tup (pv 0) pe_int (fun _ _ => rfl)) pa_nil)) (pe_one (pe_c (ok_is_host T) hr (by decide) (by rfl) pass0 (pa_cons (pe_ix ix_tup (pv 0) pe_int (fun _ _ => rfl)) pa_nil))))))), ?_⟩
    obtain ⟨p, x, y, rfl, hp, hx, hy, hQ⟩ := h
    refine ⟨_, rfl, _, _, _, _, true, rfl, .ty _, .base (.tup hp), kit_ty (by decide +kernel), _, rfl, iteF ?_⟩
    refine ⟨_, rfl, p, _, rfl, .inr (SqT.of hp), rfl, _, rfl, iteF ?_⟩
    refine ⟨_, rfl, p, _, _, _, rfl, rfl, SqT.of hp, rfl, x, rfl, hx, _, rfl, iteT ?_⟩
    refine ⟨_, rfl, p, _, _, _, rfl, rfl, SqT.of hp, rfl, _, true, rfl, .inl ⟨y, rfl, Nat.le_trans (hostB_len hy) (by decide), hy.symm⟩, hQ⟩
theorem ok_is_safe (T : Txt K mg) : Cal P w K mg base CX0 7 "is_safe" ["origin"] (sp_is_safe K) := by
  refine T.d_is_safe.ok0 sc_is_safe (fun vs H Q E h => ?_) (fun f cdv A outer s H vs Q E hr h => ?_)
  · first | (obtain ⟨_, rfl, _⟩ := h; rfl) | (obtain ⟨_, _, rfl, _⟩ := h; rfl) | (obtain ⟨_, _, _, rfl, _⟩ := h; rfl) | (obtain ⟨_, _, _, _, rfl, _⟩ := h; rfl) | (obtain ⟨_, _, _, _, _, rfl, _⟩ := h; rfl) | (obtain ⟨_, _, _, _, _, _, rfl, _⟩ := h; rfl) | (obtain ⟨_, _, _, _, _, _, _, rfl, _⟩ := h; rfl) | (obtain ⟨_, _, _, _, _, _, _, _, rfl, _⟩ := h; rfl) | (obtain ⟨_, _, _, _, _, _, _, _, _, rfl, _⟩ := h; rfl) | (obtain ⟨_, _, _, _, _, _, _, _, _, _, rfl, _⟩ := h; rfl) | (obtain ⟨_, _, _, _, _, _, _, _, _, _, _, rfl, _⟩ := h; rfl) | (obtain ⟨_, _, _, _, _, _, _, _, _, _, _, _, rfl, _⟩ := h; rfl)
  · refine ⟨_, (pss_cons (ps_if (pt_not (pt_val (pe_c (ok_is_origin T) hr (by decide) (by rfl) pass0 (pa_cons (pv 0) pa_nil))))
      (pss_one ps_never)
      pss_nil)
      (pss_cons (ps_asg (pv 0) (pg_tup rfl (pgs_cons (pg_name (i := 1) sc_is_safe.nd rfl (by first | exact Or.inl rfl | exact Or.inr rfl)) (pgs_cons (pg_name (i := 2) sc_is_safe.nd rfl (by first | exact Or.inl rfl | exact Or.inr rfl)) pgs_nil))))
      (pss_one (ps_ret (pe_or (pe_cmpR (op_eq) (pv 1) pe_str (nomark _)) (pe_or (pe_cmpR (op_eq) (pv 2) pe_str (nomark _)) (pe_one (pe_m1 PySem.F.slot_str_endswith PySem.F.type_str_endswith mt_endswith (pv 2) pe_str)))))))), ?_⟩
    obtain ⟨p, x, y, rfl, hp, hx, hy, hQ⟩ := h
    refine ⟨_, rfl, p, x, y, rfl, hp, hx, hy, fun H1 s1 => ⟨_, rfl, iteF ?_⟩⟩
    refine ⟨_, rfl, p, _, rfl, SqT.of (s1 _ _ hp), rfl, _, _, rfl, _, _, rfl, rfl, ?_⟩
    have fin : ∀ b : Bool, safeB x y = b → Q (.bl b) H1 := fun b e => e ▸ hQ _ s1
    refine ⟨_, rfl, rfl, _, rfl, iteB (fun h1 => ?_) (fun h1 => ?_)⟩
    · have h1 : x = "https" := V.str.inj (of_decide_eq_true h1)
      exact fin _ (by unfold safeB; rw [decide_eq_true h1]; rfl)
    · have h1 : ¬ x = "https" := fun e => of_decide_eq_false h1 (by rw [e])
      refine ⟨_, rfl, rfl, _, rfl, iteB (fun h2 => ?_) (fun h2 => ?_)⟩
      · have h2 : y = "localhost" := V.str.inj (of_decide_eq_true h2)
        exact fin _ (by unfold safeB; rw [decide_eq_false h1, decide_eq_true h2]; rfl)
      · have h2 : ¬ y = "localhost" := fun e => of_decide_eq_false h2 (by rw [e])
        refine ⟨_, rfl, ⟨_, rfl⟩, _, _, rfl, rfl, ?_⟩
        rw [endswith_tl]
        exact fin _ (by unfold safeB; rw [decide_eq_false h1, decide_eq_false h2, Bool.false_or, Bool.false_or])
theorem ok__is_path_sign (T : Txt K mg) : Cal P w K mg base CX0 1 "_is_path_sign" ["sign"] sp__is_path_sign := by
  refine T.d__is_path_sign.ok0 sc__is_path_sign (fun vs H Q E h => ?_) (fun f cdv A outer s H vs Q E hr h => ?_)
  · first | (obtain ⟨_, rfl, _⟩ := h; rfl) | (obtain ⟨_, _, rfl, _⟩ := h; rfl) | (obtain ⟨_, _, _, rfl, _⟩ := h; rfl) | (obtain ⟨_, _, _, _, rfl, _⟩ := h; rfl) | (obtain ⟨_, _, _, _, _, rfl, _⟩ := h; rfl) | (obtain ⟨_, _, _, _, _, _, rfl, _⟩ := h; rfl) | (obtain ⟨_, _, _, _, _, _, _, rfl, _⟩ := h; rfl) | (obtain ⟨_, _, _, _, _, _, _, _, rfl, _⟩ := h; rfl) | (obtain ⟨_, _, _, _, _, _, _, _, _, rfl, _⟩ := h; rfl) | (obtain ⟨_, _, _, _, _, _, _, _, _, _, rfl, _⟩ := h; rfl) | (obtain ⟨_, _, _, _, _, _, _, _, _, _, _, rfl, _⟩ := h; rfl) | (obtain ⟨_, _, _, _, _, _, _, _, _, _, _, _, rfl, _⟩ := h; rfl)
  · refine ⟨_, (pss_one (ps_ret (pe_and (pe_chain (op_le_str) (op_le_str) pe_str (pv 0) pe_str) (pe_and (pe_cmpR (op_notIn_sign) (pv 0) (pe_gc (by rfl) T.c_BARRED) rfl) (pe_one (pe_cmpR (op_ne) (pe_callB call_ord (by rfl) T.b_ord (by decide +kernel) (pa_cons (pv 0) pa_nil)) (pe_gc (by rfl) T.c_PERCENT) (nomark _))))))), ?_⟩
    obtain ⟨c, rfl, hQ⟩ := h
    rw [psign_eq] at hQ
    refine ⟨_, rfl, _, _, rfl, rfl, _, rfl, ?_⟩
    refine iteB (fun h1 => ?_) (fun h1 => ?_)
    · rw [if_pos h1] at hQ
      refine ⟨_, _, rfl, rfl, _, rfl, ?_⟩
      refine iteB (fun h2 => ?_) (fun h2 => ?_)
      · rw [if_pos h2] at hQ
        refine ⟨_, rfl, _, _, rfl, rfl, _, rfl, ?_⟩
        refine iteB (fun h3 => ?_) (fun h3 => ?_)
        · rw [if_pos h3] at hQ
          refine ⟨_, rfl, _, rfl, rfl, rfl, ?_⟩
          have e : decide (V.int (((⟨#[c]⟩ : Str).cps.getD 0 0 : Nat) : Int) = V.int 37) = decide ((c : Int) = 37) := by
            rw [show ((⟨#[c]⟩ : Str).cps.getD 0 0) = c from rfl, dec_int]; rfl
          rw [e]
          exact hQ
        · rw [if_neg (by rw [h3]; exact Bool.false_ne_true)] at hQ
          exact hQ
      · rw [if_neg (by rw [h2]; exact Bool.false_ne_true)] at hQ
        exact hQ
    · rw [if_neg (by rw [h1]; exact Bool.false_ne_true)] at hQ
      exact ⟨_, rfl, iteF hQ⟩
theorem ok_is_path (T : Txt K mg) : Cal P w K mg base CX0 2 "is_path" ["value"] (sp_is_path K) := by
  refine T.d_is_path.ok0 sc_is_path (fun vs H Q E h => ?_) (fun f cdv A outer s H vs Q E hr h => ?_)
  · first | (obtain ⟨_, rfl, _⟩ := h; rfl) | (obtain ⟨_, _, rfl, _⟩ := h; rfl) | (obtain ⟨_, _, _, rfl, _⟩ := h; rfl) | (obtain ⟨_, _, _, _, rfl, _⟩ := h; rfl) | (obtain ⟨_, _, _, _, _, rfl, _⟩ := h; rfl) | (obtain ⟨_, _, _, _, _, _, rfl, _⟩ := h; rfl) | (obtain ⟨_, _, _, _, _, _, _, rfl, _⟩ := h; rfl) | (obtain ⟨_, _, _, _, _, _, _, _, rfl, _⟩ := h; rfl) | (obtain ⟨_, _, _, _, _, _, _, _, _, rfl, _⟩ := h; rfl) | (obtain ⟨_, _, _, _, _, _, _, _, _, _, rfl, _⟩ := h; rfl) | (obtain ⟨_, _, _, _, _, _, _, _, _, _, _, rfl, _⟩ := h; rfl) | (obtain ⟨_, _, _, _, _, _, _, _, _, _, _, _, rfl, _⟩ := h; rfl)
  · refine ⟨_, (pss_cons (ps_if (PW.pt (pw_or (pt_not (pt_val (pe_callB call_isi (by rfl) T.b_isinstance (by decide +kernel) (pa_cons (pv 0) (pa_cons (pe_bltn (v := .ty "str") (by rfl) T.b_str (by decide +kernel) rfl) pa_nil))))) (pw_or (pt_cmpR (op_gt) (pe_callB call_len_str (by rfl) T.b_len (by decide +kernel) (pa_cons (pv 0) pa_nil)) (pe_gc (by rfl) T.c_MOST_OF_PATH) (nomark _)) (pw_or1 (pt_not (pt_val (pe_m1 PySem.F.slot_str_startswith PySem.F.type_str_startswith mt_startswith (pv 0) pe_str)))))))
      (pss_one (ps_ret pe_bl))
      pss_nil)
      (pss_cons (ps_for PassesOwn.never rfl (pi_str (pv 0)) (pg_name (i := 1) sc_is_path.nd rfl (by first | exact Or.inl rfl | exact Or.inr rfl))
      (pss_one (ps_if (pt_not (pt_val (pe_c (ok__is_path_sign T) hr (by decide) (by rfl) pass0 (pa_cons (pv 1) pa_nil))))
      (pss_one (ps_ret pe_bl))
      pss_nil)))
      (pss_one (ps_ret pe_bl)))), ?_⟩
    obtain ⟨v, b, rfl, hv, hQ⟩ := h
    rcases hv with ⟨x, rfl, hx, rfl⟩ | ⟨t, ht, hk, rfl⟩
    · refine ⟨_, rfl, _, _, _, _, true, rfl, .ty _, .base (.str x), kit_str K, _, rfl, iteF ?_⟩
      refine ⟨_, rfl, x, rfl, Nat.le_trans hx (by decide), _, _, rfl, rfl, _, rfl, iteB (fun h1 => ?_) (fun h1 => ?_)⟩
      · have h1 : (200 : Int) < (x.length : Int) := of_decide_eq_true h1
        have e : pathB (tl x) = false := by
          unfold pathB
          rw [decide_eq_false (by rw [len_tl] at h1; omega), Bool.false_and]
        rw [e] at hQ
        exact hQ
      · have h1 : ¬ (200 : Int) < (x.length : Int) := of_decide_eq_false h1
        have hl : (tl x).length ≤ 200 := by rw [len_tl] at h1; omega
        refine ⟨_, rfl, ⟨_, rfl⟩, _, _, rfl, rfl, _, rfl, ?_⟩
        rw [startswith_tl]
        have e47 : tl ("/" : Str) = [47] := by decide +kernel
        rw [e47]
        cases h2 : [47].isPrefixOf (tl x) with
        | false =>
          have e : pathB (tl x) = false := by
            unfold pathB
            rw [h2, Bool.false_and, Bool.and_false]
          rw [e] at hQ
          exact iteT hQ
        | true =>
          refine iteF ?_
          refine ⟨_, rfl, x, rfl, for_str (z := x) (fun i σ H1 => ∃ sv, σ = [some (.str x), sv] ∧ H1 = H ∧ ((tl x).take i).all psign = true) ⟨none, rfl, rfl, by simp⟩ ?_ ?_⟩
          · rintro i c σ H1 hc ⟨sv, rfl, rfl, ha⟩
            refine ⟨_, rfl, c, rfl, _, rfl, ?_⟩
            cases hp : psign c with
            | true => exact iteF ⟨_, rfl, rfl, by rw [all_at hc, ha, hp]; rfl⟩
            | false =>
              have e : pathB (tl x) = false := by
                unfold pathB
                have : (tl x).all psign = false := by
                  rw [List.all_eq_false]
                  exact ⟨c, List.mem_of_getElem? hc, by rw [hp]; exact Bool.false_ne_true⟩
                rw [this, Bool.and_false, Bool.and_false]
              rw [e] at hQ
              exact iteT hQ
          · rintro σ H1 ⟨sv, rfl, rfl, ha⟩
            rw [List.take_length] at ha
            have e : pathB (tl x) = true := by
              unfold pathB
              rw [decide_eq_true hl, h2, ha]; rfl
            rw [e] at hQ
            exact hQ
    · refine ⟨_, rfl, _, _, _, _, false, rfl, .ty _, ht, hk, _, rfl, iteT ?_⟩
      exact hQ
theorem ok_is_address (T : Txt K mg) : Cal P w K mg base CX0 7 "is_address" ["value"] (sp_is_address K) := by
  refine T.d_is_address.ok0 sc_is_address (fun vs H Q E h => ?_) (fun f cdv A outer s H vs Q E hr h => ?_)
  · first | (obtain ⟨_, rfl, _⟩ := h; rfl) | (obtain ⟨_, _, rfl, _⟩ := h; rfl) | (obtain ⟨_, _, _, rfl, _⟩ := h; rfl) | (obtain ⟨_, _, _, _, rfl, _⟩ := h; rfl) | (obtain ⟨_, _, _, _, _, rfl, _⟩ := h; rfl) | (obtain ⟨_, _, _, _, _, _, rfl, _⟩ := h; rfl) | (obtain ⟨_, _, _, _, _, _, _, rfl, _⟩ := h; rfl) | (obtain ⟨_, _, _, _, _, _, _, _, rfl, _⟩ := h; rfl) | (obtain ⟨_, _, _, _, _, _, _, _, _, rfl, _⟩ := h; rfl) | (obtain ⟨_, _, _, _, _, _, _, _, _, _, rfl, _⟩ := h; rfl) | (obtain ⟨_, _, _, _, _, _, _, _, _, _, _, rfl, _⟩ := h; rfl) | (obtain ⟨_, _, _, _, _, _, _, _, _, _, _, _, rfl, _⟩ := h; rfl)
  · refine ⟨_, (pss_cons (ps_if (PW.pt (pw_or (pt_not (pt_val (pe_callB call_isi (by rfl) T.b_isinstance (by decide +kernel) (pa_cons (pv 0) (pa_cons (pe_bltn (v := .ty "tuple") (by rfl) T.b_tuple (by decide +kernel) rfl) pa_nil))))) (pw_or1 (pt_cmpR (op_ne) (pe_callB call_len_seq (by rfl) T.b_len (by decide +kernel) (pa_cons (pv 0) pa_nil)) pe_int (nomark _)))))
      (pss_one (ps_ret pe_bl))
      pss_nil)
      (pss_one (ps_ret (pe_and (pe_c (ok_is_origin T) hr (by decide) (by rfl) pass0 (pa_cons (pe_slice sl_tupA (pv 0) po_none (po_some pe_int)) pa_nil)) (pe_one (pe_c (ok_is_path T) hr (by decide) (by rfl) pass0 (pa_cons (pe_ix ix_tup (pv 0) pe_int (fun _ _ => rfl)) pa_nil))))))), ?_⟩
    obtain ⟨p, x, y, z, rfl, hp, hx, hy, hz, hQ⟩ := h
    refine ⟨_, rfl, _, _, _, _, true, rfl, .ty _, .base (.tup hp), kit_ty (by decide +kernel), _, rfl, iteF ?_⟩
    refine ⟨_, rfl, p, _, rfl, .inr (SqT.of hp), rfl, _, rfl, iteF ?_⟩
    refine ⟨_, rfl, _, rfl, p, _, rfl, SqT.of hp, ?_⟩
    refine ⟨fun g => absurd (show HT.sIx 3 3 (some 2) = 3 from g.2) (by decide), fun _ q hq => ?_⟩
    have s1 := Same.new (o := HO.tup (cutV [V.str x, V.str y, V.str z] none (some 2))) hq
    refine ⟨q, x, y, rfl, by rw [upd_same]; rfl, hx, hy, fun H1 s2 => ⟨_, rfl, iteT ?_⟩⟩
    refine ⟨_, rfl, p, _, _, _, rfl, rfl, SqT.of (s2 _ _ (s1 _ _ hp)), rfl, _, true, rfl, .inl ⟨z, rfl, Nat.le_trans (pathB_len hz) (by decide), hz.symm⟩, hQ _ (s1.trans s2)⟩
theorem ok__need_address (T : Txt K mg) : Cal P w K mg base CX0 8 "_need_address" ["address"] (sp__need_address K) := by
  refine T.d__need_address.ok0 sc__need_address (fun vs H Q E h => ?_) (fun f cdv A outer s H vs Q E hr h => ?_)
  · first | (obtain ⟨_, rfl, _⟩ := h; rfl) | (obtain ⟨_, _, rfl, _⟩ := h; rfl) | (obtain ⟨_, _, _, rfl, _⟩ := h; rfl) | (obtain ⟨_, _, _, _, rfl, _⟩ := h; rfl) | (obtain ⟨_, _, _, _, _, rfl, _⟩ := h; rfl) | (obtain ⟨_, _, _, _, _, _, rfl, _⟩ := h; rfl) | (obtain ⟨_, _, _, _, _, _, _, rfl, _⟩ := h; rfl) | (obtain ⟨_, _, _, _, _, _, _, _, rfl, _⟩ := h; rfl) | (obtain ⟨_, _, _, _, _, _, _, _, _, rfl, _⟩ := h; rfl) | (obtain ⟨_, _, _, _, _, _, _, _, _, _, rfl, _⟩ := h; rfl) | (obtain ⟨_, _, _, _, _, _, _, _, _, _, _, rfl, _⟩ := h; rfl) | (obtain ⟨_, _, _, _, _, _, _, _, _, _, _, _, rfl, _⟩ := h; rfl)
  · refine ⟨_, (pss_one (ps_if (pt_not (pt_val (pe_c (ok_is_address T) hr (by decide) (by rfl) pass0 (pa_cons (pv 0) pa_nil))))
      (pss_one ps_never)
      pss_nil)), ?_⟩
    obtain ⟨p, x, y, z, rfl, hp, hx, hy, hz, hQ⟩ := h
    refine ⟨_, rfl, p, x, y, z, rfl, hp, hx, hy, hz, fun H1 s1 => ⟨_, rfl, iteF (hQ _ s1)⟩⟩
theorem ok_origin_of (T : Txt K mg) : Cal P w K mg base CX0 9 "origin_of" ["address"] (sp_origin_of K) := by
  refine T.d_origin_of.ok0 sc_origin_of (fun vs H Q E h => ?_) (fun f cdv A outer s H vs Q E hr h => ?_)
  · first | (obtain ⟨_, rfl, _⟩ := h; rfl) | (obtain ⟨_, _, rfl, _⟩ := h; rfl) | (obtain ⟨_, _, _, rfl, _⟩ := h; rfl) | (obtain ⟨_, _, _, _, rfl, _⟩ := h; rfl) | (obtain ⟨_, _, _, _, _, rfl, _⟩ := h; rfl) | (obtain ⟨_, _, _, _, _, _, rfl, _⟩ := h; rfl) | (obtain ⟨_, _, _, _, _, _, _, rfl, _⟩ := h; rfl) | (obtain ⟨_, _, _, _, _, _, _, _, rfl, _⟩ := h; rfl) | (obtain ⟨_, _, _, _, _, _, _, _, _, rfl, _⟩ := h; rfl) | (obtain ⟨_, _, _, _, _, _, _, _, _, _, rfl, _⟩ := h; rfl) | (obtain ⟨_, _, _, _, _, _, _, _, _, _, _, rfl, _⟩ := h; rfl) | (obtain ⟨_, _, _, _, _, _, _, _, _, _, _, _, rfl, _⟩ := h; rfl)
  · refine ⟨_, (pss_cons (ps_expr (pe_c (ok__need_address T) hr (by decide) (by rfl) pass0 (pa_cons (pv 0) pa_nil)))
      (pss_one (ps_ret (pe_slice sl_tupA (pv 0) po_none (po_some pe_int))))), ?_⟩
    obtain ⟨p, x, y, z, rfl, hp, hx, hy, hz, hQ⟩ := h
    refine ⟨_, rfl, p, x, y, z, rfl, hp, hx, hy, hz, fun H1 s1 => ?_⟩
    refine ⟨_, rfl, _, rfl, p, _, rfl, SqT.of (s1 _ _ hp), fun g => absurd (show HT.sIx 3 3 (some 2) = 3 from g.2) (by decide), fun _ q hq => ?_⟩
    exact hQ q _ (s1.trans (Same.new hq)) (by rw [upd_same]; rfl)
theorem ok__places (T : Txt K mg) : Cal P w K mg base CX0 1 "_places" ["request"] (sp__places K mg) := by
  refine T.d__places.ok0 sc__places (fun vs H Q E h => ?_) (fun f cdv A outer s H vs Q E hr h => ?_)
  · first | (obtain ⟨_, rfl, _⟩ := h; rfl) | (obtain ⟨_, _, rfl, _⟩ := h; rfl) | (obtain ⟨_, _, _, rfl, _⟩ := h; rfl) | (obtain ⟨_, _, _, _, rfl, _⟩ := h; rfl) | (obtain ⟨_, _, _, _, _, rfl, _⟩ := h; rfl) | (obtain ⟨_, _, _, _, _, _, rfl, _⟩ := h; rfl) | (obtain ⟨_, _, _, _, _, _, _, rfl, _⟩ := h; rfl) | (obtain ⟨_, _, _, _, _, _, _, _, rfl, _⟩ := h; rfl) | (obtain ⟨_, _, _, _, _, _, _, _, _, rfl, _⟩ := h; rfl) | (obtain ⟨_, _, _, _, _, _, _, _, _, _, rfl, _⟩ := h; rfl) | (obtain ⟨_, _, _, _, _, _, _, _, _, _, _, rfl, _⟩ := h; rfl) | (obtain ⟨_, _, _, _, _, _, _, _, _, _, _, _, rfl, _⟩ := h; rfl)
  · obtain ⟨C_Request, o_Request⟩ := T.o_Request
    refine ⟨_, (pss_cons (ps_set (i := 1) sc__places.nd rfl (by first | exact Or.inl rfl | exact Or.inr rfl) (pe_ifExp (pt_cmpR (op_isN) (pe_fld (pv 0) rfl) pe_non (nomark _)) (pe_tup pa_nil) (pe_tup (pa_cons (pe_fld (pv 0) rfl) pa_nil))))
      (pss_one (ps_ret (pe_tup (StX.pa_star (pe_fld (pv 0) rfl) (StX.pa_star (pv 1) (StX.pa_star (pe_fld (pv 0) rfl) pa_nil))))))), ?_⟩
    obtain ⟨a, r, rfl, hR, ok, hQ⟩ := h
    obtain ⟨C, dx, pc, pf, q, vs, hg, ma, ⟨cs, mc, tc⟩, hst, ⟨fs, mf, tf⟩, mq⟩ := hR
    obtain rfl : C = C_Request := by have := hg.symm.trans o_Request.g; cases this; rfl
    have lc : cs.length = r.ch.length := by rw [tc.len, List.length_map]
    have lf : fs.length = r.fr.length := by rw [tf.len, List.length_map]
    have fin : ∀ (p1 : Addr) (xs : List Addr) (H1 : Hp), Same H H1 → H1 p1 = some (.tup (xs.map V.ref)) → PlAt H1 xs r.st.toList → tRet (tTup (StX.tStar K (tFld K (tVar 0) ("addresses")) (StX.tStar K (tVar 1) (StX.tStar K (tFld K (tVar 0) ("frames")) tNil)))) { nx := fun x H' => Q V.non H', rt := Q } [some (.ref a), some (.ref p1)] H1 := fun p1 xs H1 s1 m1 hx => by
      refine ⟨_, rfl, a, _, dx, _, _, rfl, s1 _ _ ma, o_Request.o.cl, o_Request.na.get (by simp), rfl, ?_⟩
      refine ⟨pc, _, rfl, .inl (SqT.of (s1 _ _ mc)), _, rfl, p1, _, rfl, .inl (SqT.of m1), _, rfl, a, _, dx, _, _, rfl, s1 _ _ ma, o_Request.o.cl, o_Request.na.get (by simp), rfl, pf, _, rfl, .inl (SqT.of (s1 _ _ mf)), ?_⟩
      have e0 : cs.map V.ref ++ (xs.map V.ref ++ (fs.map V.ref ++ [])) = (cs ++ xs ++ fs).map V.ref := by simp
      show (cs.map V.ref ++ (xs.map V.ref ++ (fs.map V.ref ++ []))).length ≤ sizeLine ∧ ∀ (p : Addr), H1 p = none → Q (.ref p) (upd H1 p (HO.tup (cs.map V.ref ++ (xs.map V.ref ++ (fs.map V.ref ++ [])))))
      rw [e0]
      have lx : xs.length = r.st.toList.length := hx.1
      have l1 : r.st.toList.length ≤ 1 := by cases r.st <;> simp
      have := ok.c2
      have := ok.f6
      refine ⟨Nat.le_trans (by rw [List.length_map, List.length_append, List.length_append]; omega : _ ≤ 100) (by decide), fun w hw => ?_⟩
      have sw := Same.new (o := HO.tup ((cs ++ xs ++ fs).map V.ref)) hw
      refine hQ w _ _ (s1.trans sw) upd_same ?_
      have g1 := pl_3 (tc.same (s1.trans sw))
      have g2 := hx.same sw
      have g3 := pl_2 (tf.same (s1.trans sw))
      exact (g1.append g2).append g3
    cases e : r.st with
    | none =>
      rw [e] at hst fin
      have hv : vs = .non := hst
      subst hv
      refine ⟨_, rfl, a, _, dx, _, _, rfl, ma, o_Request.o.cl, o_Request.na.get (by simp), rfl, rfl, _, rfl, iteT ⟨by show 0 ≤ sizeLine; decide, fun w hw => ?_⟩⟩
      exact fin w [] _ (Same.new hw) upd_same ⟨rfl, fun i hi => absurd hi (Nat.not_lt_zero _)⟩
    | some x =>
      rw [e] at hst fin
      obtain ⟨p0, rfl, m0⟩ := hst
      refine ⟨_, rfl, a, _, dx, _, _, rfl, ma, o_Request.o.cl, o_Request.na.get (by simp), rfl, rfl, _, rfl, iteF ?_⟩
      refine ⟨_, rfl, a, _, dx, _, _, rfl, ma, o_Request.o.cl, o_Request.na.get (by simp), rfl, by show 1 ≤ sizeLine; decide, fun w hw => ?_⟩
      have sw := Same.new (o := HO.tup [V.ref p0]) hw
      refine fin w [p0] _ sw upd_same ⟨rfl, fun i hi => ?_⟩
      cases i with
      | zero => exact ⟨p0, [], rfl, sw _ _ m0⟩
      | succ n => exact absurd hi (by simp)
theorem ok_is_address_host (T : Txt K mg) : Cal P w K mg base CX0 6 "is_address_host" ["value"] (sp_is_address_host K) := by
  refine T.d_is_address_host.ok0 sc_is_address_host (fun vs H Q E h => ?_) (fun f cdv A outer s H vs Q E hr h => ?_)
  · first | (obtain ⟨_, rfl, _⟩ := h; rfl) | (obtain ⟨_, _, rfl, _⟩ := h; rfl) | (obtain ⟨_, _, _, rfl, _⟩ := h; rfl) | (obtain ⟨_, _, _, _, rfl, _⟩ := h; rfl) | (obtain ⟨_, _, _, _, _, rfl, _⟩ := h; rfl) | (obtain ⟨_, _, _, _, _, _, rfl, _⟩ := h; rfl) | (obtain ⟨_, _, _, _, _, _, _, rfl, _⟩ := h; rfl) | (obtain ⟨_, _, _, _, _, _, _, _, rfl, _⟩ := h; rfl) | (obtain ⟨_, _, _, _, _, _, _, _, _, rfl, _⟩ := h; rfl) | (obtain ⟨_, _, _, _, _, _, _, _, _, _, rfl, _⟩ := h; rfl) | (obtain ⟨_, _, _, _, _, _, _, _, _, _, _, rfl, _⟩ := h; rfl) | (obtain ⟨_, _, _, _, _, _, _, _, _, _, _, _, rfl, _⟩ := h; rfl)
  · refine ⟨_, (pss_one (ps_ret (pe_and (pe_c (ok_is_host T) hr (by decide) (by rfl) pass0 (pa_cons (pv 0) pa_nil)) (pe_one (pe_c (ok_is_digits T) hr (by decide) (by rfl) pass0 (pa_cons (pe_ix ix_list (pe_split (pv 0) pe_str) (pe_un un_neg pe_int) (fun _ _ => rfl)) pa_nil)))))), ?_⟩
    obtain ⟨v, b, rfl, hv, hQ⟩ := h
    rcases hv with ⟨x, rfl, hx, rfl⟩ | ⟨t, ht, hk, rfl⟩
    · refine ⟨_, rfl, .str x, _, rfl, .inl ⟨x, rfl, hx, rfl⟩, fun H1 s1 => ⟨_, rfl, ?_⟩⟩
      unfold addrB at hQ
      cases h1 : hostB (tl x) with
      | false =>
        rw [h1, Bool.false_and] at hQ
        exact iteF (hQ _ s1)
      | true =>
        rw [h1, Bool.true_and] at hQ
        have hl := hostB_len h1
        refine iteT ⟨_, rfl, ⟨_, rfl⟩, _, _, rfl, rfl, by decide +kernel, Nat.le_trans (by omega : _ ≤ 10000) (by decide), fun p hp => ?_⟩
        have e1 := split_sp1 x (c := 46) (by decide)
        rw [← dot_eq] at e1
        rw [← e1] at hQ
        have hne : Txt.split x ("." : Str) ≠ [] := fun e => by rw [e] at e1; exact sp1_ne _ _ e1.symm
        generalize ePx : Txt.split x ("." : Str) = P at *
        obtain ⟨P0, z, eP⟩ : ∃ P0 z, P = P0 ++ [z] := ⟨P.dropLast, P.getLast hne, (List.dropLast_concat_getLast hne).symm⟩
        rw [eP] at ePx
        have s2 := Same.new (o := HO.lst (P.map V.str)) hp
        rw [lastL_map eP] at hQ
        have hz : z.length ≤ 1000000 := Nat.le_trans (split_mem_len (x := x) (c := 46) (by decide) (by rw [← dot_eq, ePx]; simp)) hx
        have ha : atI (P.map V.str) (-1) = some (.str z) := by rw [eP, List.map_append]; exact atI_last _ _
        exact ⟨_, rfl, p, _, _, _, rfl, rfl, SqL.of upd_same, ha, z, rfl, hz, hQ _ (s1.trans s2)⟩
    · refine ⟨_, rfl, v, false, rfl, .inr ⟨t, ht, hk, rfl⟩, fun H1 s1 => ⟨_, rfl, iteF ?_⟩⟩
      exact hQ _ s1
theorem ok__last_labels (T : Txt K mg) : Cal P w K mg base CX0 1 "_last_labels" ["host", "many"] sp__last_labels := by
  refine T.d__last_labels.ok0 sc__last_labels (fun vs H Q E h => ?_) (fun f cdv A outer s H vs Q E hr h => ?_)
  · first | (obtain ⟨_, rfl, _⟩ := h; rfl) | (obtain ⟨_, _, rfl, _⟩ := h; rfl) | (obtain ⟨_, _, _, rfl, _⟩ := h; rfl) | (obtain ⟨_, _, _, _, rfl, _⟩ := h; rfl) | (obtain ⟨_, _, _, _, _, rfl, _⟩ := h; rfl) | (obtain ⟨_, _, _, _, _, _, rfl, _⟩ := h; rfl) | (obtain ⟨_, _, _, _, _, _, _, rfl, _⟩ := h; rfl) | (obtain ⟨_, _, _, _, _, _, _, _, rfl, _⟩ := h; rfl) | (obtain ⟨_, _, _, _, _, _, _, _, _, rfl, _⟩ := h; rfl) | (obtain ⟨_, _, _, _, _, _, _, _, _, _, rfl, _⟩ := h; rfl) | (obtain ⟨_, _, _, _, _, _, _, _, _, _, _, rfl, _⟩ := h; rfl) | (obtain ⟨_, _, _, _, _, _, _, _, _, _, _, _, rfl, _⟩ := h; rfl)
  · refine ⟨_, (pss_one (ps_ret (pe_join pe_str (pe_slice sl_list (pe_split (pv 0) pe_str) (po_some (pe_un un_neg (pv 1))) po_none)))), ?_⟩
    obtain ⟨x, n, rfl, hx, hn, hn2, hQ⟩ := h
    refine ⟨⟨_, rfl⟩, _, rfl, ⟨_, rfl⟩, _, _, rfl, rfl, by decide +kernel, Nat.le_trans (by omega : _ ≤ 100000) (by decide), fun p hp => ?_⟩
    have s1 := Same.new (o := HO.lst ((Txt.split x ("." : Str)).map V.str)) hp
    have hm : upd H p (.lst ((Txt.split x ("." : Str)).map V.str)) p = some (.lst ((Txt.split x ("." : Str)).map V.str)) := upd_same
    generalize upd H p (.lst ((Txt.split x ("." : Str)).map V.str)) = H1 at s1 hm ⊢
    refine ⟨_, rfl, _, rfl, _, rfl, p, _, rfl, SqL.of hm, fun p2 hp2 => ?_⟩
    rw [cutV_last _ hn, show lastN n ((Txt.split x ("." : Str)).map V.str) = (lastN n (Txt.split x ("." : Str))).map V.str by unfold lastN; rw [List.length_map, List.map_drop]]
    have es := split_sp1 x (c := 46) (by decide)
    rw [← dot_eq] at es
    have hb : ∀ z ∈ lastN n (Txt.split x ("." : Str)), z.length ≤ 1000 := fun z hz => by
      have := lastN_mem hz
      rw [dot_eq] at this
      exact Nat.le_trans (split_mem_len (by decide) this) hx
    have hl : (lastN n (Txt.split x ("." : Str))).length ≤ 1001 := by
      have h1 := split_length x (c := 46) (by decide)
      rw [← dot_eq] at h1
      rw [lastN_len]
      omega
    have hs := sum_map_le _ hb
    have hd : ("." : Str).length = 1 := by decide +kernel
    refine ⟨_, p2, _, rfl, rfl, .inl (SqL.of upd_same), by rw [hd]; exact join_fits hs hl, ?_⟩
    have et : tl (Txt.join ("." : Str) (lastN n (Txt.split x ("." : Str)))) = joinL [46] (lastN n (sp1 46 (tl x))) := by
      rw [join_tl, tl_dot, ← es]
      unfold lastN
      rw [List.length_map, List.map_drop]
    refine hQ _ _ (s1.trans (Same.new hp2)) et ?_
    rw [len_tl, et, len_tl]
    have := joinL_drop (c := 46) (sp1 46 (tl x)) ((sp1 46 (tl x)).length - n)
    rw [joinL_sp1] at this
    exact this
theorem ok__size (T : Txt K mg) : Cal P w K mg base CX0 1 "_size" ["text"] sp__size := by
  refine T.d__size.ok0 sc__size (fun vs H Q E h => ?_) (fun f cdv A outer s H vs Q E hr h => ?_)
  · first | (obtain ⟨_, rfl, _⟩ := h; rfl) | (obtain ⟨_, _, rfl, _⟩ := h; rfl) | (obtain ⟨_, _, _, rfl, _⟩ := h; rfl) | (obtain ⟨_, _, _, _, rfl, _⟩ := h; rfl) | (obtain ⟨_, _, _, _, _, rfl, _⟩ := h; rfl) | (obtain ⟨_, _, _, _, _, _, rfl, _⟩ := h; rfl) | (obtain ⟨_, _, _, _, _, _, _, rfl, _⟩ := h; rfl) | (obtain ⟨_, _, _, _, _, _, _, _, rfl, _⟩ := h; rfl) | (obtain ⟨_, _, _, _, _, _, _, _, _, rfl, _⟩ := h; rfl) | (obtain ⟨_, _, _, _, _, _, _, _, _, _, rfl, _⟩ := h; rfl) | (obtain ⟨_, _, _, _, _, _, _, _, _, _, _, rfl, _⟩ := h; rfl) | (obtain ⟨_, _, _, _, _, _, _, _, _, _, _, _, rfl, _⟩ := h; rfl)
  · refine ⟨_, (pss_one (ps_ret (pe_op op_add (pe_m1 PySem.F.slot_str_count PySem.F.type_str_count mt_count (pv 0) pe_str) pe_int))), ?_⟩
    obtain ⟨x, rfl, hQ⟩ := h
    refine ⟨_, rfl, ⟨_, rfl⟩, _, _, rfl, rfl, ?_⟩
    rw [← count_sp1, ← dot_eq] at hQ
    exact ⟨_, _, rfl, rfl, hQ⟩
theorem ok__matches (T : Txt K mg) : Cal P w K mg base CX0 2 "_matches" ["pattern", "host"] sp__matches := by
  refine T.d__matches.ok0 sc__matches (fun vs H Q E h => ?_) (fun f cdv A outer s H vs Q E hr h => ?_)
  · first | (obtain ⟨_, rfl, _⟩ := h; rfl) | (obtain ⟨_, _, rfl, _⟩ := h; rfl) | (obtain ⟨_, _, _, rfl, _⟩ := h; rfl) | (obtain ⟨_, _, _, _, rfl, _⟩ := h; rfl) | (obtain ⟨_, _, _, _, _, rfl, _⟩ := h; rfl) | (obtain ⟨_, _, _, _, _, _, rfl, _⟩ := h; rfl) | (obtain ⟨_, _, _, _, _, _, _, rfl, _⟩ := h; rfl) | (obtain ⟨_, _, _, _, _, _, _, _, rfl, _⟩ := h; rfl) | (obtain ⟨_, _, _, _, _, _, _, _, _, rfl, _⟩ := h; rfl) | (obtain ⟨_, _, _, _, _, _, _, _, _, _, rfl, _⟩ := h; rfl) | (obtain ⟨_, _, _, _, _, _, _, _, _, _, _, rfl, _⟩ := h; rfl) | (obtain ⟨_, _, _, _, _, _, _, _, _, _, _, _, rfl, _⟩ := h; rfl)
  · refine ⟨_, (pss_cons (ps_if (pt_cmpR (op_gt) (pe_c (ok__size T) hr (by decide) (by rfl) pass0 (pa_cons (pv 0) pa_nil)) (pe_c (ok__size T) hr (by decide) (by rfl) pass0 (pa_cons (pv 1) pa_nil)) (nomark _))
      (pss_one (ps_ret pe_bl))
      pss_nil)
      (pss_cons (ps_set (i := 2) sc__matches.nd rfl (by first | exact Or.inl rfl | exact Or.inr rfl) (pe_c (ok__last_labels T) hr (by decide) (by rfl) pass0 (pa_cons (pv 1) (pa_cons (pe_c (ok__size T) hr (by decide) (by rfl) pass0 (pa_cons (pv 0) pa_nil)) pa_nil))))
      (pss_cons (ps_if (pt_val (pe_m1 PySem.F.slot_str_startswith PySem.F.type_str_startswith mt_startswith (pv 0) (pe_gc (by rfl) T.c_ANY)))
      (pss_one (ps_ret (pe_cmpR (op_eq) (pe_ix ix_tup (pe_partition (pv 2) pe_str) pe_int (fun _ _ => rfl)) (pe_ix ix_tup (pe_partition (pv 0) pe_str) pe_int (fun _ _ => rfl)) (nomark _))))
      pss_nil)
      (pss_one (ps_ret (pe_cmpR (op_eq) (pv 2) (pv 0) (nomark _))))))), ?_⟩
    obtain ⟨x, y, rfl, hx, hy, hs, hQ⟩ := h
    unfold mtL at hQ
    refine ⟨_, rfl, x, rfl, _, rfl, y, rfl, _, _, rfl, rfl, _, rfl, iteB (fun h1 => ?_) (fun h1 => ?_)⟩
    · have h1 : ((sp1 46 (tl y)).length : Int) < ((sp1 46 (tl x)).length : Int) := of_decide_eq_true h1
      rw [decide_eq_false (by omega : ¬ (sp1 46 (tl x)).length ≤ (sp1 46 (tl y)).length)] at hQ
      exact hQ _ (Same.refl _)
    have h1 : ¬ ((sp1 46 (tl y)).length : Int) < ((sp1 46 (tl x)).length : Int) := of_decide_eq_false h1
    rw [decide_eq_true (by omega : (sp1 46 (tl x)).length ≤ (sp1 46 (tl y)).length), Bool.true_and] at hQ
    have lx := sp1_length (c := 46) (tl x)
    have px : 1 ≤ (sp1 46 (tl x)).length := List.length_pos_iff.mpr (sp1_ne _ _)
    rw [← len_tl] at lx
    refine ⟨_, rfl, _, rfl, x, rfl, y, _, rfl, hy, px, by omega, fun e H1 s1 ee le => ?_⟩
    refine ⟨_, rfl, ⟨_, rfl⟩, _, _, rfl, rfl, _, rfl, ?_⟩
    rw [startswith_tl, tl_star]
    have hmem : ∀ l ∈ sp1 46 (tl y), 46 ∉ l := sp1_free 46 (tl y)
    by_cases g : (tl x).head? = some 42
    · obtain ⟨u, eu⟩ := hs g
      have e1 : [42].isPrefixOf (tl x) = true := by rw [eu]; simp [List.isPrefixOf]
      have eP : sp1 46 (tl x) = [42] :: sp1 46 u := by
        rw [eu]
        show sp1 46 ([42] ++ 46 :: u) = _
        rw [sp1_app]
        rfl
      rw [if_pos (by rw [eP]; rfl)] at hQ
      rw [e1]
      refine iteT ?_
      have hn : 2 ≤ (sp1 46 (tl x)).length := by
        rw [eP, List.length_cons]
        have := List.length_pos_iff.mpr (sp1_ne 46 u)
        omega
      obtain ⟨a, M, eM⟩ : ∃ a M, lastN (sp1 46 (tl x)).length (sp1 46 (tl y)) = a :: M := List.exists_cons_of_ne_nil fun q => by
        have := lastN_len (sp1 46 (tl x)).length (sp1 46 (tl y))
        rw [q, List.length_nil] at this
        omega
      have hM : M ≠ [] := fun q => by
        have := lastN_len (sp1 46 (tl x)).length (sp1 46 (tl y))
        rw [eM, q, List.length_cons, List.length_nil] at this
        omega
      have ha : 46 ∉ a := hmem a (lastN_mem (n := (sp1 46 (tl x)).length) (by rw [eM]; exact List.mem_cons_self ..))
      have hMf : ∀ l ∈ M, 46 ∉ l := fun l hl => hmem l (lastN_mem (n := (sp1 46 (tl x)).length) (by rw [eM]; exact List.mem_cons_of_mem _ hl))
      have e2 : tl e = a ++ 46 :: joinL [46] M := by rw [ee, eM]; exact joinL_app (L := [a]) (by simp) hM
      have b1 := partition_behind e2 ha
      have b2 : tl (Txt.partition x ⟨#[46]⟩).2.2 = u := partition_behind (a := [42]) (by rw [eu]; rfl) (by decide)
      refine ⟨_, rfl, ⟨_, rfl⟩, _, _, rfl, rfl, by decide +kernel, Nat.le_trans (by omega : _ ≤ 100000) (by decide), fun p hp => ?_⟩
      refine ⟨p, _, _, _, rfl, rfl, SqT.of upd_same, (rfl : atI _ ((2 : Nat) : Int) = _), ?_⟩
      refine ⟨_, rfl, ⟨_, rfl⟩, _, _, rfl, rfl, by decide +kernel, Nat.le_trans (by omega : _ ≤ 100000) (by decide), fun p2 hp2 => ?_⟩
      refine ⟨p2, _, _, _, rfl, rfl, SqT.of upd_same, (rfl : atI _ ((2 : Nat) : Int) = _), rfl, ?_⟩
      have fin := hQ _ ((s1.trans (Same.new (o := HO.tup [V.str (Txt.partition e ("." : Str)).1, V.str (Txt.partition e ("." : Str)).2.1, V.str (Txt.partition e ("." : Str)).2.2]) hp)).trans (Same.new (o := HO.tup [V.str (Txt.partition x ("." : Str)).1, V.str (Txt.partition x ("." : Str)).2.1, V.str (Txt.partition x ("." : Str)).2.2]) hp2))
      have ed : decide (V.str (Txt.partition e ("." : Str)).2.2 = V.str (Txt.partition x ("." : Str)).2.2) = decide ((lastN (sp1 46 (tl x)).length (sp1 46 (tl y))).tail = (sp1 46 (tl x)).tail) := by
        rw [dot_eq, eM, eP, Bool.eq_iff_iff, decide_eq_true_eq, decide_eq_true_eq, V.str.injEq, str_eq_iff, b1, b2]
        show joinL [46] M = u ↔ M = sp1 46 u
        constructor
        · intro q; rw [← q, sp1_joinL hM hMf]
        · intro q; rw [q, joinL_sp1]
      rw [← ed] at fin
      exact fin
    · have e1 : [42].isPrefixOf (tl x) = false := by
        cases hc : tl x with
        | nil => rfl
        | cons a r =>
          rw [hc] at g
          simp only [List.head?_cons, Option.some.injEq] at g
          simp [List.isPrefixOf, Ne.symm g]
      have e2 : ¬ (sp1 46 (tl x)).head? = some [42] := fun e => by
        have := joinL_sp1 46 (tl x)
        obtain ⟨p, r, ep⟩ := sp1_cons 46 (tl x)
        rw [ep] at e this
        simp only [List.head?_cons, Option.some.injEq] at e
        subst e
        cases r with
        | nil => rw [← this] at g; exact g rfl
        | cons q r => rw [← this] at g; exact g rfl
      rw [if_neg e2] at hQ
      rw [e1]
      refine iteF ?_
      refine ⟨_, rfl, _, rfl, rfl, ?_⟩
      have ed : decide (V.str e = V.str x) = decide (lastN (sp1 46 (tl x)).length (sp1 46 (tl y)) = sp1 46 (tl x)) := by
        have hne : lastN (sp1 46 (tl x)).length (sp1 46 (tl y)) ≠ [] := fun q => by
          have := lastN_len (sp1 46 (tl x)).length (sp1 46 (tl y))
          rw [q, List.length_nil] at this
          omega
        rw [Bool.eq_iff_iff, decide_eq_true_eq, decide_eq_true_eq, V.str.injEq, str_eq_iff, ee]
        constructor
        · intro q; have h := sp1_joinL (c := 46) hne fun l hl => hmem l (lastN_mem hl); rw [q] at h; exact h.symm
        · intro q; rw [q, joinL_sp1]
      rw [← ed] at hQ
      exact hQ _ s1
theorem ok__suffix_size (T : Txt K mg) : Cal P w K mg base CX0 3 "_suffix_size" ["rules", "host"] (sp__suffix_size K) := by
  refine T.d__suffix_size.ok0 sc__suffix_size (fun vs H Q E h => ?_) (fun f cdv A outer s H vs Q E hr h => ?_)
  · first | (obtain ⟨_, rfl, _⟩ := h; rfl) | (obtain ⟨_, _, rfl, _⟩ := h; rfl) | (obtain ⟨_, _, _, rfl, _⟩ := h; rfl) | (obtain ⟨_, _, _, _, rfl, _⟩ := h; rfl) | (obtain ⟨_, _, _, _, _, rfl, _⟩ := h; rfl) | (obtain ⟨_, _, _, _, _, _, rfl, _⟩ := h; rfl) | (obtain ⟨_, _, _, _, _, _, _, rfl, _⟩ := h; rfl) | (obtain ⟨_, _, _, _, _, _, _, _, rfl, _⟩ := h; rfl) | (obtain ⟨_, _, _, _, _, _, _, _, _, rfl, _⟩ := h; rfl) | (obtain ⟨_, _, _, _, _, _, _, _, _, _, rfl, _⟩ := h; rfl) | (obtain ⟨_, _, _, _, _, _, _, _, _, _, _, rfl, _⟩ := h; rfl) | (obtain ⟨_, _, _, _, _, _, _, _, _, _, _, _, rfl, _⟩ := h; rfl)
  · refine ⟨_, (pss_cons (ps_set (i := 2) sc__suffix_size.nd rfl (by first | exact Or.inl rfl | exact Or.inr rfl) pe_int)
      (pss_cons (ps_set (i := 3) sc__suffix_size.nd rfl (by first | exact Or.inl rfl | exact Or.inr rfl) pe_int)
      (pss_cons (ps_for PassesOwn.never rfl (pi_tup (pv 0)) (pg_name (i := 4) sc__suffix_size.nd rfl (by first | exact Or.inl rfl | exact Or.inr rfl))
      (pss_one (ps_if (pt_val (pe_m1 PySem.F.slot_str_startswith PySem.F.type_str_startswith mt_startswith (pv 4) (pe_gc (by rfl) T.c_EXCEPTION)))
      (pss_one (ps_if (pt_val (pe_c (ok__matches T) hr (by decide) (by rfl) pass0 (pa_cons (pe_slice sl_str (pv 4) (po_some pe_int) po_none) (pa_cons (pv 1) pa_nil))))
      (pss_one (ps_set (i := 3) sc__suffix_size.nd rfl (by first | exact Or.inl rfl | exact Or.inr rfl) (pe_callB (call_max2 rfl) (by rfl) T.b_max (by decide +kernel) (pa_cons (pv 3) (pa_cons (pe_c (ok__size T) hr (by decide) (by rfl) pass0 (pa_cons (pv 4) pa_nil)) pa_nil)))))
      pss_nil))
      (pss_one (ps_if (pt_val (pe_c (ok__matches T) hr (by decide) (by rfl) pass0 (pa_cons (pv 4) (pa_cons (pv 1) pa_nil))))
      (pss_one (ps_set (i := 2) sc__suffix_size.nd rfl (by first | exact Or.inl rfl | exact Or.inr rfl) (pe_callB (call_max2 rfl) (by rfl) T.b_max (by decide +kernel) (pa_cons (pv 2) (pa_cons (pe_c (ok__size T) hr (by decide) (by rfl) pass0 (pa_cons (pv 4) pa_nil)) pa_nil)))))
      pss_nil)))))
      (pss_cons (ps_if (pt_cmpR (op_gt) (pv 3) pe_int (nomark _))
      (pss_one (ps_ret (pe_op op_sub (pv 3) pe_int)))
      pss_nil)
      (pss_one (ps_ret (pv 2))))))), ?_⟩
    obtain ⟨p, rs, y, rfl, hp, hr, hy, hQ⟩ := h
    let w := sp1 46 (tl y)
    refine ⟨_, rfl, _, rfl, ⟨_, hp⟩, for_tup (K := K) (a := p) (xs := rs.map V.str) (fun i σ H1 => ∃ sv, σ = [some (.ref p), some (.str y), some (.int (bigN 1 (fun t => !excT t && mtL (patL t) w) ((rs.take i).map tl) : Nat)), some (.int (bigN 0 (fun t => excT t && mtL (patL t) w) ((rs.take i).map tl) : Nat)), sv] ∧ Same H H1) ⟨none, rfl, Same.refl _⟩ (fun i σ H1 _ ⟨_, _, s⟩ => Same.seqT s hp) ?_ ?_⟩
    · rintro i v σ H1 hi ⟨sv, rfl, s1⟩
      obtain ⟨r, hri, rfl⟩ := strAt hi
      obtain ⟨hr1, hr2⟩ := hr r (List.mem_of_getElem? hri)
      rw [big_take hri, big_take hri]
      refine ⟨_, rfl, ⟨_, rfl⟩, _, _, rfl, rfl, _, rfl, ?_⟩
      rw [bang_exc]
      cases hx : excT (tl r) with
      | true =>
        refine iteT ⟨_, rfl, _, rfl, _, rfl, ?_⟩
        have ep : tl (cutS r (some 1) none) = patT (tl r) := by
          rw [cutS_from r (by decide)]
          unfold patT
          rw [if_pos hx, ← List.drop_one]
          rfl
        have el : (cutS r (some 1) none).length ≤ 1000 := by
          rw [len_tl, cutS_from r (by decide), List.length_drop, ← len_tl]
          omega
        refine ⟨Nat.le_trans hr2 (by decide), _, rfl, _, y, rfl, Nat.le_trans el (by decide), hy, fun hs => absurd hs (by rw [ep]; exact rule_star2 hr1 hx), fun H2 s2 => ⟨_, rfl, ?_⟩⟩
        rw [ep]
        simp only [Bool.not_true, Bool.true_and, Bool.false_and, Bool.false_eq_true, if_false]
        have e0 : mtL (sp1 46 (patT (tl r))) (sp1 46 (tl y)) = mtL (patL (tl r)) w := rfl
        rw [e0]
        cases hm : mtL (patL (tl r)) w with
        | true =>
          refine iteT ⟨_, rfl, _, rfl, r, rfl, _, _, rfl, ?_⟩
          rw [patL_len, max_nat]
          exact ⟨_, rfl, s1.trans s2⟩
        | false => exact iteF ⟨_, rfl, s1.trans s2⟩
      | false =>
        refine iteF ⟨_, rfl, _, rfl, r, y, rfl, by omega, hy, fun hs => rule_star hr1 hx hs, fun H2 s2 => ⟨_, rfl, ?_⟩⟩
        have e1 : sp1 46 (tl r) = patL (tl r) := by unfold patL patT; rw [hx]; rfl
        rw [e1]
        simp only [Bool.not_false, Bool.true_and, Bool.false_and, Bool.false_eq_true, if_false]
        cases hm : mtL (patL (tl r)) w with
        | true =>
          refine iteT ⟨_, rfl, _, rfl, r, rfl, _, _, rfl, ?_⟩
          rw [e1, max_nat]
          exact ⟨_, rfl, s1.trans s2⟩
        | false => exact iteF ⟨_, rfl, s1.trans s2⟩
    · rintro σ H1 ⟨sv, rfl, s1⟩
      rw [List.length_map, List.take_length]
      refine ⟨_, rfl, _, _, rfl, rfl, _, rfl, iteB (fun h0 => ?_) (fun h0 => ?_)⟩
      · have h0 : (0 : Int) < ((excN (rs.map tl) w : Nat) : Int) := of_decide_eq_true h0
        refine ⟨_, rfl, _, _, rfl, rfl, ?_⟩
        have := hQ _ s1
        unfold sufN at this
        rw [if_pos (by show 0 < excN (rs.map tl) w; omega)] at this
        rw [show ((excN (rs.map tl) (sp1 46 (tl y)) - 1 : Nat) : Int) = ((excN (rs.map tl) w : Nat) : Int) - 1 by show ((excN (rs.map tl) w - 1 : Nat) : Int) = _; omega] at this
        exact this
      · have h0 : ¬ (0 : Int) < ((excN (rs.map tl) w : Nat) : Int) := of_decide_eq_false h0
        have := hQ _ s1
        unfold sufN at this
        rw [if_neg (by show ¬ 0 < excN (rs.map tl) w; omega)] at this
        exact ⟨_, rfl, this⟩
theorem ok_known_suffix (T : Txt K mg) : Cal P w K mg base CX0 7 "known_suffix" ["rules", "host"] (sp_known_suffix K) := by
  refine T.d_known_suffix.ok0 sc_known_suffix (fun vs H Q E h => ?_) (fun f cdv A outer s H vs Q E hr h => ?_)
  · first | (obtain ⟨_, rfl, _⟩ := h; rfl) | (obtain ⟨_, _, rfl, _⟩ := h; rfl) | (obtain ⟨_, _, _, rfl, _⟩ := h; rfl) | (obtain ⟨_, _, _, _, rfl, _⟩ := h; rfl) | (obtain ⟨_, _, _, _, _, rfl, _⟩ := h; rfl) | (obtain ⟨_, _, _, _, _, _, rfl, _⟩ := h; rfl) | (obtain ⟨_, _, _, _, _, _, _, rfl, _⟩ := h; rfl) | (obtain ⟨_, _, _, _, _, _, _, _, rfl, _⟩ := h; rfl) | (obtain ⟨_, _, _, _, _, _, _, _, _, rfl, _⟩ := h; rfl) | (obtain ⟨_, _, _, _, _, _, _, _, _, _, rfl, _⟩ := h; rfl) | (obtain ⟨_, _, _, _, _, _, _, _, _, _, _, rfl, _⟩ := h; rfl) | (obtain ⟨_, _, _, _, _, _, _, _, _, _, _, _, rfl, _⟩ := h; rfl)
  · refine ⟨_, (pss_cons (ps_if (pt_val (pe_c (ok_is_address_host T) hr (by decide) (by rfl) pass0 (pa_cons (pv 1) pa_nil)))
      (pss_one (ps_ret pe_non))
      pss_nil)
      (pss_one (ps_ret (pe_c (ok__last_labels T) hr (by decide) (by rfl) pass0 (pa_cons (pv 1) (pa_cons (pe_c (ok__suffix_size T) hr (by decide) (by rfl) pass0 (pa_cons (pv 0) (pa_cons (pv 1) pa_nil))) pa_nil)))))), ?_⟩
    obtain ⟨p, rs, y, rfl, hp, hl, hr, hh, q1, q2⟩ := h
    have hy := hostB_len hh
    refine ⟨_, rfl, .str y, _, rfl, TxV.of (by omega), fun H3 s3 => ⟨_, rfl, ?_⟩⟩
    have s4 := s3
    cases ha : addrB (tl y) with
    | true => exact iteT (q1 _ s4 ha)
    | false =>
      refine iteF ?_
      have hg := sufN_ge (rs := rs.map tl) (w := sp1 46 (tl y)) (fun t ht => by obtain ⟨r, hr2, rfl⟩ := List.mem_map.mp ht; exact (hr.2 r hr2).1) (sp1_ne _ _)
      have hl2 := sp1_length (c := 46) (tl y)
      rw [← len_tl] at hl2
      refine ⟨_, rfl, _, rfl, _, rfl, p, rs, y, rfl, Same.seqT s4 hp, hr.2, by omega, fun H5 s5 => ?_⟩
      exact ⟨y, _, rfl, by omega, hg.1, by omega, fun e H6 s6 ee _ => q2 e _ ((s4.trans s5).trans s6) ha ee⟩
theorem ok_known_family (T : Txt K mg) : Cal P w K mg base CX0 8 "known_family" ["rules", "host"] (sp_known_family K) := by
  refine T.d_known_family.ok0 sc_known_family (fun vs H Q E h => ?_) (fun f cdv A outer s H vs Q E hr h => ?_)
  · first | (obtain ⟨_, rfl, _⟩ := h; rfl) | (obtain ⟨_, _, rfl, _⟩ := h; rfl) | (obtain ⟨_, _, _, rfl, _⟩ := h; rfl) | (obtain ⟨_, _, _, _, rfl, _⟩ := h; rfl) | (obtain ⟨_, _, _, _, _, rfl, _⟩ := h; rfl) | (obtain ⟨_, _, _, _, _, _, rfl, _⟩ := h; rfl) | (obtain ⟨_, _, _, _, _, _, _, rfl, _⟩ := h; rfl) | (obtain ⟨_, _, _, _, _, _, _, _, rfl, _⟩ := h; rfl) | (obtain ⟨_, _, _, _, _, _, _, _, _, rfl, _⟩ := h; rfl) | (obtain ⟨_, _, _, _, _, _, _, _, _, _, rfl, _⟩ := h; rfl) | (obtain ⟨_, _, _, _, _, _, _, _, _, _, _, rfl, _⟩ := h; rfl) | (obtain ⟨_, _, _, _, _, _, _, _, _, _, _, _, rfl, _⟩ := h; rfl)
  · refine ⟨_, (pss_cons (ps_set (i := 2) sc_known_family.nd rfl (by first | exact Or.inl rfl | exact Or.inr rfl) (pe_c (ok_known_suffix T) hr (by decide) (by rfl) pass0 (pa_cons (pv 0) (pa_cons (pv 1) pa_nil))))
      (pss_cons (ps_if (pt_cmpR (op_isN) (pv 2) pe_non (nomark _))
      (pss_one (ps_ret (pv 1)))
      pss_nil)
      (pss_one (ps_ret (pe_c (ok__last_labels T) hr (by decide) (by rfl) pass0 (pa_cons (pv 1) (pa_cons (pe_op op_add (pe_c (ok__size T) hr (by decide) (by rfl) pass0 (pa_cons (pv 2) pa_nil)) pe_int) pa_nil))))))), ?_⟩
    obtain ⟨p, rs, y, rfl, hp, hl, hr, hh, hQ⟩ := h
    have hy := hostB_len hh
    refine ⟨_, rfl, _, rfl, p, rs, y, rfl, hp, hl, hr, hh, fun H1 s1 ha => ?_, fun e H1 s1 ha ee => ?_⟩
    · refine ⟨_, rfl, rfl, _, rfl, iteT ⟨_, rfl, hQ y _ s1 ?_⟩⟩
      unfold famT
      rw [if_pos ha]
    · have hrs : ∀ t ∈ rs.map tl, ruleB t = true := fun t ht => by obtain ⟨r, hr2, rfl⟩ := List.mem_map.mp ht; exact (hr.2 r hr2).1
      have hg := sufN_ge (rs := rs.map tl) (w := sp1 46 (tl y)) hrs (sp1_ne _ _)
      have hl2 := sp1_length (c := 46) (tl y)
      rw [← len_tl] at hl2
      have hn : lastN (sufN (rs.map tl) (sp1 46 (tl y))) (sp1 46 (tl y)) ≠ [] := fun q => by
        have := lastN_len (sufN (rs.map tl) (sp1 46 (tl y))) (sp1 46 (tl y))
        rw [q, List.length_nil] at this
        omega
      have e2 : sp1 46 (tl e) = lastN (sufN (rs.map tl) (sp1 46 (tl y))) (sp1 46 (tl y)) := by
        rw [ee]
        exact sp1_joinL hn fun l hl => sp1_free 46 (tl y) l (lastN_mem hl)
      have hlen : (sp1 46 (tl e)).length ≤ 101 := by rw [e2, lastN_len]; omega
      refine ⟨_, rfl, rfl, _, rfl, iteF ?_⟩
      refine ⟨_, rfl, _, rfl, e, rfl, _, _, rfl, rfl, y, (sp1 46 (tl e)).length + 1, rfl, by omega, by omega, by omega, fun e3 H3 s3 e4 _ => hQ e3 _ (s1.trans s3) ?_⟩
      unfold famT famL
      rw [ha, e4, e2]
      rfl
theorem ok__site (T : Txt K mg) : Cal P w K mg base CX0 9 "_site" ["rules", "place"] (sp__site K) := by
  refine T.d__site.ok0 sc__site (fun vs H Q E h => ?_) (fun f cdv A outer s H vs Q E hr h => ?_)
  · first | (obtain ⟨_, rfl, _⟩ := h; rfl) | (obtain ⟨_, _, rfl, _⟩ := h; rfl) | (obtain ⟨_, _, _, rfl, _⟩ := h; rfl) | (obtain ⟨_, _, _, _, rfl, _⟩ := h; rfl) | (obtain ⟨_, _, _, _, _, rfl, _⟩ := h; rfl) | (obtain ⟨_, _, _, _, _, _, rfl, _⟩ := h; rfl) | (obtain ⟨_, _, _, _, _, _, _, rfl, _⟩ := h; rfl) | (obtain ⟨_, _, _, _, _, _, _, _, rfl, _⟩ := h; rfl) | (obtain ⟨_, _, _, _, _, _, _, _, _, rfl, _⟩ := h; rfl) | (obtain ⟨_, _, _, _, _, _, _, _, _, _, rfl, _⟩ := h; rfl) | (obtain ⟨_, _, _, _, _, _, _, _, _, _, _, rfl, _⟩ := h; rfl) | (obtain ⟨_, _, _, _, _, _, _, _, _, _, _, _, rfl, _⟩ := h; rfl)
  · refine ⟨_, (pss_one (ps_ret (pe_tup (pa_cons (pe_ix ix_tup (pv 1) pe_int (fun _ _ => rfl)) (pa_cons (pe_c (ok_known_family T) hr (by decide) (by rfl) pass0 (pa_cons (pv 0) (pa_cons (pe_ix ix_tup (pv 1) pe_int (fun _ _ => rfl)) pa_nil))) pa_nil))))), ?_⟩
    obtain ⟨p, o, rs, x, y, r, rfl, hp, hl, hr, ho, hy, hQ⟩ := h
    refine ⟨_, rfl, o, _, _, _, rfl, rfl, SqT.of ho, atI_nat rfl, _, rfl, _, rfl, o, _, _, _, rfl, rfl, SqT.of ho, atI_nat rfl, ?_⟩
    refine ⟨p, rs, y, rfl, hp, hl, hr, hy, fun e H1 s1 he => ⟨by show 2 ≤ sizeLine; decide, fun q hq => hQ q _ (s1.trans (Same.new hq)) ?_⟩⟩
    have : e = famS rs y := by unfold famS; rw [← he, mkS_tl]
    rw [← this]; exact upd_same
theorem ok_Traits__init (T : Txt K mg) : CalM P w K mg base CX0 10 "Traits" "__init__" ["self", "rules", "request"] (sp_Traits__init K mg) := by
  refine T.m_Traits__init.ok0 sc_Traits__init (fun vs H Q E h => ?_) (fun f cdv A outer s H vs Q E hr h => ?_)
  · first | (obtain ⟨_, rfl, _⟩ := h; rfl) | (obtain ⟨_, _, rfl, _⟩ := h; rfl) | (obtain ⟨_, _, _, rfl, _⟩ := h; rfl) | (obtain ⟨_, _, _, _, rfl, _⟩ := h; rfl) | (obtain ⟨_, _, _, _, _, rfl, _⟩ := h; rfl) | (obtain ⟨_, _, _, _, _, _, rfl, _⟩ := h; rfl) | (obtain ⟨_, _, _, _, _, _, _, rfl, _⟩ := h; rfl) | (obtain ⟨_, _, _, _, _, _, _, _, rfl, _⟩ := h; rfl) | (obtain ⟨_, _, _, _, _, _, _, _, _, rfl, _⟩ := h; rfl) | (obtain ⟨_, _, _, _, _, _, _, _, _, _, rfl, _⟩ := h; rfl) | (obtain ⟨_, _, _, _, _, _, _, _, _, _, _, rfl, _⟩ := h; rfl) | (obtain ⟨_, _, _, _, _, _, _, _, _, _, _, _, rfl, _⟩ := h; rfl)
  · obtain ⟨C_Request, o_Request⟩ := T.o_Request
    obtain ⟨C_Traits, o_Traits⟩ := T.o_Traits
    refine ⟨_, (pss_cons (ps_set (i := 3) sc_Traits__init.nd rfl (by first | exact Or.inl rfl | exact Or.inr rfl) (pe_c (ok__site T) hr (by decide) (by rfl) pass0 (pa_cons (pv 1) (pa_cons (pe_fld (pv 2) rfl) pa_nil))))
      (pss_cons (ps_fld (pv 0) (pe_ix ix_tup (pe_fld (pv 2) rfl) pe_int (fun _ _ => rfl)) rfl)
      (pss_cons (ps_fld (pv 0) (pe_ix ix_tup (pe_fld (pv 2) rfl) pe_int (fun _ _ => rfl)) rfl)
      (pss_cons (ps_fld (pv 0) (pe_ix ix_tup (pv 3) pe_int (fun _ _ => rfl)) rfl)
      (pss_cons (ps_fld (pv 0) (pe_c (ok_is_safe T) hr (by decide) (by rfl) pass0 (pa_cons (pe_c (ok_origin_of T) hr (by decide) (by rfl) pass0 (pa_cons (pe_fld (pv 2) rfl) pa_nil)) pa_nil)) rfl)
      (pss_cons (ps_fld (pv 0) (pe_cmpR (op_eq) (pe_fld (pv 2) rfl) (pe_gc (by rfl) T.c_SCRIPT) (nomark _)) rfl)
      (pss_cons (ps_fld (pv 0) (pe_cmpR (op_gt) (pe_callB call_len_seq (by rfl) T.b_len (by decide +kernel) (pa_cons (pe_fld (pv 2) rfl) pa_nil)) pe_int (nomark _)) rfl)
      (pss_cons (ps_fld (pv 0) (pe_callB (cr_all rfl) (by rfl) T.b_all (by decide +kernel) (pa_cons (pe_lc (own := [(("place" : Str), 6)]) rfl sc_Traits__init.nd (pi_tup (pe_c (ok__places T) hr (by decide) (by rfl) pass0 (pa_cons (pv 2) pa_nil))) (blkOk_by (N := ["self", "rules", "request", "site", "frame_sites", "top", "place", "frame", "other"]) (sc := defScope s_Traits__init) (by decide +kernel)) (fun _ _ _ _ _ => (pg_name (i := 6) sc_Traits__init.nd rfl (by first | exact Or.inl rfl | exact Or.inr rfl))) (fun _ _ _ _ _ => pts_nil) (fun _ _ _ _ _ => (pe_cmpR ((show OpR _ (compareOp .Eq) (rEqD K) from op_eqD hr.units)) (pe_c (ok__site T) hr (by decide) (by rfl) pass0 (pa_cons (pv 1) (pa_cons (pv 6) pa_nil))) (pv 3) (nomark _)))) pa_nil)) rfl)
      (pss_cons (ps_fld (pv 0) (pe_or (pe_fld (pv 0) rfl) (pe_one (pe_and (pe_not (pe_fld (pv 0) rfl)) (pe_one (pe_fld (pv 2) rfl))))) rfl)
      (pss_cons (ps_setLc (i := 4) (own := [(("frame" : Str), 7)]) rfl sc_Traits__init.nd rfl rfl (sw_true rfl rfl rfl (by decide +kernel)) (pi_tup (pe_fld (pv 2) rfl)) (blkOk_by (N := ["self", "rules", "request", "site", "frame_sites", "top", "place", "frame", "other"]) (sc := defScope s_Traits__init) (by decide +kernel)) (fun _ _ _ _ _ => (pg_name (i := 7) sc_Traits__init.nd rfl (by first | exact Or.inl rfl | exact Or.inr rfl))) (fun _ _ _ _ _ => pts_nil) (fun _ _ _ _ _ => (pe_c (ok__site T) hr (by decide) (by rfl) pass0 (pa_cons (pv 1) (pa_cons (pv 7) pa_nil)))))
      (pss_cons (ps_set (i := 5) sc_Traits__init.nd rfl (by first | exact Or.inl rfl | exact Or.inr rfl) (pe_ifExp (pt_val (pe_fld (pv 0) rfl)) (pe_ix ix_list (pv 4) pe_int (fun _ _ => rfl)) (pv 3)))
      (pss_one (ps_fld (pv 0) (pe_tup (pa_cons (pv 5) (pa_cons (pe_callB (cr_any rfl) (by rfl) T.b_any (by decide +kernel) (pa_cons (pe_lc (own := [(("other" : Str), 8)]) rfl sc_Traits__init.nd (pi_list (pv 4)) (blkOk_by (N := ["self", "rules", "request", "site", "frame_sites", "top", "place", "frame", "other"]) (sc := defScope s_Traits__init) (by decide +kernel)) (fun _ _ _ _ _ => (pg_name (i := 8) sc_Traits__init.nd rfl (by first | exact Or.inl rfl | exact Or.inr rfl))) (fun _ _ _ _ _ => pts_nil) (fun _ _ _ _ _ => (pe_cmpR ((show OpR _ (compareOp .NotEq) (rNeD K) from op_neD hr.units)) (pv 8) (pv 3) (nomark _)))) pa_nil)) pa_nil))) rfl))))))))))))), ?_⟩
    obtain ⟨a, p, b, C, dx, rs, r, rfl, hg, ma, hp, hl, hr, hR, ok, hQ⟩ := h
    obtain rfl : C = C_Traits := by have := hg.symm.trans o_Traits.g; cases this; rfl
    have hR0 := hR
    obtain ⟨D, dy, pc, pf, q, vs, hgR, mb, hch, hst, hfr, mq⟩ := hR
    obtain rfl : D = C_Request := by have := hgR.symm.trans o_Request.g; cases this; rfl
    have gl : GoodA r.last := by
      have h1 : r.ch.length - 1 < r.ch.length := by have := ok.c1; omega
      have e : r.last = r.ch[r.ch.length - 1] := by
        unfold Rq.last
        rw [List.getLast?_eq_getElem?, List.getElem?_eq_getElem h1]; rfl
      rw [e]; exact ok.ca _ (List.getElem_mem h1)
    refine ⟨_, rfl, _, rfl, b, _, dy, _, _, rfl, mb, o_Request.o.cl, o_Request.na.get (by simp), rfl, p, q, rs, _, _, _, rfl, hp, hl, hr, mq, gl.2.1, fun e H1 s1 me => ?_⟩
    have ba : b ≠ a := fun z => by rw [z, ma] at mb; cases mb
    have na : ∀ {x : Addr} {c : List V}, H x = some (.tup c) → x ≠ a := fun e z => by rw [z, ma] at e; cases e
    have gR : ∀ {σ : L2.St} {H1 : Hp} {f : Str} {v : V}, σ[2]? = some (some (.ref b)) → KeepA a H H1 → NoAttr K D f → ([("addresses", V.ref pc), ("starter", vs), ("frames", .ref pf), ("is_reading", .bl r.rd), ("by", .str r.wy), ("target", .ref q)] : List (Str × V)).lookup f = some v → GivS σ H1 (tFld K (tVar 2) f) v := fun h0 k n l => givS_fld (givS_var h0) (fun H' s' => s' _ _ (k _ _ mb ba)) o_Request.o.cl n l
    have gt : ∀ {σ : L2.St} {H1 : Hp}, σ[2]? = some (some (.ref b)) → KeepA a H H1 → GivS σ H1 (tFld K (tVar 2) "target") (.ref q) := fun h0 k => gR (f := "target") h0 k (o_Request.na.get (by simp)) rfl
    have k1 := KeepA.refl.same (a := a) s1
    have ea : e ≠ a := fun z => by rw [z, s1 _ _ ma] at me; cases me
    refine sfld_step rfl (s1 _ _ ma) o_Traits.o.cl (o_Traits.na.get (by simp)) (by show 0 < 1000; decide) (givS_ixT 1 (gt rfl k1) (fun H' s' => SqT.of (s' _ _ (k1 _ _ mq (na mq)))) rfl) rfl fun H2 l2 m2 => ?_
    have k2 := k1.trans l2
    refine sfld_step rfl m2 o_Traits.o.cl (o_Traits.na.get (by simp)) (by show 1 < 1000; decide) (givS_ixT 2 (gt rfl k2) (fun H' s' => SqT.of (s' _ _ (k2 _ _ mq (na mq)))) rfl) rfl fun H3 l3 m3 => ?_
    have k3 := k2.trans l3
    have me3 := l3 _ _ (l2 _ _ me ea) ea
    refine sfld_step rfl m3 o_Traits.o.cl (o_Traits.na.get (by simp)) (by show 2 < 1000; decide) (givS_ixT 1 (givS_var rfl) (fun H' s' => SqT.of (s' _ _ me3)) rfl) rfl fun H4 l4 m4 => ?_
    have k4 := k3.trans l4
    refine sfld_step (v := .bl (safeB r.last.1 r.last.2.1)) rfl m4 o_Traits.o.cl (o_Traits.na.get (by simp)) (by show 3 < 1000; decide) ?g4 rfl fun H5 l5 m5 => ?_
    case g4 =>
      refine fun H' Q' s' q' => ⟨_, rfl, b, _, dy, _, _, rfl, s' _ _ (k4 _ _ mb ba), o_Request.o.cl, o_Request.na.get (by simp), rfl, q, _, _, _, rfl, s' _ _ (k4 _ _ mq (na mq)), gl.1, gl.2.1, gl.2.2, fun w Hw sw mw => ?_⟩
      exact ⟨w, _, _, rfl, mw, gl.1, gl.2.1, fun Hx sx => q' Hx (sw.trans sx)⟩
    have k5 := k4.trans l5
    refine sfld_step rfl m5 o_Traits.o.cl (o_Traits.na.get (by simp)) (by show 4 < 1000; decide) (givS_eq (gR (f := "by") rfl k5 (o_Request.na.get (by simp)) rfl) givS_c rfl (b := decide (r.wy = "script")) ?g5) rfl fun H6 l6 m6 => ?_
    case g5 => simp
    have k6 := k5.trans l6
    obtain ⟨fs, mf, tf⟩ := hfr
    have lf : fs.length = r.fr.length := by rw [tf.len, List.length_map]
    refine sfld_step (v := .bl (decide (0 < r.fr.length))) rfl m6 o_Traits.o.cl (o_Traits.na.get (by simp)) (by show 5 < 1000; decide) ?g6 rfl fun H7 l7 m7 => ?_
    case g6 =>
      refine fun H' Q' s' q' => ⟨_, rfl, b, _, dy, _, _, rfl, s' _ _ (k6 _ _ mb ba), o_Request.o.cl, o_Request.na.get (by simp), rfl, pf, _, rfl, .inr (SqT.of (s' _ _ (k6 _ _ mf (na mf)))), _, _, rfl, rfl, ?_⟩
      have e1 : decide ((0 : Int) < ((fs.map V.ref).length : Int)) = decide (0 < r.fr.length) := by
        rw [List.length_map, lf, Bool.eq_iff_iff, decide_eq_true_eq, decide_eq_true_eq]; omega
      show Q' (.bl (decide ((0 : Int) < ((fs.map V.ref).length : Int)))) H'
      rw [e1]; exact q' _ (Same.refl _)
    have k7 := k6.trans l7
    refine sfld_step (v := .bl (nearF rs r)) rfl m7 o_Traits.o.cl (o_Traits.na.get (by simp)) (by show 6 < 1000; decide) ?g7 rfl fun H8 l8 m8 => ?_
    case g7 =>
      refine fun H' Q' s' q' => ?_
      have kb : KeepA a H H' := k7.same s'
      have me7 : H' e = some (.tup [.str r.last.1, .str (famS rs r.last.2.1)]) := s' _ _ (l7 _ _ (l6 _ _ (l5 _ _ (l4 _ _ me3 ea) ea) ea) ea)
      have hR7 : ReqAt mg H' b r := ReqAt.keepA kb ma hR0
      refine ⟨_, rfl, b, r, rfl, hR7, ok, fun P qs H1 s1 mP pl => ⟨P, rfl, ⟨_, SqT.of mP⟩, fun D hD => ?_⟩⟩
      have hp7 : SqT K H1 p (rs.map V.str) := Same.seqT s1 (sqT_keepA kb ma (fun _ z => by cases z) (fun _ _ z => by cases z) hp)
      refine lc_tup (K := K) (a := P) (xs := qs.map V.ref) (fun i H2 => H2 D = some (.lst (((r.places.take i).map fun x => decide (siteS rs x = ownF rs r)).map V.bl)) ∧ Same H1 H2) ⟨upd_same, Same.new hD⟩ (fun i H2 _ ⟨_, s⟩ => Same.seqT s (SqT.of mP)) ?_ ?_
      · rintro i x H2 hi ⟨mD, s2⟩
        have hi2 : i < r.places.length := by
          have := (List.getElem?_eq_some_iff.mp hi).1
          rw [List.length_map, pl.1] at this
          exact this
        obtain ⟨qa, t, ea2, mqa⟩ := pl.2 i hi2
        rw [List.getElem?_map, ea2] at hi
        cases hi
        have go := ok.places _ (List.getElem_mem hi2)
        refine ⟨rfl, _, rfl, _, rfl, p, qa, rs, _, _, t, rfl, Same.seqT s2 hp7, hl, hr, s2 _ _ mqa, go.2, fun w H3 s3 mw => ⟨_, rfl, ?_⟩⟩
        refine rEqD_2 (x := siteS rs r.places[i]) (y := ownF rs r) mw (s3 _ _ (s2 _ _ (s1 _ _ me7))) (ascii_sch go.1) (ascii_fam (ascii_host go.2)) (ascii_sch gl.1) (ascii_fam (ascii_host gl.2.1)) ?_
        have hlen : r.places.length ≤ 17 := ok.placesLen
        refine ⟨_, s3 _ _ mD, Nat.lt_of_le_of_lt (by rw [List.length_map, List.length_map, List.length_take]; omega : _ ≤ 100) (by decide), ?_, Same.put (s2.trans s3) hD⟩
        rw [upd_same, List.take_succ, List.getElem?_eq_getElem hi2, List.map_append, List.map_append]; rfl
      rintro H2 ⟨mD, s2⟩
      rw [List.length_map, pl.1, List.take_of_length_le (Nat.le_refl _)] at mD
      refine ⟨D, _, rfl, SqL.of mD, ?_⟩
      rw [List.all_map]
      exact q' _ (s1.trans s2)
    have k8 := k7.trans l8
    refine sfld_step (v := .bl (laxF rs r)) rfl m8 o_Traits.o.cl (o_Traits.na.get (by simp)) (by show 7 < 1000; decide) ?g8 rfl fun H9 l9 m9 => ?_
    case g8 =>
      have e : laxF rs r = (nearF rs r || (!(decide (0 < r.fr.length)) && r.rd)) := by
        unfold laxF
        cases h : r.fr <;> simp
      rw [e]
      exact givS_or (givS_fld (givS_var rfl) (fun H' s' => s' _ _ m8) o_Traits.o.cl (o_Traits.na.get (by simp)) rfl) fun _ => givS_and (givS_notV (givS_fld (givS_var rfl) (fun H' s' => s' _ _ m8) o_Traits.o.cl (o_Traits.na.get (by simp)) rfl)) fun _ => gR (f := "is_reading") rfl k8 (o_Request.na.get (by simp)) rfl
    have k9 := k8.trans l9
    have me9 : H9 e = some (.tup [.str r.last.1, .str (famS rs r.last.2.1)]) := l9 _ _ (l8 _ _ (l7 _ _ (l6 _ _ (l5 _ _ (l4 _ _ me3 ea) ea) ea) ea) ea) ea
    have hp9 : SqT K H9 p (rs.map V.str) := sqT_keepA k9 ma (fun _ z => by cases z) (fun _ _ z => by cases z) hp
    have mf9 := k9 _ _ mf (na mf)
    have tf9 := k9.tups ma (fun xs z => by cases z) tf
    refine ⟨_, rfl, b, _, dy, _, _, rfl, k9 _ _ mb ba, o_Request.o.cl, o_Request.na.get (by simp), rfl, pf, rfl, ⟨_, SqT.of mf9⟩, fun D2 hD2 => ?_⟩
    refine lc_tup (K := K) (a := pf) (xs := fs.map V.ref) (fun i H2 => ∃ ws : List Addr, H2 D2 = some (.lst (ws.map V.ref)) ∧ TupsAt H2 ws (((r.fr.take i).map (siteS rs)).map orV) ∧ Same H9 H2) ⟨[], upd_same, trivial, Same.new hD2⟩ (fun i H2 _ ⟨_, _, _, s⟩ => Same.seqT s (SqT.of mf9)) ?_ ?_
    · rintro i x H2 hi ⟨ws, mD, tw, s2⟩
      have hi2 : i < r.fr.length := by
        have := (List.getElem?_eq_some_iff.mp hi).1
        rw [List.length_map, lf] at this
        exact this
      obtain ⟨qa, ea2, mqa⟩ := TupsAt.row2 (tf9.same s2) hi2
      rw [ea2] at hi
      cases hi
      have go := ok.fo _ (List.getElem_mem hi2)
      refine ⟨rfl, _, rfl, _, rfl, p, qa, rs, _, _, [], rfl, Same.seqT s2 hp9, hl, hr, mqa, go.2, fun w H3 s3 mw => ?_⟩
      have lw : ws.length = i := by rw [tw.len, List.length_map, List.length_map, List.length_take]; omega
      have f6 := ok.f6
      refine ⟨_, s3 _ _ mD, Nat.lt_of_le_of_lt (by rw [List.length_map]; omega : _ ≤ 100) (by decide), ws ++ [w], by rw [upd_same, List.map_append]; rfl, ?_, Same.put (s2.trans s3) hD2⟩
      have e1 : (((r.fr.take (i + 1)).map (siteS rs)).map orV) = (((r.fr.take i).map (siteS rs)).map orV) ++ [orV (siteS rs r.fr[i])] := by
        rw [List.take_succ, List.getElem?_eq_getElem hi2, List.map_append, List.map_append]; rfl
      rw [e1]
      exact TupsAt.putL (s3 _ _ mD) ((tw.same s3).app (TupsAt.one mw))
    rintro H10 ⟨ws, mD, tw, s10⟩
    rw [List.length_map, lf, List.take_of_length_le (Nat.le_refl _)] at tw
    have k10 := k9.same s10
    have me10 := s10 _ _ me9
    have m10 := s10 _ _ m9
    generalize hsv : r.fr.map (siteS rs) = sv at tw
    have lw : ws.length = sv.length := by rw [tw.len, List.length_map]
    have lsv : sv.length = r.fr.length := by rw [← hsv, List.length_map]
    have f6 := ok.f6
    have gtop : ∃ q0 : Addr, H10 q0 = some (.tup (orV (sv.headD (ownF rs r)))) ∧ ∀ σ : L2.St, σ[0]? = some (some (.ref a)) → σ[3]? = some (some (.ref e)) → σ[4]? = some (some (.ref D2)) →
        GivS σ H10 (tIf (tB (tFld K (tVar 0) "has_frames")) (tOp (rIxL K) (tVar 4) (tC (.int 0))) (tVar 3)) (.ref q0) := by
      by_cases h0 : 0 < r.fr.length
      · obtain ⟨w0, ew0, mw0⟩ := TupsAt.row2 tw (i := 0) (by omega)
        have hd : sv.headD (ownF rs r) = sv[0]'(by omega) := by
          cases sv with
          | nil => simp at lsv; omega
          | cons y t => rfl
        refine ⟨w0, by rw [hd]; exact mw0, fun σ h0' h3 h4 H' Q' s' q' => ⟨_, h0', a, _, dx, _, _, rfl, s' _ _ m10, o_Traits.o.cl, o_Traits.na.get (by simp), rfl, _, rfl, ite_y (decide_eq_true h0) ?_⟩⟩
        exact ⟨_, h4, D2, _, (0 : Nat), _, rfl, rfl, SqL.of (s' _ _ mD), atI_nat ew0, q' _ (Same.refl _)⟩
      · have hd : sv.headD (ownF rs r) = ownF rs r := by
          cases sv with
          | nil => rfl
          | cons y t => simp at lsv; omega
        refine ⟨e, by rw [hd]; exact me10, fun σ h0' h3 h4 H' Q' s' q' => ⟨_, h0', a, _, dx, _, _, rfl, s' _ _ m10, o_Traits.o.cl, o_Traits.na.get (by simp), rfl, _, rfl, ite_n (decide_eq_false h0) ?_⟩⟩
        exact ⟨_, h3, q' _ (Same.refl _)⟩
    obtain ⟨q0, mq0, gq⟩ := gtop
    refine gq _ rfl rfl rfl H10 _ (Same.refl _) fun Hy sy => ?_
    replace mD := sy _ _ mD
    replace tw := tw.same sy
    replace me10 := sy _ _ me10
    replace m10 := sy _ _ m10
    replace mq0 := sy _ _ mq0
    replace k10 := k10.same sy
    clear gq s10
    generalize Hy = H10 at mD tw me10 m10 mq0 k10 ⊢
    refine ⟨_, rfl, _, rfl, D2, rfl, ⟨_, SqL.of mD⟩, fun D3 hD3 => ?_⟩
    refine lc_list (K := K) (a := D2) (xs := ws.map V.ref) (fun i H2 => H2 D3 = some (.lst (((sv.take i).map fun x => decide (x ≠ ownF rs r)).map V.bl)) ∧ Same H10 H2) ⟨upd_same, Same.new hD3⟩ (fun i H2 _ ⟨_, s⟩ => SqL.of (s _ _ mD)) ?_ ?_
    · rintro i x H2 hi ⟨mD3, s2⟩
      have hi2 : i < sv.length := by
        have := (List.getElem?_eq_some_iff.mp hi).1
        rw [List.length_map, lw] at this
        exact this
      obtain ⟨qa, ea2, mqa⟩ := TupsAt.row2 (tw.same s2) hi2
      rw [ea2] at hi
      cases hi
      have hm : sv[i] ∈ r.fr.map (siteS rs) := by rw [hsv]; exact List.getElem_mem hi2
      obtain ⟨y, hy, ey⟩ := List.mem_map.mp hm
      have go := ok.fo y hy
      have a1 : ascii sv[i].1 := by rw [← ey]; exact ascii_sch go.1
      have a2 : ascii sv[i].2 := by rw [← ey]; exact ascii_fam (ascii_host go.2)
      refine ⟨rfl, _, rfl, _, rfl, ?_⟩
      refine rNeD_2 (x := sv[i]) (y := ownF rs r) mqa (s2 _ _ me10) a1 a2 (ascii_sch gl.1) (ascii_fam (ascii_host gl.2.1)) ?_
      refine ⟨_, mD3, Nat.lt_of_le_of_lt (by rw [List.length_map, List.length_map, List.length_take]; omega : _ ≤ 100) (by decide), ?_, Same.put s2 hD3⟩
      rw [upd_same, List.take_succ, List.getElem?_eq_getElem hi2, List.map_append, List.map_append, ← decide_not]; rfl
    rintro H11 ⟨mD3, s11⟩
    rw [List.length_map, lw, List.take_of_length_le (Nat.le_refl _)] at mD3
    refine ⟨D3, _, rfl, SqL.of mD3, by show 2 ≤ sizeLine; decide, fun w hw => ?_⟩
    have sw := Same.new (o := HO.tup [V.ref q0, V.bl ((sv.map fun x => decide (x ≠ ownF rs r)).any id)]) hw
    have m12 := sw _ _ (s11 _ _ m10)
    refine ⟨_, rfl, a, _, dx, _, rfl, m12, o_Traits.o.cl, o_Traits.na.get (by simp), by show 8 < 1000; decide, ?_⟩
    have wa : w ≠ a := fun z => by rw [z, s11 _ _ m10] at hw; cases hw
    have q0a : q0 ≠ a := fun z => by rw [z, m10] at mq0; cases mq0
    refine hQ _ ((k10.same (s11.trans sw)).upd) ⟨_, dx, w, hg, upd_same, q0, ?_, ?_⟩
    · rw [upd_ne wa, upd_same]
      unfold partF
      rw [hsv, List.any_map]; rfl
    · rw [upd_ne q0a]
      unfold partF
      rw [hsv]
      exact sw _ _ (s11 _ _ mq0)
theorem ok_need_request (T : Txt K mg) : Cal P w K mg base (L2.CX P w) 3 "need_request" ["value"] (sp_need_request K mg) := by
  refine T.d_need_request.okX sc_need_request (fun vs H Q E h => ?_) (fun f cdv A outer s H vs Q E hr h => ?_)
  · first | (obtain ⟨_, rfl, _⟩ := h; rfl) | (obtain ⟨_, _, rfl, _⟩ := h; rfl) | (obtain ⟨_, _, _, rfl, _⟩ := h; rfl) | (obtain ⟨_, _, _, _, rfl, _⟩ := h; rfl) | (obtain ⟨_, _, _, _, _, rfl, _⟩ := h; rfl) | (obtain ⟨_, _, _, _, _, _, rfl, _⟩ := h; rfl) | (obtain ⟨_, _, _, _, _, _, _, rfl, _⟩ := h; rfl) | (obtain ⟨_, _, _, _, _, _, _, _, rfl, _⟩ := h; rfl) | (obtain ⟨_, _, _, _, _, _, _, _, _, rfl, _⟩ := h; rfl) | (obtain ⟨_, _, _, _, _, _, _, _, _, _, rfl, _⟩ := h; rfl) | (obtain ⟨_, _, _, _, _, _, _, _, _, _, _, rfl, _⟩ := h; rfl) | (obtain ⟨_, _, _, _, _, _, _, _, _, _, _, _, rfl, _⟩ := h; rfl)
  · obtain ⟨C_BadRequest, e_BadRequest⟩ := T.e_BadRequest
    obtain ⟨C_Request, o_Request⟩ := T.o_Request
    refine ⟨_, (pss_one (ps_if (pt_not (pt_val (pe_callB call_isi (by rfl) T.b_isinstance (by decide +kernel) (pa_cons (pv 0) (pa_cons (pe_gt (by rfl) o_Request.g) pa_nil)))))
      (pss_one (ps_raiseE rfl e_BadRequest hr (by decide) pass0 (takes_of rfl rfl rfl rfl) (pa_cons pe_str pa_nil) (by rfl)))
      pss_nil)), ?_⟩
    obtain ⟨v, rfl, h⟩ := h
    rcases h with ⟨a, r, rfl, ⟨C, dx, pc, pf, q, vs, hg, ma, _⟩, hQ⟩ | ⟨⟨T, ht, hT⟩, hE⟩
    · obtain rfl : C = C_Request := by have := hg.symm.trans o_Request.g; cases this; rfl
      exact ⟨_, rfl, _, _, _, _, true, rfl, .own C, o_Request.o.ty ma, kit_self7 K C, _, rfl, iteF hQ⟩
    · refine ⟨_, rfl, _, _, _, _, false, rfl, .own C_Request, ht, (o_Request.kitT hT).1, _, rfl, iteT ?_⟩
      exact ⟨_, rfl, fun d hd => hE C_BadRequest d _ e_BadRequest.g (Same.refl _) hd⟩
theorem ok__checked_traits (T : Txt K mg) : Cal P w K mg base (L2.CX P w) 12 "_checked_traits" ["rules", "request"] (sp__checked_traits K mg) := by
  refine T.d__checked_traits.okX sc__checked_traits (fun vs H Q E h => ?_) (fun f cdv A outer s H vs Q E hr h => ?_)
  · first | (obtain ⟨_, rfl, _⟩ := h; rfl) | (obtain ⟨_, _, rfl, _⟩ := h; rfl) | (obtain ⟨_, _, _, rfl, _⟩ := h; rfl) | (obtain ⟨_, _, _, _, rfl, _⟩ := h; rfl) | (obtain ⟨_, _, _, _, _, rfl, _⟩ := h; rfl) | (obtain ⟨_, _, _, _, _, _, rfl, _⟩ := h; rfl) | (obtain ⟨_, _, _, _, _, _, _, rfl, _⟩ := h; rfl) | (obtain ⟨_, _, _, _, _, _, _, _, rfl, _⟩ := h; rfl) | (obtain ⟨_, _, _, _, _, _, _, _, _, rfl, _⟩ := h; rfl) | (obtain ⟨_, _, _, _, _, _, _, _, _, _, rfl, _⟩ := h; rfl) | (obtain ⟨_, _, _, _, _, _, _, _, _, _, _, rfl, _⟩ := h; rfl) | (obtain ⟨_, _, _, _, _, _, _, _, _, _, _, _, rfl, _⟩ := h; rfl)
  · obtain ⟨C_Traits, o_Traits⟩ := T.o_Traits
    refine ⟨_, (pss_cons (ps_expr (pe_cX (ok_need_rules T) hr (by decide) (by rfl) (takes_of rfl rfl rfl rfl) (pa_cons (pv 0) pa_nil)))
      (pss_cons (ps_expr (pe_cX (ok_need_request T) hr (by decide) (by rfl) (takes_of rfl rfl rfl rfl) (pa_cons (pv 1) pa_nil)))
      (pss_one (ps_ret (pe_mkC o_Traits (ok_Traits__init T) hr (by decide) (by rfl) pass0 (pa_cons (pv 0) (pa_cons (pv 1) pa_nil))))))), ?_⟩
    obtain ⟨v, u, b, c, rfl, hv, hu, q1, q2, q3⟩ := h
    refine ⟨_, rfl, v, b, rfl, hv, fun hb H1 s1 => ?_, q1⟩
    subst hb
    rcases hu.same s1 with ⟨a, r, rfl, hR, ok, rfl⟩ | ⟨hN, rfl⟩
    rotate_left
    · exact ⟨_, rfl, u, rfl, .inr ⟨hN, (q2 rfl rfl).same s1⟩⟩
    refine ⟨_, rfl, .ref a, rfl, .inl ⟨a, r, rfl, hR, ?_⟩⟩
    obtain ⟨p, rs, rfl, hp, hl, hr⟩ := hv.good
    refine ⟨_, rfl, _, rfl, fun x dx hx hdx hne => ?_⟩
    have so : Same H1 (upd (upd H1 dx (.own x)) x (.ins C_Traits dx [])) := fun b o e => by
      rw [upd_ne (ne_of_none e hx), upd_ne (ne_of_none e hdx)]
      exact e
    have s3 := s1.trans so
    have mx := upd_same (H := upd H1 dx (.own x)) (a := x) (o := HO.ins C_Traits dx [])
    generalize upd (upd H1 dx (HO.own x)) x (HO.ins C_Traits dx []) = H3 at s3 so mx ⊢
    refine ⟨x, p, a, C_Traits, dx, rs, r, rfl, o_Traits.g, mx, SqT.of (s3 _ _ hp), hl, hr, hR.same so, ok, fun H4 k4 hT => ⟨rfl, ?_⟩⟩
    exact q3 rfl r rfl p rs rfl hp hr _ H4 (fun b o e => k4 b o (so b o (s1 b o e)) (ne_of_none (s1 b o e) hx)) ⟨x, rfl, hT⟩
theorem ok_near (T : Txt K mg) : Cal P w K mg base (L2.CX P w) 13 "near" ["rules", "request"] (sp_near K mg) := by
  refine T.d_near.okX sc_near (fun vs H Q E h => ?_) (fun f cdv A outer s H vs Q E hr h => ?_)
  · first | (obtain ⟨_, rfl, _⟩ := h; rfl) | (obtain ⟨_, _, rfl, _⟩ := h; rfl) | (obtain ⟨_, _, _, rfl, _⟩ := h; rfl) | (obtain ⟨_, _, _, _, rfl, _⟩ := h; rfl) | (obtain ⟨_, _, _, _, _, rfl, _⟩ := h; rfl) | (obtain ⟨_, _, _, _, _, _, rfl, _⟩ := h; rfl) | (obtain ⟨_, _, _, _, _, _, _, rfl, _⟩ := h; rfl) | (obtain ⟨_, _, _, _, _, _, _, _, rfl, _⟩ := h; rfl) | (obtain ⟨_, _, _, _, _, _, _, _, _, rfl, _⟩ := h; rfl) | (obtain ⟨_, _, _, _, _, _, _, _, _, _, rfl, _⟩ := h; rfl) | (obtain ⟨_, _, _, _, _, _, _, _, _, _, _, rfl, _⟩ := h; rfl) | (obtain ⟨_, _, _, _, _, _, _, _, _, _, _, _, rfl, _⟩ := h; rfl)
  · obtain ⟨C_Traits, o_Traits⟩ := T.o_Traits
    refine ⟨_, (pss_one (ps_ret (pe_fld (pe_cX (ok__checked_traits T) hr (by decide) (by rfl) (takes_of rfl rfl rfl rfl) (pa_cons (pv 0) (pa_cons (pv 1) pa_nil))) rfl))), ?_⟩
    obtain ⟨v, u, b, c, rfl, hv, hu, q1, q2, q3⟩ := h
    refine ⟨_, rfl, _, rfl, v, u, b, c, rfl, hv, hu, q1, q2, fun hb r hc p rs ev mp hr w H' s' ⟨a, ew, hT⟩ => ?_⟩
    subst ew
    obtain ⟨C, dx, q, hg, ma, _⟩ := hT
    obtain rfl : C = C_Traits := by have := hg.symm.trans o_Traits.g; cases this; rfl
    exact ⟨a, _, dx, _, _, rfl, ma, o_Traits.o.cl, o_Traits.na.get (by simp), rfl, q3 hb r hc p rs ev mp hr _ H' s' rfl⟩
theorem ok_lax (T : Txt K mg) : Cal P w K mg base (L2.CX P w) 13 "lax" ["rules", "request"] (sp_lax K mg) := by
  refine T.d_lax.okX sc_lax (fun vs H Q E h => ?_) (fun f cdv A outer s H vs Q E hr h => ?_)
  · first | (obtain ⟨_, rfl, _⟩ := h; rfl) | (obtain ⟨_, _, rfl, _⟩ := h; rfl) | (obtain ⟨_, _, _, rfl, _⟩ := h; rfl) | (obtain ⟨_, _, _, _, rfl, _⟩ := h; rfl) | (obtain ⟨_, _, _, _, _, rfl, _⟩ := h; rfl) | (obtain ⟨_, _, _, _, _, _, rfl, _⟩ := h; rfl) | (obtain ⟨_, _, _, _, _, _, _, rfl, _⟩ := h; rfl) | (obtain ⟨_, _, _, _, _, _, _, _, rfl, _⟩ := h; rfl) | (obtain ⟨_, _, _, _, _, _, _, _, _, rfl, _⟩ := h; rfl) | (obtain ⟨_, _, _, _, _, _, _, _, _, _, rfl, _⟩ := h; rfl) | (obtain ⟨_, _, _, _, _, _, _, _, _, _, _, rfl, _⟩ := h; rfl) | (obtain ⟨_, _, _, _, _, _, _, _, _, _, _, _, rfl, _⟩ := h; rfl)
  · obtain ⟨C_Traits, o_Traits⟩ := T.o_Traits
    refine ⟨_, (pss_one (ps_ret (pe_fld (pe_cX (ok__checked_traits T) hr (by decide) (by rfl) (takes_of rfl rfl rfl rfl) (pa_cons (pv 0) (pa_cons (pv 1) pa_nil))) rfl))), ?_⟩
    obtain ⟨v, u, b, c, rfl, hv, hu, q1, q2, q3⟩ := h
    refine ⟨_, rfl, _, rfl, v, u, b, c, rfl, hv, hu, q1, q2, fun hb r hc p rs ev mp hr w H' s' ⟨a, ew, hT⟩ => ?_⟩
    subst ew
    obtain ⟨C, dx, q, hg, ma, _⟩ := hT
    obtain rfl : C = C_Traits := by have := hg.symm.trans o_Traits.g; cases this; rfl
    exact ⟨a, _, dx, _, _, rfl, ma, o_Traits.o.cl, o_Traits.na.get (by simp), rfl, q3 hb r hc p rs ev mp hr _ H' s' rfl⟩
theorem ok_partition_of (T : Txt K mg) : Cal P w K mg base (L2.CX P w) 13 "partition_of" ["rules", "request"] (sp_partition_of K mg) := by
  refine T.d_partition_of.okX sc_partition_of (fun vs H Q E h => ?_) (fun f cdv A outer s H vs Q E hr h => ?_)
  · first | (obtain ⟨_, rfl, _⟩ := h; rfl) | (obtain ⟨_, _, rfl, _⟩ := h; rfl) | (obtain ⟨_, _, _, rfl, _⟩ := h; rfl) | (obtain ⟨_, _, _, _, rfl, _⟩ := h; rfl) | (obtain ⟨_, _, _, _, _, rfl, _⟩ := h; rfl) | (obtain ⟨_, _, _, _, _, _, rfl, _⟩ := h; rfl) | (obtain ⟨_, _, _, _, _, _, _, rfl, _⟩ := h; rfl) | (obtain ⟨_, _, _, _, _, _, _, _, rfl, _⟩ := h; rfl) | (obtain ⟨_, _, _, _, _, _, _, _, _, rfl, _⟩ := h; rfl) | (obtain ⟨_, _, _, _, _, _, _, _, _, _, rfl, _⟩ := h; rfl) | (obtain ⟨_, _, _, _, _, _, _, _, _, _, _, rfl, _⟩ := h; rfl) | (obtain ⟨_, _, _, _, _, _, _, _, _, _, _, _, rfl, _⟩ := h; rfl)
  · obtain ⟨C_Traits, o_Traits⟩ := T.o_Traits
    refine ⟨_, (pss_one (ps_ret (pe_fld (pe_cX (ok__checked_traits T) hr (by decide) (by rfl) (takes_of rfl rfl rfl rfl) (pa_cons (pv 0) (pa_cons (pv 1) pa_nil))) rfl))), ?_⟩
    obtain ⟨v, u, b, c, rfl, hv, hu, q1, q2, q3⟩ := h
    refine ⟨_, rfl, _, rfl, v, u, b, c, rfl, hv, hu, q1, q2, fun hb r hc p rs ev mp hr w H' s' ⟨a, ew, hT⟩ => ?_⟩
    subst ew
    obtain ⟨C, dx, q, hg, ma, hP⟩ := hT
    obtain rfl : C = C_Traits := by have := hg.symm.trans o_Traits.g; cases this; rfl
    exact ⟨a, _, dx, _, _, rfl, ma, o_Traits.o.cl, o_Traits.na.get (by simp), rfl, q3 hb r hc p rs ev mp hr _ H' s' ⟨q, rfl, hP⟩⟩
theorem ok__need (T : Txt K mg) : Cal P w K mg base CX0 1 "_need" ["field", "is_right"] sp__need := by
  refine T.d__need.ok0 sc__need (fun vs H Q E h => ?_) (fun f cdv A outer s H vs Q E hr h => ?_)
  · first | (obtain ⟨_, rfl, _⟩ := h; rfl) | (obtain ⟨_, _, rfl, _⟩ := h; rfl) | (obtain ⟨_, _, _, rfl, _⟩ := h; rfl) | (obtain ⟨_, _, _, _, rfl, _⟩ := h; rfl) | (obtain ⟨_, _, _, _, _, rfl, _⟩ := h; rfl) | (obtain ⟨_, _, _, _, _, _, rfl, _⟩ := h; rfl) | (obtain ⟨_, _, _, _, _, _, _, rfl, _⟩ := h; rfl) | (obtain ⟨_, _, _, _, _, _, _, _, rfl, _⟩ := h; rfl) | (obtain ⟨_, _, _, _, _, _, _, _, _, rfl, _⟩ := h; rfl) | (obtain ⟨_, _, _, _, _, _, _, _, _, _, rfl, _⟩ := h; rfl) | (obtain ⟨_, _, _, _, _, _, _, _, _, _, _, rfl, _⟩ := h; rfl) | (obtain ⟨_, _, _, _, _, _, _, _, _, _, _, _, rfl, _⟩ := h; rfl)
  · refine ⟨_, (pss_one (ps_if (pt_not (pt_val (pv 1)))
      (pss_one ps_never)
      pss_nil)), ?_⟩
    obtain ⟨f, rfl, hQ⟩ := h
    exact ⟨_, rfl, _, rfl, iteF hQ⟩
theorem ok__are_addresses (T : Txt K mg) : Cal P w K mg base CX0 8 "_are_addresses" ["value"] sp__are_addresses := by
  refine T.d__are_addresses.ok0 sc__are_addresses (fun vs H Q E h => ?_) (fun f cdv A outer s H vs Q E hr h => ?_)
  · first | (obtain ⟨_, rfl, _⟩ := h; rfl) | (obtain ⟨_, _, rfl, _⟩ := h; rfl) | (obtain ⟨_, _, _, rfl, _⟩ := h; rfl) | (obtain ⟨_, _, _, _, rfl, _⟩ := h; rfl) | (obtain ⟨_, _, _, _, _, rfl, _⟩ := h; rfl) | (obtain ⟨_, _, _, _, _, _, rfl, _⟩ := h; rfl) | (obtain ⟨_, _, _, _, _, _, _, rfl, _⟩ := h; rfl) | (obtain ⟨_, _, _, _, _, _, _, _, rfl, _⟩ := h; rfl) | (obtain ⟨_, _, _, _, _, _, _, _, _, rfl, _⟩ := h; rfl) | (obtain ⟨_, _, _, _, _, _, _, _, _, _, rfl, _⟩ := h; rfl) | (obtain ⟨_, _, _, _, _, _, _, _, _, _, _, rfl, _⟩ := h; rfl) | (obtain ⟨_, _, _, _, _, _, _, _, _, _, _, _, rfl, _⟩ := h; rfl)
  · refine ⟨_, (pss_cons (ps_if (PW.pt (pw_or (pt_not (pt_val (pe_callB call_isi (by rfl) T.b_isinstance (by decide +kernel) (pa_cons (pv 0) (pa_cons (pe_bltn (v := .ty "tuple") (by rfl) T.b_tuple (by decide +kernel) rfl) pa_nil))))) (pw_or1 (pt_not (pt_chain (op_le) (op_le) pe_int (pe_callB call_len_seq (by rfl) T.b_len (by decide +kernel) (pa_cons (pv 0) pa_nil)) (pe_gc (by rfl) T.c_MOST_ADDRESSES))))))
      (pss_one (ps_ret pe_bl))
      pss_nil)
      (pss_one (ps_ret (pe_callB (cr_all rfl) (by rfl) T.b_all (by decide +kernel) (pa_cons (pe_lc (own := [(("address" : Str), 1)]) rfl sc__are_addresses.nd (pi_tup (pv 0)) (blkOk_by (N := ["value", "address"]) (sc := defScope s__are_addresses) (by decide +kernel)) (fun _ _ _ _ _ => (pg_name (i := 1) sc__are_addresses.nd rfl (by first | exact Or.inl rfl | exact Or.inr rfl))) (fun _ _ _ _ _ => pts_nil) (fun _ _ _ _ _ => (pe_c (ok_is_address T) hr (by decide) (by rfl) pass0 (pa_cons (pv 1) pa_nil)))) pa_nil))))), ?_⟩
    obtain ⟨p, l, rfl, ⟨qs, hp, tq⟩, h1, h10, hg, hQ⟩ := h
    have lq : qs.length = l.length := by rw [tq.len, List.length_map]
    refine ⟨_, rfl, _, _, _, _, true, rfl, .ty _, .base (.tup hp), kit_ty (by decide +kernel), _, rfl, iteF ?_⟩
    refine ⟨_, rfl, p, _, rfl, .inr (SqT.of hp), ?_⟩
    have e0 : ((qs.map V.ref).length : Int) = (l.length : Int) := by rw [List.length_map, lq]
    refine ⟨_, _, rfl, rfl, _, rfl, iteB (fun _ => ?_) (fun hb => absurd (by rw [e0]; omega : (1 : Int) ≤ _) (of_decide_eq_false hb))⟩
    refine ⟨_, _, rfl, rfl, _, rfl, ?_⟩
    have e1 : (!(decide (((qs.map V.ref).length : Int) ≤ 10))) = false := by rw [e0, Bool.not_eq_false', decide_eq_true_eq]; omega
    show if (!(decide (((qs.map V.ref).length : Int) ≤ 10))) = true then _ else _
    rw [e1]
    refine iteF ?_
    refine ⟨_, rfl, p, rfl, ⟨_, SqT.of hp⟩, fun D hD => ?_⟩
    refine lc_tup (K := K) (a := p) (xs := qs.map V.ref) (fun i H' => H' D = some (.lst (((l.take i).map fun _ => true).map V.bl)) ∧ Same H H') ⟨upd_same, Same.new hD⟩ (fun i H' _ ⟨_, s⟩ => Same.seqT s (SqT.of hp)) ?_ ?_
    · rintro i x H2 hi ⟨mD, s2⟩
      have hi2 : i < l.length := by
        have := (List.getElem?_eq_some_iff.mp hi).1
        rw [List.length_map] at this
        omega
      obtain ⟨qa, ea, ma⟩ := TupsAt.row3 (tq.same s2) hi2
      rw [ea] at hi
      cases hi
      have g := hg _ (List.getElem_mem hi2)
      refine ⟨rfl, _, rfl, qa, _, _, _, rfl, ma, g.1, g.2.1, g.2.2, fun H3 s3 => ⟨_, s3 _ _ mD, Nat.lt_of_le_of_lt (by rw [List.length_map, List.length_map, List.length_take]; omega : _ ≤ 100) (by decide), ?_, Same.put (s2.trans s3) hD⟩⟩
      rw [upd_same, List.take_succ, List.getElem?_eq_getElem hi2, List.map_append, List.map_append]; rfl
    rintro H2 ⟨mD, s2⟩
    rw [List.length_map, lq, List.take_of_length_le (Nat.le_refl _)] at mD
    refine ⟨D, _, rfl, SqL.of mD, ?_⟩
    rw [show (l.map fun _ => true).all id = true by rw [List.all_map]; exact List.all_eq_true.mpr fun _ _ => rfl]
    exact hQ _ s2
theorem ok__are_frames (T : Txt K mg) : Cal P w K mg base CX0 7 "_are_frames" ["value"] sp__are_frames := by
  refine T.d__are_frames.ok0 sc__are_frames (fun vs H Q E h => ?_) (fun f cdv A outer s H vs Q E hr h => ?_)
  · first | (obtain ⟨_, rfl, _⟩ := h; rfl) | (obtain ⟨_, _, rfl, _⟩ := h; rfl) | (obtain ⟨_, _, _, rfl, _⟩ := h; rfl) | (obtain ⟨_, _, _, _, rfl, _⟩ := h; rfl) | (obtain ⟨_, _, _, _, _, rfl, _⟩ := h; rfl) | (obtain ⟨_, _, _, _, _, _, rfl, _⟩ := h; rfl) | (obtain ⟨_, _, _, _, _, _, _, rfl, _⟩ := h; rfl) | (obtain ⟨_, _, _, _, _, _, _, _, rfl, _⟩ := h; rfl) | (obtain ⟨_, _, _, _, _, _, _, _, _, rfl, _⟩ := h; rfl) | (obtain ⟨_, _, _, _, _, _, _, _, _, _, rfl, _⟩ := h; rfl) | (obtain ⟨_, _, _, _, _, _, _, _, _, _, _, rfl, _⟩ := h; rfl) | (obtain ⟨_, _, _, _, _, _, _, _, _, _, _, _, rfl, _⟩ := h; rfl)
  · refine ⟨_, (pss_cons (ps_if (PW.pt (pw_or (pt_not (pt_val (pe_callB call_isi (by rfl) T.b_isinstance (by decide +kernel) (pa_cons (pv 0) (pa_cons (pe_bltn (v := .ty "tuple") (by rfl) T.b_tuple (by decide +kernel) rfl) pa_nil))))) (pw_or1 (pt_cmpR (op_gt) (pe_callB call_len_seq (by rfl) T.b_len (by decide +kernel) (pa_cons (pv 0) pa_nil)) (pe_gc (by rfl) T.c_MOST_FRAMES) (nomark _)))))
      (pss_one (ps_ret pe_bl))
      pss_nil)
      (pss_one (ps_ret (pe_callB (cr_all rfl) (by rfl) T.b_all (by decide +kernel) (pa_cons (pe_lc (own := [(("frame" : Str), 1)]) rfl sc__are_frames.nd (pi_tup (pv 0)) (blkOk_by (N := ["value", "frame"]) (sc := defScope s__are_frames) (by decide +kernel)) (fun _ _ _ _ _ => (pg_name (i := 1) sc__are_frames.nd rfl (by first | exact Or.inl rfl | exact Or.inr rfl))) (fun _ _ _ _ _ => pts_nil) (fun _ _ _ _ _ => (pe_c (ok_is_origin T) hr (by decide) (by rfl) pass0 (pa_cons (pv 1) pa_nil)))) pa_nil))))), ?_⟩
    obtain ⟨p, l, rfl, ⟨qs, hp, tq⟩, h6, hg, hQ⟩ := h
    have lq : qs.length = l.length := by rw [tq.len, List.length_map]
    refine ⟨_, rfl, _, _, _, _, true, rfl, .ty _, .base (.tup hp), kit_ty (by decide +kernel), _, rfl, iteF ?_⟩
    refine ⟨_, rfl, p, _, rfl, .inr (SqT.of hp), ?_⟩
    have e0 : ((qs.map V.ref).length : Int) = (l.length : Int) := by rw [List.length_map, lq]
    refine ⟨_, _, rfl, rfl, _, rfl, iteB (fun hb => absurd (of_decide_eq_true hb) (by rw [e0]; omega)) (fun _ => ?_)⟩
    refine ⟨_, rfl, p, rfl, ⟨_, SqT.of hp⟩, fun D hD => ?_⟩
    refine lc_tup (K := K) (a := p) (xs := qs.map V.ref) (fun i H' => H' D = some (.lst (((l.take i).map fun _ => true).map V.bl)) ∧ Same H H') ⟨upd_same, Same.new hD⟩ (fun i H' _ ⟨_, s⟩ => Same.seqT s (SqT.of hp)) ?_ ?_
    · rintro i x H2 hi ⟨mD, s2⟩
      have hi2 : i < l.length := by
        have := (List.getElem?_eq_some_iff.mp hi).1
        rw [List.length_map] at this
        omega
      obtain ⟨qa, ea, ma⟩ := TupsAt.row2 (tq.same s2) hi2
      rw [ea] at hi
      cases hi
      have g := hg _ (List.getElem_mem hi2)
      refine ⟨rfl, _, rfl, qa, _, _, rfl, ma, g.1, g.2, fun H3 s3 => ⟨_, s3 _ _ mD, Nat.lt_of_le_of_lt (by rw [List.length_map, List.length_map, List.length_take]; omega : _ ≤ 100) (by decide), ?_, Same.put (s2.trans s3) hD⟩⟩
      rw [upd_same, List.take_succ, List.getElem?_eq_getElem hi2, List.map_append, List.map_append]; rfl
    rintro H2 ⟨mD, s2⟩
    rw [List.length_map, lq, List.take_of_length_le (Nat.le_refl _)] at mD
    refine ⟨D, _, rfl, SqL.of mD, ?_⟩
    rw [show (l.map fun _ => true).all id = true by rw [List.all_map]; exact List.all_eq_true.mpr fun _ _ => rfl]
    exact hQ _ s2
theorem ok_Request__init (T : Txt K mg) : CalQ P w K mg base (L2.CX P w) 9 "Request" "__init__" 2 ["self", "addresses", "starter", "frames", "is_reading", "by"] ["starter", "frames", "is_reading", "by"] (sp_Request__init K mg) := by
  refine T.m_Request__init.okX sc_Request__init (fun vs H Q E h => ?_) (fun f cdv A outer s H vs Q E hr h => ?_)
  · first | (obtain ⟨_, rfl, _⟩ := h; rfl) | (obtain ⟨_, _, rfl, _⟩ := h; rfl) | (obtain ⟨_, _, _, rfl, _⟩ := h; rfl) | (obtain ⟨_, _, _, _, rfl, _⟩ := h; rfl) | (obtain ⟨_, _, _, _, _, rfl, _⟩ := h; rfl) | (obtain ⟨_, _, _, _, _, _, rfl, _⟩ := h; rfl) | (obtain ⟨_, _, _, _, _, _, _, rfl, _⟩ := h; rfl) | (obtain ⟨_, _, _, _, _, _, _, _, rfl, _⟩ := h; rfl) | (obtain ⟨_, _, _, _, _, _, _, _, _, rfl, _⟩ := h; rfl) | (obtain ⟨_, _, _, _, _, _, _, _, _, _, rfl, _⟩ := h; rfl) | (obtain ⟨_, _, _, _, _, _, _, _, _, _, _, rfl, _⟩ := h; rfl) | (obtain ⟨_, _, _, _, _, _, _, _, _, _, _, _, rfl, _⟩ := h; rfl)
  · obtain ⟨C_Request, o_Request⟩ := T.o_Request
    refine ⟨_, (pss_cons (ps_expr (pe_c (ok__need T) hr (by decide) (by rfl) pass0 (pa_cons pe_str (pa_cons (pe_c (ok__are_addresses T) hr (by decide) (by rfl) pass0 (pa_cons (pv 1) pa_nil)) pa_nil))))
      (pss_cons (ps_expr (pe_c (ok__need T) hr (by decide) (by rfl) pass0 (pa_cons pe_str (pa_cons (pe_or (pe_cmpR (op_isN) (pv 2) pe_non (nomark _)) (pe_one (pe_c (ok_is_origin T) hr (by decide) (by rfl) pass0 (pa_cons (pv 2) pa_nil)))) pa_nil))))
      (pss_cons (ps_expr (pe_c (ok__need T) hr (by decide) (by rfl) pass0 (pa_cons pe_str (pa_cons (pe_and (pe_c (ok__are_frames T) hr (by decide) (by rfl) pass0 (pa_cons (pv 3) pa_nil)) (pe_one (pe_or (pe_cmpR (op_isN) (pv 2) pe_non (nomark _)) (pe_one (pe_cmpR (op_eq) (pe_callB call_len_seq (by rfl) T.b_len (by decide +kernel) (pa_cons (pv 3) pa_nil)) pe_int (nomark _)))))) pa_nil))))
      (pss_cons (ps_expr (pe_c (ok__need T) hr (by decide) (by rfl) pass0 (pa_cons pe_str (pa_cons (pe_callB call_isi (by rfl) T.b_isinstance (by decide +kernel) (pa_cons (pv 4) (pa_cons (pe_bltn (v := .ty "bool") (by rfl) T.b_bool (by decide +kernel) rfl) pa_nil))) pa_nil))))
      (pss_cons (ps_expr (pe_c (ok__need T) hr (by decide) (by rfl) pass0 (pa_cons pe_str (pa_cons (pe_and (pe_callB call_isi (by rfl) T.b_isinstance (by decide +kernel) (pa_cons (pv 5) (pa_cons (pe_bltn (v := .ty "str") (by rfl) T.b_str (by decide +kernel) rfl) pa_nil))) (pe_one (pe_cmpR (op_in_seq) (pv 5) (pe_tup (pa_cons (pe_gc (by rfl) T.c_HTTP) (pa_cons (pe_gc (by rfl) T.c_SCRIPT) pa_nil))) (by with_unfolding_all rfl)))) pa_nil))))
      (pss_cons (ps_expr (pe_c (ok__need T) hr (by decide) (by rfl) pass0 (pa_cons pe_str (pa_cons (pe_or (pe_cmpR (op_eq) (pv 5) (pe_gc (by rfl) T.c_HTTP) (nomark _)) (pe_one (pe_and (pe_cmpR (op_eq) (pe_callB call_len_seq (by rfl) T.b_len (by decide +kernel) (pa_cons (pv 1) pa_nil)) pe_int (nomark _)) (pe_and (pe_cmpR (op_isN) (pv 2) pe_non (nomark _)) (pe_one (pv 4)))))) pa_nil))))
      (pss_cons (ps_fld (pv 0) (pv 1) rfl)
      (pss_cons (ps_fld (pv 0) (pv 2) rfl)
      (pss_cons (ps_fld (pv 0) (pv 3) rfl)
      (pss_cons (ps_fld (pv 0) (pv 4) rfl)
      (pss_cons (ps_fld (pv 0) (pv 5) rfl)
      (pss_one (ps_fld (pv 0) (pe_ix ix_tup (pv 1) (pe_un un_neg pe_int) (fun _ _ => rfl)) rfl))))))))))))), ?_⟩
    obtain ⟨a, pc, pf, C, dx, v, r, rfl, hg, ma, hc, hst, hf, ok, hQ⟩ := h
    obtain rfl : C = C_Request := by have := hg.symm.trans o_Request.g; cases this; rfl
    have nd : (v = .non ∧ r.st = none) ∨ ∃ p x, v = .ref p ∧ H p = some (.tup (orV x)) ∧ r.st = some x ∧ GoodO x ∧ r.fr = [] := by
      cases e : r.st with
      | none => rw [e] at hst; exact .inl ⟨hst, rfl⟩
      | some x =>
        rw [e] at hst
        obtain ⟨p, e1, e2⟩ := hst
        exact .inr ⟨p, x, e1, e2, rfl, ok.so x e⟩
    refine need_step (H0 := H) (fun H' Q' s' q' => ⟨_, rfl, pc, r.ch, rfl, hc.same s', ok.c1, ok.c2, ok.ca, fun H3 s3 => q' H3 s3⟩) (Same.refl _) fun H1 s1 => ?_
    refine need_step (H0 := H) ?g2 s1 fun H2 s2 => ?_
    case g2 =>
      rcases nd with ⟨rfl, e⟩ | ⟨p, x, rfl, mp, e, go, fe⟩
      · exact givS_orT (givS_isNT (givS_var rfl))
      · exact givS_orF (givS_isNR (givS_var rfl)) fun H' Q' s' q' => ⟨_, rfl, p, x.1, x.2, rfl, s' _ _ mp, go.1, go.2, fun H2 s2 => q' H2 s2⟩
    have s02 := s1.trans s2
    refine need_step (H0 := H) ?g3 s02 fun H3 s3 => ?_
    case g3 =>
      refine givS_andT (fun H' Q' s' q' => ⟨_, rfl, pf, r.fr, rfl, hf.same s', ok.f6, ok.fo, fun H3 s3 => q' H3 s3⟩) ?_
      rcases nd with ⟨rfl, e⟩ | ⟨p, x, rfl, mp, e, go, fe⟩
      · exact givS_orT (givS_isNT (givS_var rfl))
      · obtain ⟨fs, mf, tf⟩ := hf
        have l0 : fs = [] := by
          have := tf.len
          rw [fe] at this
          exact List.length_eq_zero_iff.mp this
        rw [l0] at mf
        exact givS_orF (givS_isNR (givS_var rfl)) fun H' Q' s' q' => ⟨_, rfl, pf, [], rfl, .inr (SqT.of (s' _ _ mf)), rfl, q' _ (Same.refl _)⟩
    have s03 := s02.trans s3
    refine need_step (H0 := H) (fun H' Q' s' q' => ⟨_, rfl, _, _, _, _, true, rfl, .ty _, .base (.bl r.rd), kit_ty (by decide +kernel), q' _ (Same.refl _)⟩) s03 fun H4 s4 => ?_
    have s04 := s03.trans s4
    refine need_step (H0 := H) ?g5 s04 fun H5 s5 => ?_
    case g5 =>
      refine givS_andT (fun H' Q' s' q' => ⟨_, rfl, _, _, _, _, true, rfl, .ty _, .base (.str r.wy), kit_ty (by decide +kernel), q' _ (Same.refl _)⟩) ?_
      refine givS_inTup (xs := [.str "http", .str "script"]) (givS_var rfl) (giv_cons giv_c (giv_cons giv_c giv_nil)) (by decide) rfl rfl ?_
      rcases ok.wy with e | ⟨e, _⟩ <;> rw [e] <;> decide +kernel
    have s05 := s04.trans s5
    refine need_step (H0 := H) ?g6 s05 fun H6 s6 => ?_
    case g6 =>
      rcases ok.wy with e | ⟨e, l1, e2, e3⟩
      · exact givS_orT (givS_eq (givS_var rfl) givS_c rfl (decide_eq_true (by rw [e])))
      · refine givS_orF (givS_eq (givS_var rfl) givS_c rfl (decide_eq_false (by rw [e]; exact fun z => absurd (V.str.inj z) (by decide +kernel)))) (givS_andT ?_ (givS_andT ?_ (by rw [← e3]; exact givS_var rfl)))
        · obtain ⟨cs, mc, tc⟩ := hc
          have lc : cs.length = r.ch.length := by rw [tc.len, List.length_map]
          refine givS_eq (v := .int ((cs.map V.ref).length : Int)) (fun H' Q' s' q' => ⟨_, rfl, pc, _, rfl, .inr (SqT.of (s' _ _ mc)), q' _ (Same.refl _)⟩) givS_c rfl (decide_eq_true ?_)
          rw [List.length_map, lc, l1]; rfl
        · have : v = .non := by
            rcases nd with ⟨h, _⟩ | ⟨_, _, _, _, h, _⟩
            · exact h
            · rw [e2] at h; cases h
          rw [this]
          exact givS_isNT (givS_var rfl)
    have s06 := s05.trans s6
    have ma6 := s06 _ _ ma
    have k0 : KeepA a H H6 := KeepA.refl.same s06
    refine sfld_step rfl ma6 o_Request.o.cl (o_Request.na.get (by simp)) (by show 0 < 1000; decide) (givS_var rfl) rfl fun H7 k7 m7 => ?_
    refine sfld_step rfl m7 o_Request.o.cl (o_Request.na.get (by simp)) (by show 1 < 1000; decide) (givS_var rfl) rfl fun H8 k8 m8 => ?_
    refine sfld_step rfl m8 o_Request.o.cl (o_Request.na.get (by simp)) (by show 2 < 1000; decide) (givS_var rfl) rfl fun H9 k9 m9 => ?_
    refine sfld_step rfl m9 o_Request.o.cl (o_Request.na.get (by simp)) (by show 3 < 1000; decide) (givS_var rfl) rfl fun Hx kx mx => ?_
    refine sfld_step rfl mx o_Request.o.cl (o_Request.na.get (by simp)) (by show 4 < 1000; decide) (givS_var rfl) rfl fun Hy ky my => ?_
    have kk := ((((k0.trans k7).trans k8).trans k9).trans kx).trans ky
    obtain ⟨cs, mc, tc⟩ := hc
    obtain ⟨fs, mf, tf⟩ := hf
    have lc : cs.length = r.ch.length := by rw [tc.len, List.length_map]
    have na : ∀ {b : Addr} {c : List V}, H b = some (.tup c) → b ≠ a := fun e z => by rw [z, ma] at e; cases e
    have h1 : r.ch.length - 1 < r.ch.length := by have := ok.c1; omega
    obtain ⟨qa, ea, mqa⟩ := TupsAt.row3 tc h1
    have hla : r.last = r.ch[r.ch.length - 1] := by
      unfold Rq.last
      rw [List.getLast?_eq_getElem?, List.getElem?_eq_getElem h1]; rfl
    have eI : atI (cs.map V.ref) (-1) = some (.ref qa) := by
      refine atI_m1 ?_
      rw [List.length_map, lc]
      exact ea
    refine sfld_last (v := .ref qa) rfl my o_Request.o.cl (o_Request.na.get (by simp)) (by show 5 < 1000; decide) (fun H' Q' s' q' => ⟨_, rfl, 1, rfl, pc, _, _, _, rfl, rfl, SqT.of (s' _ _ (kk _ _ mc (na mc))), eI, q' _ (Same.refl _)⟩) rfl fun Hz kz mz => ?_
    refine hQ _ (kk.trans kz) ?_
    have kq := kk.trans kz
    refine ⟨_, dx, pc, pf, qa, v, hg, mz, ⟨cs, kq _ _ mc (na mc), kq.tups ma (fun xs z => by cases z) tc⟩, ?_, ⟨fs, kq _ _ mf (na mf), kq.tups ma (fun xs z => by cases z) tf⟩, ?_⟩
    · rcases nd with ⟨rfl, e⟩ | ⟨p, x, rfl, mp, e, go, fe⟩
      · rw [e]; rfl
      · rw [e]; exact ⟨p, rfl, kq _ _ mp (na mp)⟩
    · rw [hla]
      exact kq _ _ mqa (na mqa)
theorem ok__law_asked (T : Txt K mg) : Cal P w K mg base CX0 11 "_law_asked" ["v"] (sp__law_asked K mg) := by
  refine T.d__law_asked.ok0 sc__law_asked (fun vs H Q E h => ?_) (fun f cdv A outer s H vs Q E hr h => ?_)
  · first | (obtain ⟨_, rfl, _⟩ := h; rfl) | (obtain ⟨_, _, rfl, _⟩ := h; rfl) | (obtain ⟨_, _, _, rfl, _⟩ := h; rfl) | (obtain ⟨_, _, _, _, rfl, _⟩ := h; rfl) | (obtain ⟨_, _, _, _, _, rfl, _⟩ := h; rfl) | (obtain ⟨_, _, _, _, _, _, rfl, _⟩ := h; rfl) | (obtain ⟨_, _, _, _, _, _, _, rfl, _⟩ := h; rfl) | (obtain ⟨_, _, _, _, _, _, _, _, rfl, _⟩ := h; rfl) | (obtain ⟨_, _, _, _, _, _, _, _, _, rfl, _⟩ := h; rfl) | (obtain ⟨_, _, _, _, _, _, _, _, _, _, rfl, _⟩ := h; rfl) | (obtain ⟨_, _, _, _, _, _, _, _, _, _, _, rfl, _⟩ := h; rfl) | (obtain ⟨_, _, _, _, _, _, _, _, _, _, _, _, rfl, _⟩ := h; rfl)
  · have hu := hu_of hr
    obtain ⟨C_Request, o_Request⟩ := T.o_Request
    refine ⟨_, (pss_one (ps_ret (pe_mkQ (E := fun _ _ _ => False) o_Request (ok_Request__init T) hr (by decide) (by rfl) passF (pa_cons (pe_dget hu (pv 0) pe_str (fun _ _ => rfl)) pa_nil) (pk_cons (pe_dget hu (pv 0) pe_str (fun _ _ => rfl)) (pk_cons (pe_dget hu (pv 0) pe_str (fun _ _ => rfl)) (pk_cons (pe_dget hu (pv 0) pe_str (fun _ _ => rfl)) (pk_cons (pe_dget hu (pv 0) pe_str (fun _ _ => rfl)) pk_nil))))))), ?_⟩
    obtain ⟨d, r, rfl, ⟨pc, pf, vs, md, hch, hst, hfr⟩, ok, hQ⟩ := h
    refine ⟨_, rfl, d, _, rfl, valK md (ask_chain ..), _, rfl, d, _, rfl, valK md (ask_starter ..), _, rfl, d, _, rfl, valK md (ask_frames ..), _, rfl, d, _, rfl, valK md (ask_reads ..), _, rfl, d, _, rfl, valK md (ask_way ..), rfl, rfl, fun x dx hx hdx hne => ?_⟩
    have so : Same H (upd (upd H dx (.own x)) x (.ins C_Request dx [])) := fun b o e => by
      rw [upd_ne (ne_of_none e hx), upd_ne (ne_of_none e hdx)]
      exact e
    have mx := upd_same (H := upd H dx (.own x)) (a := x) (o := HO.ins C_Request dx [])
    generalize upd (upd H dx (HO.own x)) x (HO.ins C_Request dx []) = H3 at so mx ⊢
    refine ⟨x, pc, pf, C_Request, dx, vs, r, rfl, o_Request.g, mx, hch.same so, hst.same so, hfr.same so, ok, fun H4 k4 hR => ⟨rfl, ?_⟩⟩
    exact hQ x H4 (fun b o e => k4 b o (so b o e) (ne_of_none e hx)) hR
theorem ok__law_told (T : Txt K mg) : CalG P w K mg base CX0 14 "_law_told" ["rules", "v"] (sp__law_told K mg) := by
  refine T.d__law_told.ok0G sc__law_told (fun vs H Q E h => ?_) (fun f cdv A outer s H vs Q E hgd hr h => ?_)
  · first | (obtain ⟨_, rfl, _⟩ := h; rfl) | (obtain ⟨_, _, rfl, _⟩ := h; rfl) | (obtain ⟨_, _, _, rfl, _⟩ := h; rfl) | (obtain ⟨_, _, _, _, rfl, _⟩ := h; rfl) | (obtain ⟨_, _, _, _, _, rfl, _⟩ := h; rfl) | (obtain ⟨_, _, _, _, _, _, rfl, _⟩ := h; rfl) | (obtain ⟨_, _, _, _, _, _, _, rfl, _⟩ := h; rfl) | (obtain ⟨_, _, _, _, _, _, _, _, rfl, _⟩ := h; rfl) | (obtain ⟨_, _, _, _, _, _, _, _, _, rfl, _⟩ := h; rfl) | (obtain ⟨_, _, _, _, _, _, _, _, _, _, rfl, _⟩ := h; rfl) | (obtain ⟨_, _, _, _, _, _, _, _, _, _, _, rfl, _⟩ := h; rfl) | (obtain ⟨_, _, _, _, _, _, _, _, _, _, _, _, rfl, _⟩ := h; rfl)
  · refine ⟨_, (pss_cons (ps_set (i := 2) sc__law_told.nd rfl (by first | exact Or.inl rfl | exact Or.inr rfl) (pe_c (ok__law_asked T) hr (by decide) (by rfl) pass0 (pa_cons (pv 1) pa_nil)))
      (pss_one (ps_ret (pe_tup (pa_cons (pe_c (CX := L2.CX _ _) (E := fun _ _ _ => False) (ok_near T) hr (by decide) (by rfl) passF (pa_cons (pv 0) (pa_cons (pv 2) pa_nil))) (pa_cons (pe_c (CX := L2.CX _ _) (E := fun _ _ _ => False) (ok_lax T) hr (by decide) (by rfl) passF (pa_cons (pv 0) (pa_cons (pv 2) pa_nil))) (pa_cons (pe_c (CX := L2.CX _ _) (E := fun _ _ _ => False) (ok_partition_of T) hr (by decide) (by rfl) passF (pa_cons (pv 0) (pa_cons (pv 2) pa_nil))) pa_nil))))))), ?_⟩
    obtain ⟨p, d, rs, r, rfl, hp, hr, hl, hA, ok, hQ⟩ := h
    refine seq_asg ?_
    refine ⟨_, rfl, d, r, rfl, hA, ok, fun a H1 s1 hR => ?_⟩
    try dsimp only
    refine ⟨_, rfl, _, rfl, ask_good (s1 _ _ hp) hr hl hR ok fun w H2 s2 ew => ?_⟩
    subst ew
    have s12 := s1.trans s2
    refine ⟨_, rfl, _, rfl, ask_good (s12 _ _ hp) hr hl (hR.same s2) ok fun w H3 s3 ew => ?_⟩
    subst ew
    have s13 := s12.trans s3
    refine ⟨_, rfl, _, rfl, ask_good (s13 _ _ hp) hr hl (hR.same (s2.trans s3)) ok fun w H4 s4 ⟨q, ew, hq⟩ => ?_⟩
    subst ew
    refine ⟨by show 3 ≤ sizeLine; decide, fun t ht => ?_⟩
    have sn := Same.new (o := HO.tup [V.bl (nearF rs r), V.bl (laxF rs r), V.ref q]) ht
    exact hQ t _ ((s13.trans s4).trans sn) ⟨q, upd_same, hq.same sn⟩
theorem ok__law_with (T : Txt K mg) : Cal P w K mg base CX0 1 "_law_with" ["v", "changes"] (sp__law_with K) := by
  refine T.d__law_with.ok0 sc__law_with (fun vs H Q E h => ?_) (fun f cdv A outer s H vs Q E hr h => ?_)
  · first | (obtain ⟨_, rfl, _⟩ := h; rfl) | (obtain ⟨_, _, rfl, _⟩ := h; rfl) | (obtain ⟨_, _, _, rfl, _⟩ := h; rfl) | (obtain ⟨_, _, _, _, rfl, _⟩ := h; rfl) | (obtain ⟨_, _, _, _, _, rfl, _⟩ := h; rfl) | (obtain ⟨_, _, _, _, _, _, rfl, _⟩ := h; rfl) | (obtain ⟨_, _, _, _, _, _, _, rfl, _⟩ := h; rfl) | (obtain ⟨_, _, _, _, _, _, _, _, rfl, _⟩ := h; rfl) | (obtain ⟨_, _, _, _, _, _, _, _, _, rfl, _⟩ := h; rfl) | (obtain ⟨_, _, _, _, _, _, _, _, _, _, rfl, _⟩ := h; rfl) | (obtain ⟨_, _, _, _, _, _, _, _, _, _, _, rfl, _⟩ := h; rfl) | (obtain ⟨_, _, _, _, _, _, _, _, _, _, _, _, rfl, _⟩ := h; rfl)
  · refine ⟨_, (pss_cons (ps_set (i := 2) sc__law_with.nd rfl (by first | exact Or.inl rfl | exact Or.inr rfl) (pe_callTy call_dictD (by rfl) T.b_dict (by decide +kernel) (pa_cons (pv 0) pa_nil)))
      (pss_cons (ps_expr (pe_bm PySem.F.plainAttrs_dict PySem.F.slot_dict_update PySem.F.type_dict_update mt_updD (pv 2) (pa_cons (pv 1) pa_nil)))
      (pss_one (ps_ret (pv 2))))), ?_⟩
    obtain ⟨d, e, ks, kvs, rfl, hd, he, l1, l2, hQ⟩ := h
    refine seq_asg ?_
    refine ⟨_, rfl, d, ks, rfl, .inl hd, fun a ha => ?_⟩
    have sa := Same.new (o := HO.dK ks) ha
    have ma := upd_same (H := H) (a := a) (o := HO.dK ks)
    try dsimp only
    refine ⟨_, rfl, .inr (.inr (.inl ⟨rfl, .inl ⟨_, ma⟩⟩)), _, rfl, a, e, ks, kvs, rfl, rfl, fun z => (by rw [z, he] at ha; cases ha), ma, sa _ _ he, Nat.le_trans (Nat.add_le_add l1 l2) (by decide), ?_⟩
    rw [upd_upd]
    exact ⟨_, rfl, hQ a _ (Same.new ha) upd_same⟩
theorem ok__law_turned (T : Txt K mg) : Cal P w K mg base CX0 2 "_law_turned" ["draw", "some"] (sp__law_turned K) := by
  refine T.d__law_turned.ok0 sc__law_turned (fun vs H Q E h => ?_) (fun f cdv A outer s H vs Q E hr h => ?_)
  · first | (obtain ⟨_, rfl, _⟩ := h; rfl) | (obtain ⟨_, _, rfl, _⟩ := h; rfl) | (obtain ⟨_, _, _, rfl, _⟩ := h; rfl) | (obtain ⟨_, _, _, _, rfl, _⟩ := h; rfl) | (obtain ⟨_, _, _, _, _, rfl, _⟩ := h; rfl) | (obtain ⟨_, _, _, _, _, _, rfl, _⟩ := h; rfl) | (obtain ⟨_, _, _, _, _, _, _, rfl, _⟩ := h; rfl) | (obtain ⟨_, _, _, _, _, _, _, _, rfl, _⟩ := h; rfl) | (obtain ⟨_, _, _, _, _, _, _, _, _, rfl, _⟩ := h; rfl) | (obtain ⟨_, _, _, _, _, _, _, _, _, _, rfl, _⟩ := h; rfl) | (obtain ⟨_, _, _, _, _, _, _, _, _, _, _, rfl, _⟩ := h; rfl) | (obtain ⟨_, _, _, _, _, _, _, _, _, _, _, _, rfl, _⟩ := h; rfl)
  · refine ⟨_, (pss_cons (ps_par (i := 2) (j := 3) rfl sc__law_turned.nd rfl rfl (by decide) rfl rfl (pa_cons (pe_callTy call_list_of (by rfl) T.b_list (by decide +kernel) (pa_cons (pv 1) pa_nil)) (pa_cons (pe_lst pa_nil) pa_nil)) (by rfl))
      (pss_cons (ps_while PassesOwn.never (pt_cmpR (op_neD hr.units) (pv 2) (pe_lst pa_nil) (nomark _))
      (pss_one (ps_expr (pe_bm PySem.F.plainAttrs_list PySem.F.slot_list_append PySem.F.type_list_append mt_append (pv 3) (pa_cons (pe_bm PySem.F.plainAttrs_list PySem.F.slot_list_pop PySem.F.type_list_pop mt_popAt (pv 2) (pa_cons (pe_c (ok__law_next T) hr (by decide) (by rfl) pass0 (pa_cons (pv 0) (pa_cons (pe_callB call_len_seq (by rfl) T.b_len (by decide +kernel) (pa_cons (pv 2) pa_nil)) pa_nil))) pa_nil)) pa_nil)))))
      (pss_one (ps_ret (pv 3))))), ?_⟩
    obtain ⟨d, g, p, qs, l, n, rfl, hp, ht, hg, hl, D, hQ⟩ := h
    refine ⟨_, rfl, p, _, rfl, .inr hp, fun L hL => ⟨by show 0 ≤ sizeLine; decide, fun F hF => ?_⟩⟩
    have sL := Same.new (o := HO.lst (qs.map V.ref)) hL
    have sF := Same.new (o := HO.lst []) hF
    have mL := sF _ _ (upd_same (H := H) (a := L) (o := HO.lst (qs.map V.ref)))
    have mF := upd_same (H := upd H L (HO.lst (qs.map V.ref))) (a := F) (o := HO.lst [])
    have nL := D.new hL
    have D1 := D.same sL
    have nF := D1.new hF
    have D2 := D1.same sF
    have LF : L ≠ F := fun z => by rw [← z, upd_same] at hF; cases hF
    have k2 : KeepD d g H (upd (upd H L (HO.lst (qs.map V.ref))) F (HO.lst [])) := (Same.keepD sL).same sF
    have t2 := ht.same (sL.trans sF)
    have hLF : ∀ b o, H b = some o → b ≠ L ∧ b ≠ F := fun b o e => ⟨fun z => (by rw [z, hL] at e; cases e), fun z => (by rw [z] at e; rw [sL _ _ e] at hF; cases hF)⟩
    generalize upd (upd H L (HO.lst (qs.map V.ref))) F (HO.lst []) = H2 at mL mF D2 k2 t2 ⊢
    refine ⟨_, _, rfl, ?_⟩
    try dsimp only
    refine ⟨fun m σ H' => ∃ (as bs : List Addr) (la lb : List (Str × Str × Str)), σ = [some (.ref d), some (.ref p), some (.ref L), some (.ref F)] ∧ la.length = m ∧ H' L = some (.lst (as.map V.ref)) ∧ H' F = some (.lst (bs.map V.ref)) ∧ TupsAt H' as (la.map adV) ∧ TupsAt H' bs (lb.map adV) ∧ (la ++ lb).Perm l ∧ KeepD d g H H' ∧ GAt H' d g (n + la.length + 10), ⟨_, qs, [], l, [], rfl, rfl, mL, mF, t2, trivial, by rw [List.append_nil], k2, D2.less (by omega)⟩, ?_⟩
    rintro m σ H3 ⟨as, bs, la, lb, rfl, rfl, mL3, mF3, ta, tb, pm, k3, D3⟩
    have gla : ∀ x ∈ la, GoodA x := fun x hx => hg x (pm.mem_iff.mp (List.mem_append_left _ hx))
    have hla : la.length ≤ 10 := by
      have := pm.length_eq
      rw [List.length_append] at this
      omega
    have hlb : lb.length ≤ 10 := by
      have := pm.length_eq
      rw [List.length_append] at this
      omega
    have las : as.length = la.length := by rw [ta.len, List.length_map]
    have lbs : bs.length = lb.length := by rw [tb.len, List.length_map]
    refine ⟨_, rfl, by show 0 ≤ sizeLine; decide, fun E hE => ?_⟩
    have sE := Same.new (o := HO.lst []) hE
    refine ⟨_, _, .lst (SqL.of (sE _ _ mL3)) (dpAll_tris (ta.same sE)), .lst (SqL.of upd_same) .nil, shaped_list (fun y hy => (by obtain ⟨x, hx, rfl⟩ := List.mem_map.mp hy; exact lay_tri (gla x hx))), by decide +kernel, _, rfl, ?_⟩
    rw [eqv_tris0]
    have k4 := k3.same sE
    have mL4 := sE _ _ mL3
    have mF4 := sE _ _ mF3
    have ta4 := ta.same sE
    have tb4 := tb.same sE
    have D4 := D3.same sE
    clear k3 mL3 mF3 ta tb D3
    generalize upd H3 E (HO.lst []) = H4 at k4 mL4 mF4 ta4 tb4 D4 ⊢
    by_cases e0 : la = []
    · subst e0
      refine ite_n (by simp) ⟨_, rfl, ?_⟩
      exact hQ F bs lb H4 k4 (D4.less (by omega)) nF.1 nF.2 mF4 tb4 (by simpa using pm)
    refine ite_y (by simp [e0]) ?_
    have l0 : 0 < la.length := List.length_pos_iff.mpr e0
    refine ⟨fun σ' H' => ∃ m', m' < la.length ∧ ∃ (as bs : List Addr) (la lb : List (Str × Str × Str)), σ' = [some (.ref d), some (.ref p), some (.ref L), some (.ref F)] ∧ la.length = m' ∧ H' L = some (.lst (as.map V.ref)) ∧ H' F = some (.lst (bs.map V.ref)) ∧ TupsAt H' as (la.map adV) ∧ TupsAt H' bs (lb.map adV) ∧ (la ++ lb).Perm l ∧ KeepD d g H H' ∧ GAt H' d g (n + la.length + 10), fun σ' H' z => z, ?_⟩
    refine ⟨_, rfl, .inl ⟨rfl, _, SqL.of mF4⟩, _, rfl, .inl ⟨rfl, _, SqL.of mL4⟩, _, rfl, _, rfl, L, _, rfl, .inl (SqL.of mL4), ?_⟩
    refine ⟨d, g, ((as.map V.ref).length : Int), n + la.length + 9, rfl, by rw [List.length_map, las]; omega, by rw [List.length_map, las]; omega, D4.less (by omega), fun r H5 h0 h1 k5 D5 => ?_⟩
    rw [List.length_map, las] at h1
    obtain ⟨i, rfl⟩ : ∃ i : Nat, r = i := ⟨r.toNat, by omega⟩
    have hi : i < la.length := by omega
    have mL5 := k5 _ _ mL4 nL.1 nL.2
    have mF5 := k5 _ _ mF4 nF.1 nF.2
    have ta5 := k5.tups D4 ta4
    have tb5 := k5.tups D4 tb4
    obtain ⟨q, eq, mq⟩ := TupsAt.row3 ta5 hi
    refine ⟨L, _, _, i, _, rfl, rfl, mL5, by omega, by omega, (ixN_seq (ixN_nat (by rw [List.length_map, las]; exact hi))).1, eq, ?_⟩
    rw [← map_erase]
    have mF6 : (upd H5 L (.lst ((as.eraseIdx i).map V.ref))) F = some (.lst (bs.map V.ref)) := (upd_ne LF.symm).trans mF5
    have ta6 : TupsAt (upd H5 L (.lst ((as.eraseIdx i).map V.ref))) (as.eraseIdx i) ((la.eraseIdx i).map adV) := by
      have te := TupsAt.erase i ta5
      rw [← map_erase] at te
      exact TupsAt.putL mL5 te
    have tb6 : TupsAt (upd H5 L (.lst ((as.eraseIdx i).map V.ref))) bs (lb.map adV) := TupsAt.putL mL5 tb5
    have mq6 : (upd H5 L (.lst ((as.eraseIdx i).map V.ref))) q = some (.tup (adV la[i])) := (upd_ne (fun z => by rw [z, mL5] at mq; cases mq)).trans mq
    have mL6 := upd_same (H := H5) (a := L) (o := HO.lst ((as.eraseIdx i).map V.ref))
    have D6 := D5.upd (o := HO.lst ((as.eraseIdx i).map V.ref)) nL.1 nL.2
    have k6 : KeepD d g H (upd H5 L (.lst ((as.eraseIdx i).map V.ref))) := (k4.trans k5).updN hL
    generalize upd H5 L (HO.lst ((as.eraseIdx i).map V.ref)) = H6 at mF6 ta6 tb6 mq6 mL6 D6 k6 ⊢
    refine ⟨F, _, _, rfl, rfl, mF6, Nat.lt_of_le_of_lt (by rw [List.length_map, lbs]; exact hlb : _ ≤ 10) (by decide), ?_⟩
    have hF0 : H F = none := by
      cases e : H F with
      | none => rfl
      | some o => rw [sL _ _ e] at hF; cases hF
    have el : (la.eraseIdx i).length + 1 = la.length := by rw [List.length_eraseIdx, if_pos hi]; omega
    refine ⟨(la.eraseIdx i).length, by omega, as.eraseIdx i, bs ++ [q], la.eraseIdx i, lb ++ [la[i]], rfl, rfl, (upd_ne LF).trans mL6, by rw [upd_same, List.map_append]; rfl, TupsAt.putL mF6 ta6, ?_, ?_, k6.updN hF0, (D6.upd nF.1 nF.2).less (by omega)⟩
    · rw [List.map_append]
      exact TupsAt.putL mF6 (tb6.app (TupsAt.one mq6))
    · refine .trans ?_ pm
      have h1 : (la.eraseIdx i ++ (lb ++ [la[i]])).Perm (la.eraseIdx i ++ ([la[i]] ++ lb)) := List.Perm.append_left _ List.perm_append_comm
      have h2 : (la.eraseIdx i ++ ([la[i]] ++ lb)).Perm ((la[i] :: la.eraseIdx i) ++ lb) := by
        rw [← List.append_assoc]
        exact List.Perm.append_right _ (List.perm_append_comm (l₂ := [la[i]]))
      exact (h1.trans h2).trans (List.Perm.append_right _ (erase_perm la i hi))
theorem ok__law_chains_right (T : Txt K mg) : CalG P w K mg base CX0 15 "_law_chains_right" ["draw", "rules", "v"] (sp__law_chains_right K mg) := by
  refine T.d__law_chains_right.ok0G sc__law_chains_right (fun vs H Q E h => ?_) (fun f cdv A outer s H vs Q E hgd hr h => ?_)
  · first | (obtain ⟨_, rfl, _⟩ := h; rfl) | (obtain ⟨_, _, rfl, _⟩ := h; rfl) | (obtain ⟨_, _, _, rfl, _⟩ := h; rfl) | (obtain ⟨_, _, _, _, rfl, _⟩ := h; rfl) | (obtain ⟨_, _, _, _, _, rfl, _⟩ := h; rfl) | (obtain ⟨_, _, _, _, _, _, rfl, _⟩ := h; rfl) | (obtain ⟨_, _, _, _, _, _, _, rfl, _⟩ := h; rfl) | (obtain ⟨_, _, _, _, _, _, _, _, rfl, _⟩ := h; rfl) | (obtain ⟨_, _, _, _, _, _, _, _, _, rfl, _⟩ := h; rfl) | (obtain ⟨_, _, _, _, _, _, _, _, _, _, rfl, _⟩ := h; rfl) | (obtain ⟨_, _, _, _, _, _, _, _, _, _, _, rfl, _⟩ := h; rfl) | (obtain ⟨_, _, _, _, _, _, _, _, _, _, _, _, rfl, _⟩ := h; rfl)
  · have hu := hu_of hr
    refine ⟨_, (pss_cons (ps_par (i := 3) (j := 4) rfl sc__law_chains_right.nd rfl rfl (by decide) rfl rfl (pa_cons (pe_cG (ok__law_told T) hgd hr (by decide) (by rfl) pass0 (pa_cons (pv 1) (pa_cons (pv 2) pa_nil))) (pa_cons (pe_ix ix_tup (pe_dget hu (pv 2) pe_str (fun _ _ => rfl)) (pe_un un_neg pe_int) (fun _ _ => rfl)) pa_nil)) (by rfl))
      (pss_cons (ps_set (i := 5) sc__law_chains_right.nd rfl (by first | exact Or.inl rfl | exact Or.inr rfl) (pe_c (ok__law_turned T) hr (by decide) (by rfl) pass0 (pa_cons (pv 0) (pa_cons (pe_slice sl_tupA (pe_dget hu (pv 2) pe_str (fun _ _ => rfl)) po_none (po_some (pe_un un_neg pe_int))) pa_nil))))
      (Evl.pss_cut (ps_if (pt_cmpR (op_eq) (pe_dget hu (pv 2) pe_str (fun _ _ => rfl)) pe_str (nomark _))
      (pss_cons (ps_if (pt_cmpR (op_neD hr.units) (pe_cG (ok__law_told T) hgd hr (by decide) (by rfl) pass0 (pa_cons (pv 1) (pa_cons (pe_c (ok__law_with T) hr (by decide) (by rfl) pass0 (pa_cons (pv 2) (pa_cons (pe_disp (pps_cons pe_str (pe_callTy call_tuple_of (by rfl) T.b_tuple (by decide +kernel) (pa_cons (pe_op op_cat (pv 5) (pe_lst (pa_cons (pv 4) pa_nil))) pa_nil)) pps_nil) rfl rfl (by simp) (by decide)) pa_nil))) pa_nil))) (pv 3) (nomark _))
      (pss_one (ps_ret pe_bl))
      pss_nil)
      (pss_cons (ps_set (i := 6) sc__law_chains_right.nd rfl (by first | exact Or.inl rfl | exact Or.inr rfl) (pe_op op_catA (pe_callTy call_tuple_of (by rfl) T.b_tuple (by decide +kernel) (pa_cons (pe_slice sl_list (pe_op op_cat (pe_op op_cat (pv 5) (pe_op op_rep (pe_lst (pa_cons (pv 4) pa_nil)) pe_int)) (pv 5)) po_none (po_some pe_int)) pa_nil)) (pe_tup (pa_cons (pv 4) pa_nil))))
      (pss_one (ps_if (pt_cmpR (op_neD hr.units) (pe_cG (ok__law_told T) hgd hr (by decide) (by rfl) pass0 (pa_cons (pv 1) (pa_cons (pe_c (ok__law_with T) hr (by decide) (by rfl) pass0 (pa_cons (pv 2) (pa_cons (pe_disp (pps_cons pe_str (pe_ifExp (pt_cmpR (op_lt) (pe_callB call_len_seq (by rfl) T.b_len (by decide +kernel) (pa_cons (pv 5) pa_nil)) pe_int (nomark _)) (pv 6) (pe_dget hu (pv 2) pe_str (fun _ _ => rfl))) pps_nil) rfl rfl (by simp) (by decide)) pa_nil))) pa_nil))) (pv 3) (nomark _))
      (pss_one (ps_ret pe_bl))
      pss_nil))))
      pss_nil)
      (pss_one (ps_ret (pe_cmpR (op_eqD hr.units) (pe_ix ix_tup (pe_cG (ok__law_told T) hgd hr (by decide) (by rfl) pass0 (pa_cons (pv 1) (pa_cons (pe_c (ok__law_with T) hr (by decide) (by rfl) pass0 (pa_cons (pv 2) (pa_cons (pe_disp (pps_cons pe_str (pe_tup (pa_cons (pv 4) pa_nil)) pps_nil) rfl rfl (by simp) (by decide)) pa_nil))) pa_nil))) pe_int (fun _ _ => rfl)) (pe_ix ix_tup (pv 3) pe_int (fun _ _ => rfl)) (nomark _))))))), ?_⟩
    obtain ⟨d, g, p, a, rs, r, n, rfl, hp, hr, hl, hA, ok, h3, ad, ag, D, hQ⟩ := h
    have hA0 := hA
    obtain ⟨pc, pf, vs, md, ⟨cs, mc, tc⟩, hst, hfr⟩ := hA0
    have lc : cs.length = r.ch.length := by rw [tc.len, List.length_map]
    have c1 := ok.c1
    obtain ⟨ql, eql, mql⟩ := ChAt.last ok tc
    have gla : ∀ x ∈ r.ch.dropLast, GoodA x := fun x hx => ok.ca x (List.dropLast_subset _ hx)
    have spl := split_last ok
    refine ⟨_, rfl, _, rfl, p, a, rs, r, rfl, hp, hr, hl, hA, ok, fun t H1 s1 hT => ?_⟩
    refine ⟨_, rfl, a, _, rfl, valK (s1 _ _ md) (ask_chain ..), 1, rfl, pc, _, _, _, rfl, rfl, SqT.of (s1 _ _ mc), eql, ?_⟩
    refine ⟨_, _, rfl, ?_⟩
    try dsimp only
    refine seq_asg ?_
    refine ⟨_, rfl, _, rfl, a, _, rfl, valK (s1 _ _ md) (ask_chain ..), 1, rfl, _, rfl, pc, _, rfl, SqT.of (s1 _ _ mc), fun gg => absurd gg.2 (by unfold HT.sIx; rw [List.length_map]; simp; omega), fun _ q hq => ?_⟩
    rw [cutV_m1, ← List.map_dropLast]
    have td : TupsAt H1 cs.dropLast (r.ch.dropLast.map adV) := by
      rw [List.map_dropLast, List.dropLast_eq_take, List.dropLast_eq_take, List.length_map, ← lc]
      exact TupsAt.take _ (tc.same s1)
    have sq := Same.new (o := HO.tup (cs.dropLast.map V.ref)) hq
    have D2 := (D.same s1).same sq
    have s2 := s1.trans sq
    refine ⟨d, g, q, cs.dropLast, r.ch.dropLast, n, rfl, SqT.of upd_same, td.same sq, gla, by rw [List.length_dropLast]; omega, D2, fun ah ps l' H4 k4 D4 n1 n2 mah tp pm => ?_⟩
    have hp2 := s2 _ _ hp
    have hp4 := k4 _ _ hp2 (D2.tup hp2).1 (D2.tup hp2).2
    have mq2 := s2 _ _ mql
    have mq4 := k4 _ _ mq2 (D2.tup mq2).1 (D2.tup mq2).2
    have hA4 := (hA.same s2).keepD k4 D2 ad ag
    have hT4 := (hT.same sq).kd k4 D2
    have kk := (Same.keepD s2).trans k4
    have ll : l'.length ≤ 2 := by
      have := pm.length_eq
      rw [List.length_dropLast] at this
      omega
    have lps : ps.length = l'.length := by rw [tp.len, List.length_map]
    have gl : GoodA r.last := ok.ca _ (last_mem ok)
    have gl' : ∀ x ∈ l', GoodA x := fun x hx => gla x (pm.mem_iff.mp hx)
    have hs1 : r.wy = "script" → l' = [] := fun e => by
      rcases ok.wy with z | ⟨_, z, _⟩
      · rw [e] at z; exact absurd z (by decide +kernel)
      · have := pm.length_eq
        rw [List.length_dropLast, z] at this
        exact List.eq_nil_of_length_eq_zero this
    clear td D2 sq hq s2 hp2 mq2 hT mc tc hst hfr md k4 D hA hp
    try dsimp only
    refine ⟨fun σ' H' => ∃ v6 : Option V, σ' = [some (.ref d), some (.ref p), some (.ref a), some (.ref t), some (.ref ql), some (.ref ah), v6] ∧ Same H4 H', ?_, ?_⟩
    · obtain ⟨pc4, pf4, vs4, md4, _⟩ := hA4
      refine ⟨_, rfl, a, _, rfl, valK md4 (ask_way ..), rfl, _, rfl, iteB (fun c => ?_) (fun c => ?_)⟩
      rotate_left
      · exact ⟨none, rfl, .refl _⟩
      have hA4 : AskAt H4 a r := ⟨pc4, pf4, vs4, md4, ‹_›⟩
      -- the order
      have l1 : ∀ x, x ∈ l' ++ [r.last] ↔ x ∈ r.ch := fun x => by
        rw [spl, List.mem_append, List.mem_append, pm.mem_iff]
      have g1 : ∀ x ∈ l' ++ [r.last], GoodA x := fun x hx => ok.ca x ((l1 x).mp hx)
      have ok1 : RqOk { r with ch := l' ++ [r.last] } := ok.chain (by rw [List.length_append]; exact Nat.le_add_left ..) (by rw [List.length_append]; show l'.length + 1 ≤ 10; omega) g1 (fun e => by rw [hs1 e]; rfl)
      have tl1 : Tells rs r { r with ch := l' ++ [r.last] } := Tells.chain (by rw [List.getLast?_append]; rfl) l1
      refine told_with (K := K) (mg := mg) (H := H4) (H1 := H4) (r' := { r with ch := l' ++ [r.last] }) (rs := rs) (p := p) rfl (.refl _) hp4 hr hl ok1 (fun Q q => AskAt.merge (r := r) (givW_ch fun H1 Q s q => ?_) (.refl _) rfl hA4 q) fun t1 H5 s5 ht1 => ⟨_, rfl, _, _, ht1.dp, (hT4.same s5).dp, shaped_told ok1, shaped_told ok, _, rfl, ?_⟩
      · refine ⟨_, rfl, _, rfl, by show 1 ≤ sizeLine; decide, fun z hz => ?_⟩
        have sz := Same.new (o := HO.lst [V.ref ql]) hz
        refine ⟨ah, z, _, _, rfl, rfl, (s.trans sz) _ _ mah, upd_same, Nat.le_trans (by rw [List.length_map, lps]; show l'.length + 1 ≤ 10; omega) (by decide), fun y hy => ?_⟩
        have sy := Same.new (o := HO.lst (ps.map V.ref ++ [V.ref ql])) hy
        refine ⟨y, _, rfl, .inl ⟨SqL.of upd_same, fun T hT => ?_⟩⟩
        have sT := Same.new (o := HO.tup (ps.map V.ref ++ [V.ref ql])) hT
        refine q T _ ((sz.trans sy).trans sT) ⟨ps ++ [ql], by rw [upd_same, List.map_append]; rfl, ?_⟩
        rw [List.map_append]
        exact (tp.same (((s.trans sz).trans sy).trans sT)).app (TupsAt.one ((((s.trans sz).trans sy).trans sT) _ _ mq4))
      rw [tl1.d, eqv_same (shaped_told ok)]
      refine ite_n rfl ?_
      have hT5 := hT4.same s5
      have hA5 := hA4.same s5
      have hp5 := s5 _ _ hp4
      have mq5 := s5 _ _ mq4
      have tp5 := tp.same s5
      have mah5 := s5 _ _ mah
      clear ht1 tl1 ok1
      dsimp only [tNext]
      refine seq_asg ?_
      -- more
      refine ⟨_, rfl, _, rfl, by show 1 ≤ sizeLine; decide, fun z hz => ⟨z, 2, _, rfl, rfl, upd_same, by decide, by decide, by show 1 * 2 ≤ sizeLine; decide, fun w2 hw => ?_⟩⟩
      have sz := Same.new (o := HO.lst [V.ref ql]) hz
      have sw := Same.new (o := HO.lst (List.replicate (2 : Int).toNat [V.ref ql]).flatten) hw
      have mw : (upd (upd H5 z (HO.lst [V.ref ql])) w2 (HO.lst (List.replicate (2 : Int).toNat [V.ref ql]).flatten)) w2 = some (.lst [V.ref ql, V.ref ql]) := upd_same
      have s57 := sz.trans sw
      generalize upd (upd H5 z (HO.lst [V.ref ql])) w2 (HO.lst (List.replicate (2 : Int).toNat [V.ref ql]).flatten) = H7 at mw s57 ⊢
      clear sz sw hz hw
      refine ⟨ah, w2, _, _, rfl, rfl, s57 _ _ mah5, mw, Nat.le_trans (by rw [List.length_map, lps]; show l'.length + 2 ≤ 10; omega) (by decide), fun u hu => ?_⟩
      have su := Same.new (o := HO.lst (ps.map V.ref ++ [V.ref ql, V.ref ql])) hu
      have mu := upd_same (H := H7) (a := u) (o := HO.lst (ps.map V.ref ++ [V.ref ql, V.ref ql]))
      have s58 := s57.trans su
      generalize upd H7 u (HO.lst (ps.map V.ref ++ [V.ref ql, V.ref ql])) = H8 at mu s58 ⊢
      clear su hu s57 mw
      refine ⟨_, rfl, u, ah, _, _, rfl, rfl, mu, s58 _ _ mah5, Nat.le_trans (by rw [List.length_append, List.length_map, lps]; show l'.length + 2 + l'.length ≤ 10; omega) (by decide), fun x hx => ?_⟩
      have sx := Same.new (o := HO.lst (ps.map V.ref ++ [V.ref ql, V.ref ql] ++ ps.map V.ref)) hx
      have mx := upd_same (H := H8) (a := x) (o := HO.lst (ps.map V.ref ++ [V.ref ql, V.ref ql] ++ ps.map V.ref))
      have s59 := s58.trans sx
      generalize upd H8 x (HO.lst (ps.map V.ref ++ [V.ref ql, V.ref ql] ++ ps.map V.ref)) = H9 at mx s59 ⊢
      clear sx hx s58 mu
      refine ⟨9, rfl, x, _, rfl, SqL.of mx, fun y hy => ?_⟩
      have ecut : cutV (ps.map V.ref ++ [V.ref ql, V.ref ql] ++ ps.map V.ref) none (some 9) = (ps ++ [ql, ql] ++ ps).map V.ref := by
        rw [cutV_to _ (by decide), List.take_of_length_le (by simp only [List.length_append, List.length_map, lps]; show l'.length + 2 + l'.length ≤ 9; omega)]
        simp
      rw [ecut]
      have sy := Same.new (o := HO.lst ((ps ++ [ql, ql] ++ ps).map V.ref)) hy
      refine ⟨y, _, rfl, .inl ⟨SqL.of upd_same, fun T hT => ?_⟩⟩
      have sT := Same.new (o := HO.tup ((ps ++ [ql, ql] ++ ps).map V.ref)) hT
      have mT := upd_same (H := upd H9 y (HO.lst ((ps ++ [ql, ql] ++ ps).map V.ref))) (a := T) (o := HO.tup ((ps ++ [ql, ql] ++ ps).map V.ref))
      have s511 := (s59.trans sy).trans sT
      generalize upd (upd H9 y (HO.lst ((ps ++ [ql, ql] ++ ps).map V.ref))) T (HO.tup ((ps ++ [ql, ql] ++ ps).map V.ref)) = H11 at mT s511 ⊢
      clear sy sT hy hT s59 mx
      refine ⟨_, rfl, by show 1 ≤ sizeLine; decide, fun N hN => ?_⟩
      have sN := Same.new (o := HO.tup [V.ref ql]) hN
      refine ⟨T, N, _, _, rfl, rfl, SqT.of (sN _ _ mT), SqT.of upd_same, Nat.le_trans (by simp only [List.length_append, List.length_map, lps]; show l'.length + 2 + l'.length + 1 ≤ 10; omega) (by decide), fun e => absurd e (by simp), fun _ e => absurd e (by simp), fun _ _ M hM => ?_⟩
      have sM := Same.new (o := HO.tup ((ps ++ [ql, ql] ++ ps).map V.ref ++ [V.ref ql])) hM
      have mM : (upd (upd H11 N (HO.tup [V.ref ql])) M (HO.tup ((ps ++ [ql, ql] ++ ps).map V.ref ++ [V.ref ql]))) M = some (.tup ((ps ++ [ql, ql] ++ ps ++ [ql]).map V.ref)) := by rw [upd_same]; simp
      have s513 := (s511.trans sN).trans sM
      generalize upd (upd H11 N (HO.tup [V.ref ql])) M (HO.tup ((ps ++ [ql, ql] ++ ps).map V.ref ++ [V.ref ql])) = H13 at mM s513 ⊢
      clear sN sM hN hM s511 mT
      have hT13 := hT5.same s513
      have hA13 := hA5.same s513
      have hp13 := s513 _ _ hp5
      have l2 : ∀ x, x ∈ l' ++ [r.last, r.last] ++ l' ++ [r.last] ↔ x ∈ r.ch := fun x => by
        rw [← l1 x]
        simp only [List.mem_append, List.mem_cons, List.not_mem_nil, or_false]
        constructor
        · rintro (((h | h | h) | h) | h)
          · exact .inl h
          · exact .inr h
          · exact .inr h
          · exact .inl h
          · exact .inr h
        · rintro (h | h)
          · exact .inl (.inr h)
          · exact .inr h
      have g2 : ∀ x ∈ l' ++ [r.last, r.last] ++ l' ++ [r.last], GoodA x := fun x hx => ok.ca x ((l2 x).mp hx)
      have nsc : r.wy ≠ "script" := fun e => by
        have c0 := of_decide_eq_true c
        rw [e] at c0
        exact absurd (V.str.inj c0) (by decide +kernel)
      have ok2 : RqOk { r with ch := l' ++ [r.last, r.last] ++ l' ++ [r.last] } := ok.chain (by rw [List.length_append]; exact Nat.le_add_left ..) (by simp only [List.length_append, List.length_cons, List.length_nil]; omega) g2 (fun e => absurd e nsc)
      have tl2 : Tells rs r { r with ch := l' ++ [r.last, r.last] ++ l' ++ [r.last] } := Tells.chain (by rw [List.getLast?_append]; rfl) l2
      have ch13 : ChAt H13 M (l' ++ [r.last, r.last] ++ l' ++ [r.last]) := ⟨_, mM, by
        have tp13 := tp5.same s513
        have mq13 := s513 _ _ mq5
        simp only [List.map_append, List.map_cons, List.map_nil]
        have two : TupsAt H13 [ql, ql] [adV r.last, adV r.last] := ⟨mq13, mq13, trivial⟩
        exact ((tp13.app two).app tp13).app (TupsAt.one mq13)⟩
      try dsimp only
      refine told_with (K := K) (mg := mg) (H := H13) (H1 := H13) (r' := { r with ch := l' ++ [r.last, r.last] ++ l' ++ [r.last] }) (rs := rs) (p := p) rfl (.refl _) hp13 hr hl ok2 (fun Q q => AskAt.merge (r := r) (givW_ch fun H1 Q s q => ?_) (.refl _) rfl hA13 q) fun t1 H14 s14 ht1 => ⟨_, rfl, _, _, ht1.dp, (hT13.same s14).dp, shaped_told ok2, shaped_told ok, _, rfl, ?_⟩
      · refine ⟨_, rfl, ah, _, rfl, .inl (SqL.of ((s513.trans s) _ _ mah5)), _, _, rfl, rfl, _, rfl, ite_y (decide_eq_true ?_) ⟨_, rfl, q M _ (.refl _) ?_⟩⟩
        · rw [List.length_map, lps]; omega
        · obtain ⟨qs, e1, e2⟩ := ch13
          exact ⟨qs, s _ _ e1, e2.same s⟩
      rw [tl2.d, eqv_same (shaped_told ok)]
      exact ite_n rfl ⟨_, rfl, (s5.trans s513).trans s14⟩
    · rintro σ H5 ⟨v6, rfl, s5⟩
      have hl3 : ([r.last] : List (Str × Str × Str)).getLast? = some r.last := rfl
      have ok3 : RqOk { r with ch := [r.last] } := ok.chain (Nat.le_refl _) (by show 1 ≤ 10; decide) (fun x hx => by rw [List.mem_singleton.mp hx]; exact gl) (fun _ => rfl)
      refine told_with (K := K) (mg := mg) (H := H5) (H1 := H5) (r' := { r with ch := [r.last] }) (rs := rs) (p := p) rfl (.refl _) (s5 _ _ hp4) hr hl ok3 (fun Q q => AskAt.merge (r := r) (givW_ch fun H1 Q s q => ?_) (.refl _) rfl (hA4.same s5) q) fun t1 H6 s6 ⟨q3, ht1, hP⟩ => ?_
      · refine ⟨_, rfl, by show 1 ≤ sizeLine; decide, fun T hT => q T _ (Same.new hT) ⟨[ql], upd_same, ?_⟩⟩
        exact TupsAt.one ((s5.trans (s.trans (Same.new hT))) _ _ mq4)
      obtain ⟨q4, hT6, hP4⟩ := hT4.same (s5.trans s6)
      refine ⟨t1, _, 2, _, rfl, rfl, SqT.of ht1, rfl, _, rfl, t, _, 2, _, rfl, rfl, SqT.of hT6, rfl, _, _, hP.dp, hP4.dp, ?_, ?_, ?_⟩
      · exact shaped_tuple_part ok3
      · exact shaped_tuple_part ok
      · rw [part_ch hl3, eqv_same (shaped_tuple_part ok)]
        exact hQ _ (kk.same (s5.trans s6)) (D4.same (s5.trans s6))
theorem ok__law_is_numbers (T : Txt K mg) : Cal P w K mg base CX0 1 "_law_is_numbers" ["host"] sp__law_is_numbers := by
  refine T.d__law_is_numbers.ok0 sc__law_is_numbers (fun vs H Q E h => ?_) (fun f cdv A outer s H vs Q E hr h => ?_)
  · first | (obtain ⟨_, rfl, _⟩ := h; rfl) | (obtain ⟨_, _, rfl, _⟩ := h; rfl) | (obtain ⟨_, _, _, rfl, _⟩ := h; rfl) | (obtain ⟨_, _, _, _, rfl, _⟩ := h; rfl) | (obtain ⟨_, _, _, _, _, rfl, _⟩ := h; rfl) | (obtain ⟨_, _, _, _, _, _, rfl, _⟩ := h; rfl) | (obtain ⟨_, _, _, _, _, _, _, rfl, _⟩ := h; rfl) | (obtain ⟨_, _, _, _, _, _, _, _, rfl, _⟩ := h; rfl) | (obtain ⟨_, _, _, _, _, _, _, _, _, rfl, _⟩ := h; rfl) | (obtain ⟨_, _, _, _, _, _, _, _, _, _, rfl, _⟩ := h; rfl) | (obtain ⟨_, _, _, _, _, _, _, _, _, _, _, rfl, _⟩ := h; rfl) | (obtain ⟨_, _, _, _, _, _, _, _, _, _, _, _, rfl, _⟩ := h; rfl)
  · refine ⟨_, (pss_one (ps_ret (pe_cmpR (op_eqD hr.units) (pe_lc (own := [(("sign" : Str), 1)]) rfl sc__law_is_numbers.nd (pi_str (pv 0)) (blkOk_by (N := ["host", "sign"]) (sc := defScope s__law_is_numbers) (by decide +kernel)) (fun _ _ _ _ _ => (pg_name (i := 1) sc__law_is_numbers.nd rfl (by first | exact Or.inl rfl | exact Or.inr rfl))) (fun _ _ _ _ _ => (pts_one (pt_cmpR (op_notIn_sign) (pv 1) pe_str rfl))) (fun _ _ _ _ _ => (pv 1))) (pe_lst pa_nil) (nomark _)))), ?_⟩
    obtain ⟨y, rfl, hl, ha, hQ⟩ := h
    refine ⟨_, rfl, _, rfl, fun L4 hL4 => ?_⟩
    refine lc_str (z := y) (fun i H4 => ∃ W : List Str, H4 L4 = some (.lst (W.map V.str)) ∧ W.length ≤ i ∧ (∀ w ∈ W, ascii w) ∧ (W = [] ↔ ((tl y).take i).all (fun c => decide (c ∈ nsig)) = true) ∧ Same H H4) ⟨[], upd_same, Nat.le_refl _, by simp, by simp, Same.new hL4⟩ ?_ ?_
    · rintro i c H4 hi ⟨W, hm, hW, hWa, hWe, s4⟩
      refine ⟨rfl, _, rfl, _, _, rfl, rfl, _, rfl, ?_⟩
      show (if (!decide (c ∈ tl ("0123456789." : Str))) = true then _ else _)
      rw [tl_nsig]
      have hin := all_take1 (p := fun c => decide (c ∈ nsig)) hi
      cases hc : decide (c ∈ nsig) with
      | true =>
        rw [hc, Bool.and_true] at hin
        exact iteF ⟨W, hm, by omega, hWa, by rw [hin]; exact hWe, s4⟩
      | false =>
        rw [hc, Bool.and_false] at hin
        refine iteT ⟨_, rfl, _, hm, Nat.lt_of_le_of_lt (by rw [List.length_map]; have := (List.getElem?_eq_some_iff.mp hi).1; rw [← len_tl] at this; omega : _ ≤ 2000) (by decide), W ++ [⟨#[c]⟩], by rw [upd_same, List.map_append]; rfl, by rw [List.length_append, List.length_singleton]; omega, fun w hw => ?_, by rw [hin]; simp, Same.put s4 hL4⟩
        rcases List.mem_append.mp hw with q | q
        · exact hWa w q
        · rw [List.mem_singleton.mp q]; exact ascii_mem ha hi
    rintro H4 ⟨W4, hl4, _, hWa4, hWe4, s4⟩
    rw [List.take_length] at hWe4
    refine ⟨by show 0 ≤ sizeLine; decide, fun L5 hL5 => ?_⟩
    have s5 := Same.new (o := HO.lst []) hL5
    refine ⟨_, _, dp_strs (SqL.of (s5 _ _ hl4)), dp_strs (ys := []) (SqL.of upd_same), lay_strs hWa4, lay_strs (W := []) (by simp), ?_⟩
    rw [eqv_nil]
    have ed : decide (W4 = []) = numsB (tl y) := by
      unfold numsB
      rw [Bool.eq_iff_iff, decide_eq_true_eq]; exact hWe4
    rw [ed]
    exact hQ _ (s4.trans s5)
theorem ok__law_suffix (T : Txt K mg) : Cal P w K mg base CX0 1 "_law_suffix" ["rules", "host"] (sp__law_suffix K) := by
  refine T.d__law_suffix.ok0 sc__law_suffix (fun vs H Q E h => ?_) (fun f cdv A outer s H vs Q E hr h => ?_)
  · first | (obtain ⟨_, rfl, _⟩ := h; rfl) | (obtain ⟨_, _, rfl, _⟩ := h; rfl) | (obtain ⟨_, _, _, rfl, _⟩ := h; rfl) | (obtain ⟨_, _, _, _, rfl, _⟩ := h; rfl) | (obtain ⟨_, _, _, _, _, rfl, _⟩ := h; rfl) | (obtain ⟨_, _, _, _, _, _, rfl, _⟩ := h; rfl) | (obtain ⟨_, _, _, _, _, _, _, rfl, _⟩ := h; rfl) | (obtain ⟨_, _, _, _, _, _, _, _, rfl, _⟩ := h; rfl) | (obtain ⟨_, _, _, _, _, _, _, _, _, rfl, _⟩ := h; rfl) | (obtain ⟨_, _, _, _, _, _, _, _, _, _, rfl, _⟩ := h; rfl) | (obtain ⟨_, _, _, _, _, _, _, _, _, _, _, rfl, _⟩ := h; rfl) | (obtain ⟨_, _, _, _, _, _, _, _, _, _, _, _, rfl, _⟩ := h; rfl)
  · refine ⟨_, (pss_cons (ps_par3 (i := 2) (j := 3) (l := 4) rfl sc__law_suffix.nd rfl rfl rfl (by decide) (by decide) (by decide) rfl rfl rfl (pa_cons (pe_split (pv 1) pe_str) (pa_cons pe_int (pa_cons pe_int pa_nil))) (by rfl))
      (pss_cons (ps_for PassesOwn.never rfl (pi_tup (pv 0)) (pg_name (i := 5) sc__law_suffix.nd rfl (by first | exact Or.inl rfl | exact Or.inr rfl))
      (pss_cons (ps_set (i := 6) sc__law_suffix.nd rfl (by first | exact Or.inl rfl | exact Or.inr rfl) (pe_split (pe_slice sl_str (pv 5) (po_some (pe_callTy call_int1 (by rfl) T.b_int (by decide +kernel) (pa_cons (pe_cmpR (op_eq) (pe_slice sl_str (pv 5) po_none (po_some pe_int)) pe_str (nomark _)) pa_nil))) po_none) pe_str))
      (pss_cons (ps_set (i := 7) sc__law_suffix.nd rfl (by first | exact Or.inl rfl | exact Or.inr rfl) (pe_ifExp (pt_cmpR (op_le) (pe_callB call_len_seq (by rfl) T.b_len (by decide +kernel) (pa_cons (pv 6) pa_nil)) (pe_callB call_len_seq (by rfl) T.b_len (by decide +kernel) (pa_cons (pv 2) pa_nil)) (nomark _)) (pe_slice sl_list (pv 2) (po_some (pe_op op_sub (pe_callB call_len_seq (by rfl) T.b_len (by decide +kernel) (pa_cons (pv 2) pa_nil)) (pe_callB call_len_seq (by rfl) T.b_len (by decide +kernel) (pa_cons (pv 6) pa_nil)))) po_none) (pe_lst pa_nil)))
      (pss_cons (ps_setLc (i := 8) (own := [(("k" : Str), 10)]) rfl sc__law_suffix.nd rfl rfl (sw_true rfl rfl rfl (by decide +kernel)) (pi_range1 (by rfl) T.b_range (pa_cons (pe_callB call_len_seq (by rfl) T.b_len (by decide +kernel) (pa_cons (pv 7) pa_nil)) pa_nil)) (blkOk_by (N := ["rules", "host", "labels", "size", "ahead", "rule", "words", "tail", "off", "is_met", "k"]) (sc := defScope s__law_suffix) (by decide +kernel)) (fun _ _ _ _ _ => (pg_name (i := 10) sc__law_suffix.nd rfl (by first | exact Or.inl rfl | exact Or.inr rfl))) (fun _ _ _ _ _ => (pts_one (pt_cmpR ((show OpR _ (compareOp .NotIn) (rInQ K true) from op_notIn_seq)) (pe_ix (show IxR _ (rIxL K) from ix_list) (pv 6) (pv 10) (fun _ _ => rfl)) (pe_tup (pa_cons pe_str (pa_cons (pe_ix (show IxR _ (rIxL K) from ix_list) (pv 7) (pv 10) (fun _ _ => rfl)) pa_nil))) (by with_unfolding_all rfl)))) (fun _ _ _ _ _ => (pv 10)))
      (pss_cons (ps_set (i := 9) sc__law_suffix.nd rfl (by first | exact Or.inl rfl | exact Or.inr rfl) (pe_and (pe_cmpR (op_neD hr.units) (pv 7) (pe_lst pa_nil) (nomark _)) (pe_one (pe_cmpR (op_eqD hr.units) (pv 8) (pe_lst pa_nil) (nomark _)))))
      (pss_one (ps_if (PW.pt (pw_and (pt_val (pv 9)) (pw_and1 (pt_cmpR (op_eq) (pe_slice sl_str (pv 5) po_none (po_some pe_int)) pe_str (nomark _)))))
      (pss_one (ps_set (i := 4) sc__law_suffix.nd rfl (by first | exact Or.inl rfl | exact Or.inr rfl) (pe_callB (call_max2 rfl) (by rfl) T.b_max (by decide +kernel) (pa_cons (pv 4) (pa_cons (pe_callB call_len_seq (by rfl) T.b_len (by decide +kernel) (pa_cons (pv 6) pa_nil)) pa_nil)))))
      (pss_one (ps_if (pt_val (pv 9))
      (pss_one (ps_set (i := 3) sc__law_suffix.nd rfl (by first | exact Or.inl rfl | exact Or.inr rfl) (pe_callB (call_max2 rfl) (by rfl) T.b_max (by decide +kernel) (pa_cons (pv 3) (pa_cons (pe_callB call_len_seq (by rfl) T.b_len (by decide +kernel) (pa_cons (pv 6) pa_nil)) pa_nil)))))
      pss_nil)))))))))
      (pss_one (ps_ret (pe_join pe_str (pe_slice sl_list (pv 2) (po_some (pe_op op_sub (pe_callB call_len_seq (by rfl) T.b_len (by decide +kernel) (pa_cons (pv 2) pa_nil)) (pe_ifExp (pt_cmpR (op_gt) (pv 4) pe_int (nomark _)) (pe_op op_sub (pv 4) pe_int) (pv 3)))) po_none)))))), ?_⟩
    obtain ⟨p, rs, y, rfl, hp, hl, hr, hy, hya, hQ⟩ := h
    refine ⟨_, rfl, ⟨_, rfl⟩, _, _, rfl, rfl, by decide +kernel, Nat.le_trans (by omega : _ ≤ 1000) (by decide), fun p1 hp1 => ?_⟩
    have s1 := Same.new (o := HO.lst ((Txt.split y ("." : Str)).map V.str)) hp1
    have m1 := upd_same (H := H) (a := p1) (o := HO.lst ((Txt.split y ("." : Str)).map V.str))
    generalize hW : Txt.split y ("." : Str) = W at *
    have eW : W.map tl = sp1 46 (tl y) := by
      rw [← hW, dot_eq]
      exact split_sp1 y (by decide)
    have lW : W.length = (sp1 46 (tl y)).length := by rw [← eW, List.length_map]
    have w1 : 1 ≤ W.length := by rw [lW]; exact List.length_pos_iff.mpr (sp1_ne _ _)
    have w2 : W.length ≤ 101 := by
      rw [lW]
      have := sp1_length (c := 46) (tl y)
      rw [← len_tl] at this
      omega
    generalize upd H p1 (HO.lst (W.map V.str)) = H1 at s1 m1 ⊢
    refine ⟨_, _, _, rfl, ?_⟩
    refine ⟨_, rfl, p, rfl, ⟨_, Same.seqT s1 hp⟩, for_tup (K := K) (a := p) (xs := rs.map V.str) (fun i σ H' => ∃ (sz ah : Nat) (v5 v6 v7 v8 v9 : Option V), σ = [some (.ref p), some (.str y), some (.ref p1), some (.int (sz : Nat)), some (.int (ah : Nat)), v5, v6, v7, v8, v9, none] ∧ (sz, ah) = foldS (W.map tl) ((rs.take i).map tl) ∧ Same H1 H')
      ⟨1, 0, _, _, _, _, _, rfl, rfl, Same.refl _⟩ (fun i σ H' _ ⟨_, _, _, _, _, _, _, _, _, s⟩ => Same.seqT (s1.trans s) hp) ?_ ?_⟩
    · rintro i x σ H2 hi ⟨sz, ah, v5, v6, v7, v8, v9, rfl, hf, s2⟩
      obtain ⟨r, hri, rfl⟩ := strAt hi
      have hrm := List.mem_of_getElem? hri
      obtain ⟨rl, r0⟩ := hr r hrm
      have hb : decide (V.str (cutS r none (some 1)) = V.str "!") = excT (tl r) := bang_cut r
      have r100 : r.length ≤ sizeLine := Nat.le_trans (by omega : r.length ≤ 1000) (by decide)
      refine ⟨_, rfl, _, rfl, 1, rfl, r, rfl, r100, rfl, ?_⟩
      rw [hb]
      refine .inr ⟨_, rfl, _, rfl, r, rfl, r100, ?_⟩
      have ec := pat_cut r
      generalize cutS r (some (if excT (tl r) = true then 1 else 0)) none = rc at ec ⊢
      have lrc : rc.length ≤ 100 := by
        have : (tl rc).length ≤ (tl r).length := by
          rw [ec]; unfold patT
          split
          · rw [List.length_tail]; omega
          · exact Nat.le_refl _
        rw [← len_tl, ← len_tl] at this
        omega
      refine ⟨⟨_, rfl⟩, _, _, rfl, rfl, by decide +kernel, Nat.le_trans (by omega : _ ≤ 1000) (by decide), fun p2 hp2 => ?_⟩
      have s3 := Same.new (o := HO.lst ((Txt.split rc ("." : Str)).map V.str)) hp2
      have m2 := upd_same (H := H2) (a := p2) (o := HO.lst ((Txt.split rc ("." : Str)).map V.str))
      have eP : (Txt.split rc ("." : Str)).map tl = patL (tl r) := by
        rw [dot_eq, split_sp1 rc (by decide), ec]; rfl
      generalize Txt.split rc ("." : Str) = P at s3 m2 eP ⊢
      generalize upd H2 p2 (HO.lst (P.map V.str)) = H3 at s3 m2 ⊢
      have lP : P.length = (patL (tl r)).length := by rw [← eP, List.length_map]
      have p1' : 1 ≤ P.length := by rw [lP]; exact List.length_pos_iff.mpr (sp1_ne _ _)
      have m13 := s3 _ _ (s2 _ _ m1)
      have s13 := s2.trans s3
      have e2 : (rs.take (i + 1)).map tl = (rs.take i).map tl ++ [tl r] := by rw [List.take_succ, hri, List.map_append]; rfl
      try dsimp only
      refine seq_asg ?_
      obtain ⟨TL, eT⟩ : ∃ TL : List Str, TL = if P.length ≤ W.length then lastN P.length W else [] := ⟨_, rfl⟩
      refine tif_cut (R := fun v H' => ∃ q, v = .ref q ∧ Same H3 H' ∧ H' q = some (.lst (TL.map V.str))) (fun Q' q' => ?_) (fun v H4 ⟨q, ev, s4, m4⟩ => ?_)
      · refine ⟨_, rfl, p2, _, rfl, .inl (SqL.of m2), _, rfl, p1, _, rfl, .inl (SqL.of m13), ?_⟩
        refine ⟨_, _, rfl, rfl, _, rfl, iteB (fun hle => ?_) (fun hle => ?_)⟩
        · have hle := of_decide_eq_true hle
          rw [List.length_map, List.length_map] at hle
          have hle : P.length ≤ W.length := by omega
          refine ⟨_, rfl, _, rfl, p1, _, rfl, .inl (SqL.of m13), _, rfl, p2, _, rfl, .inl (SqL.of m2), _, _, rfl, rfl, _, rfl, p1, _, rfl, SqL.of m13, fun q hq => q' _ _ ⟨q, rfl, Same.new hq, ?_⟩⟩
          rw [upd_same, cutV_from _ (by rw [List.length_map, List.length_map]; omega), List.length_map, List.length_map, eT, if_pos hle]
          unfold lastN
          rw [List.map_drop, show ((W.length : Int) - (P.length : Int)).toNat = W.length - P.length by omega]
        · have hle : ¬ P.length ≤ W.length := fun z => by
            have := of_decide_eq_false hle
            rw [List.length_map, List.length_map] at this
            omega
          refine ⟨by show 0 ≤ sizeLine; decide, fun q hq => q' _ _ ⟨q, rfl, Same.new hq, ?_⟩⟩
          rw [upd_same, eT, if_neg hle]; rfl
      subst ev
      have lT : TL.length ≤ P.length ∧ TL.length ≤ W.length := by
        rw [eT]
        split
        · rw [lastN_len]; omega
        · exact ⟨Nat.zero_le _, Nat.zero_le _⟩
      have s14 := s13.trans s4
      have m24 := s4 _ _ m2
      try dsimp only
      refine seq_asg ?_
      refine ⟨_, rfl, q, _, rfl, .inl (SqL.of m4), _, rfl, by rw [List.length_map]; omega, by rw [List.length_map]; exact Int.lt_of_le_of_lt (by omega : _ ≤ (1000 : Int)) (by decide), fun L hL => ?_⟩
      have eN : ((((TL.map V.str).length : Nat) : Int)).toNat = TL.length := by rw [List.length_map]; rfl
      rw [eN]
      let cnd : Nat → Bool := fun k => !(decide ((P.map tl).getD k [] = [42]) || decide ((P.map tl).getD k [] = (TL.map tl).getD k []))
      refine lc_range (n := TL.length) (fun j H' => H' L = some (.lst (((List.range j).filter cnd).map fun n : Nat => V.int (n : Int))) ∧ Same H4 H') ⟨upd_same, Same.new hL⟩ ?_ ?_
      · rintro j H5 hj ⟨mL, s5⟩
        have hj1 : j < P.length := by omega
        have g1 : (P.map V.str)[j]? = some (.str P[j]) := by rw [List.getElem?_map, List.getElem?_eq_getElem hj1]; rfl
        have g2 : (TL.map V.str)[j]? = some (.str TL[j]) := by rw [List.getElem?_map, List.getElem?_eq_getElem hj]; rfl
        have gP : (P.map tl).getD j [] = tl P[j] := by rw [List.getD_eq_getElem?_getD, List.getElem?_map, List.getElem?_eq_getElem hj1]; rfl
        have gT : (TL.map tl).getD j [] = tl TL[j] := by rw [List.getD_eq_getElem?_getD, List.getElem?_map, List.getElem?_eq_getElem hj]; rfl
        refine ⟨rfl, _, rfl, _, rfl, p2, _, _, _, rfl, rfl, SqL.of (s5 _ _ m24), atI_nat (by rw [Nat.zero_add]; exact g1), _, rfl, _, rfl, q, _, _, _, rfl, rfl, SqL.of (s5 _ _ m4), atI_nat (by rw [Nat.zero_add]; exact g2), by show 2 ≤ sizeLine; decide, fun w hw => ?_⟩
        have sw := Same.new (o := HO.tup ([("*" : Str), TL[j]].map V.str)) hw
        refine ⟨w, _, rfl, .inr (SqT.of (xs := [("*" : Str), TL[j]].map V.str) upd_same), rfl, rfl, ?_⟩
        have ein : inV (.str P[j]) ([("*" : Str), TL[j]].map V.str) = !cnd j := by
          rw [in_strs]
          show decide (P[j] ∈ [("*" : Str), TL[j]]) = !(!(decide ((P.map tl).getD j [] = [42]) || decide ((P.map tl).getD j [] = (TL.map tl).getD j [])))
          rw [Bool.not_not, gP, gT, Bool.eq_iff_iff, decide_eq_true_eq, Bool.or_eq_true, decide_eq_true_eq, decide_eq_true_eq, List.mem_cons, List.mem_singleton]
          have e1 : tl P[j] = [42] ↔ P[j] = "*" := ⟨fun z => ext_tl (z.trans (by decide +kernel)), fun z => by rw [z]; decide +kernel⟩
          have e2 : tl P[j] = tl TL[j] ↔ P[j] = TL[j] := ⟨fun z => ext_tl z, fun z => by rw [z]⟩
          rw [e1, e2]
        refine ⟨_, rfl, ?_⟩
        show (if (!inV (V.str P[j]) ([("*" : Str), TL[j]].map V.str)) = true then _ else _)
        rw [ein, Bool.not_not]
        have er : (List.range (j + 1)).filter cnd = (List.range j).filter cnd ++ (if cnd j = true then [j] else []) := by
          rw [List.range_succ, List.filter_append]
          by_cases c : cnd j = true <;> simp [c]
        refine iteB (fun c => ?_) (fun c => ?_)
        · have hsz : (((List.range j).filter cnd).map fun n : Nat => V.int (n : Int)).length ≤ 101 := by
            rw [List.length_map]
            have := List.length_filter_le cnd (List.range j)
            rw [List.length_range] at this
            omega
          refine ⟨_, rfl, _, sw _ _ mL, Nat.lt_of_le_of_lt hsz (by decide), ?_, Same.put (s5.trans sw) hL⟩
          rw [upd_same, er, if_pos c, List.map_append, Int.zero_add]; rfl
        · refine ⟨?_, s5.trans sw⟩
          rw [er, if_neg (by rw [c]; decide), List.append_nil]
          exact sw _ _ mL
      rintro H5 ⟨mL, s5⟩
      have hoff : (!decide (TL = []) && decide ((List.range TL.length).filter cnd = [])) = metL (patL (tl r)) (W.map tl) := by
        unfold metL
        rw [← eP, List.length_map, List.length_map]
        by_cases hle : P.length ≤ W.length
        · rw [if_pos hle] at eT
          have l1 : TL.length = P.length := by rw [eT, lastN_len]; omega
          have n1 : TL ≠ [] := fun z => by rw [z] at l1; simp at l1; omega
          rw [decide_eq_false n1, decide_eq_true hle, l1]
          have e3 : TL.map tl = lastN (P.map tl).length (W.map tl) := by
            rw [eT, List.length_map]; unfold lastN; rw [List.map_drop, List.length_map]
          show (true && decide ((List.range P.length).filter (fun k => !(decide ((P.map tl).getD k [] = [42]) || decide ((P.map tl).getD k [] = (TL.map tl).getD k []))) = [])) = _
          rw [e3]; rfl
        · rw [if_neg hle] at eT
          rw [decide_eq_true eT, decide_eq_false hle]; rfl
      try dsimp only
      refine seq_asg ?_
      have laW : ∀ w ∈ W, PyData.canLay0 (.str w) = true := fun w hw => by
        rw [← hW, dot_eq] at hw
        exact split_strOk (by decide) (fun s hs => by have := hya s hs; omega) w hw
      have laT : ∀ w ∈ TL, PyData.canLay0 (.str w) = true := fun w hw => by
        rw [eT] at hw
        split at hw
        · exact laW w (lastN_mem hw)
        · cases hw
      have m45 := s5 _ _ m4
      refine (givS_and (σ := [some (V.ref p), some (.str y), some (.ref p1), some (.int (sz : Nat)), some (.int (ah : Nat)), some (.str r), some (.ref p2), some (.ref q), some (.ref L), v9, none]) (H0 := H5) (b := !decide (TL = [])) (c := decide ((List.range TL.length).filter cnd = [])) (fun H' Q' s' q' => ?n1) (fun _ H' Q' s' q' => ?n2)) _ _ (Same.refl _) fun H6 s6 => ?_
      case n1 =>
        refine ⟨_, rfl, by show 0 ≤ sizeLine; decide, fun w hw => ?_⟩
        have sw := Same.new (o := HO.lst []) hw
        refine ⟨_, _, dp_strs (SqL.of (sw _ _ (s' _ _ m45))), dp_strs (ys := []) (SqL.of upd_same), shaped_strs laT, shaped_strs (ys := []) (fun y hy => by cases hy), ?_⟩
        rw [eqv_nil]
        exact q' _ sw
      case n2 =>
        refine ⟨_, rfl, by show 0 ≤ sizeLine; decide, fun w hw => ?_⟩
        have sw := Same.new (o := HO.lst []) hw
        refine ⟨_, _, .lst (SqL.of (sw _ _ (s' _ _ mL))) (dpAll_nats _), .lst (SqL.of upd_same) .nil, shaped_nats _, shaped_nats [], ?_⟩
        rw [nats_eqv]
        exact q' _ sw
      rw [hoff]
      have e5 := foldS_snoc (W.map tl) ((rs.take i).map tl) (tl r)
      rw [← hf] at e5
      have s16 := (s14.trans s5).trans s6
      have m26 := s6 _ _ (s5 _ _ m24)
      have emax : ∀ a : Nat, (if (((P.map V.str).length : Nat) : Int) > (a : Int) then (((P.map V.str).length : Nat) : Int) else (a : Int)) = ((max a (patL (tl r)).length : Nat) : Int) := fun a => by
        rw [List.length_map, lP]
        split <;> omega
      unfold stepL at e5
      cases hm : metL (patL (tl r)) (W.map tl) with
      | false =>
        rw [hm, if_neg (by decide)] at e5
        refine ⟨_, rfl, _, rfl, iteF (iteF ⟨_, rfl, _, rfl, iteF ?_⟩)⟩
        exact ⟨sz, ah, _, _, _, _, _, rfl, by rw [e2, e5], s16⟩
      | true =>
        rw [hm, if_pos rfl] at e5
        refine ⟨_, rfl, _, rfl, iteT ?_⟩
        refine ⟨_, rfl, 1, rfl, r, rfl, r100, rfl, ?_⟩
        rw [hb]
        cases he : excT (tl r) with
        | true =>
          rw [he, if_pos rfl] at e5
          refine ⟨_, rfl, iteT ⟨_, rfl, _, rfl, p2, _, rfl, .inl (SqL.of m26), _, _, rfl, ?_⟩⟩
          rw [emax]
          exact ⟨sz, _, _, _, _, _, _, rfl, by rw [e2, e5], s16⟩
        | false =>
          rw [he, if_neg (by decide)] at e5
          refine ⟨_, rfl, iteF ⟨_, rfl, _, rfl, iteT ⟨_, rfl, _, rfl, p2, _, rfl, .inl (SqL.of m26), _, _, rfl, ?_⟩⟩⟩
          rw [emax]
          exact ⟨_, ah, _, _, _, _, _, rfl, by rw [e2, e5], s16⟩
    rintro σ H2 ⟨sz, ah, v5, v6, v7, v8, v9, rfl, hf, s2⟩
    rw [List.length_map, List.take_length] at hf
    have hb := foldS_le (w := W.map tl) (by rw [List.length_map]; exact w1) (rs.map tl)
    rw [← hf, List.length_map] at hb
    have en : sufN7 (rs.map tl) (W.map tl) = if 0 < ah then ah - 1 else sz := by unfold sufN7; rw [← hf]
    have m12 := s2 _ _ m1
    refine ⟨⟨_, rfl⟩, _, rfl, _, rfl, p1, _, rfl, .inl (SqL.of m12), ?_⟩
    have hn : sufN7 (rs.map tl) (W.map tl) ≤ W.length := by rw [en]; simp only at hb; split <;> omega
    refine tif_cut (R := fun v H' => v = .int ((sufN7 (rs.map tl) (W.map tl) : Nat) : Int) ∧ H' = H2) (fun Q' q' => ?_) (fun v H' ⟨ev, eH⟩ => ?_)
    · rw [en] at q'
      refine ⟨_, rfl, _, _, rfl, rfl, _, rfl, iteB (fun c => ?_) (fun c => ?_)⟩
      · have c : (0 : Int) < (ah : Int) := of_decide_eq_true c
        refine ⟨_, rfl, _, _, rfl, rfl, q' _ _ ⟨?_, rfl⟩⟩
        have c2 : 0 < ah := by omega
        rw [if_pos c2]
        have : ((ah - 1 : Nat) : Int) = (ah : Int) - 1 := by omega
        rw [this]
      · have c : ¬ (0 : Int) < (ah : Int) := of_decide_eq_false c
        refine ⟨_, rfl, q' _ _ ⟨?_, rfl⟩⟩
        rw [if_neg (by omega)]
    subst ev eH
    refine ⟨_, _, rfl, rfl, _, rfl, p1, _, rfl, SqL.of m12, fun q hq => ?_⟩
    generalize hnn : sufN7 (rs.map tl) (W.map tl) = n at hn ⊢
    have ecut : cutV (W.map V.str) (some (((W.map V.str).length : Int) - (n : Int))) none = (lastN n W).map V.str := by
      rw [cutV_from _ (by rw [List.length_map]; omega), List.length_map]
      unfold lastN
      rw [List.map_drop, show ((W.length : Int) - (n : Int)).toNat = W.length - n by omega]
    have hwl : ∀ z ∈ lastN n W, z.length ≤ 1000 := fun z hz => by
      have := lastN_mem hz
      rw [← hW, dot_eq] at this
      exact Nat.le_trans (split_mem_len (by decide) this) (by omega)
    have hl9 : (lastN n W).length ≤ 1001 := by rw [lastN_len]; omega
    have hs := sum_map_le _ hwl
    have hd : ("." : Str).length = 1 := by decide +kernel
    refine ⟨_, q, lastN n W, rfl, rfl, .inl (SqL.of (by rw [upd_same, ecut])), by rw [hd]; exact join_fits hs hl9, ?_⟩
    refine hQ _ _ ((s1.trans s2).trans (Same.new hq)) ?_
    rw [join_tl, tl_dot]
    unfold sufT7
    rw [← eW, hnn]
    unfold lastN
    rw [List.length_map, List.map_drop]
theorem ok__law_family (T : Txt K mg) : Cal P w K mg base CX0 2 "_law_family" ["rules", "host"] (sp__law_family K) := by
  refine T.d__law_family.ok0 sc__law_family (fun vs H Q E h => ?_) (fun f cdv A outer s H vs Q E hr h => ?_)
  · first | (obtain ⟨_, rfl, _⟩ := h; rfl) | (obtain ⟨_, _, rfl, _⟩ := h; rfl) | (obtain ⟨_, _, _, rfl, _⟩ := h; rfl) | (obtain ⟨_, _, _, _, rfl, _⟩ := h; rfl) | (obtain ⟨_, _, _, _, _, rfl, _⟩ := h; rfl) | (obtain ⟨_, _, _, _, _, _, rfl, _⟩ := h; rfl) | (obtain ⟨_, _, _, _, _, _, _, rfl, _⟩ := h; rfl) | (obtain ⟨_, _, _, _, _, _, _, _, rfl, _⟩ := h; rfl) | (obtain ⟨_, _, _, _, _, _, _, _, _, rfl, _⟩ := h; rfl) | (obtain ⟨_, _, _, _, _, _, _, _, _, _, rfl, _⟩ := h; rfl) | (obtain ⟨_, _, _, _, _, _, _, _, _, _, _, rfl, _⟩ := h; rfl) | (obtain ⟨_, _, _, _, _, _, _, _, _, _, _, _, rfl, _⟩ := h; rfl)
  · refine ⟨_, (pss_cons (ps_if (PW.pt (pw_or (pt_val (pe_c (ok__law_is_numbers T) hr (by decide) (by rfl) pass0 (pa_cons (pv 1) pa_nil))) (pw_or1 (pt_cmpR (op_eq) (pe_c (ok__law_suffix T) hr (by decide) (by rfl) pass0 (pa_cons (pv 0) (pa_cons (pv 1) pa_nil))) (pv 1) (nomark _)))))
      (pss_one (ps_ret (pv 1)))
      pss_nil)
      (pss_one (ps_ret (pe_join pe_str (pe_slice sl_list (pe_split (pv 1) pe_str) (po_some (pe_op op_sub (pe_un un_neg (pe_callB call_len_seq (by rfl) T.b_len (by decide +kernel) (pa_cons (pe_split (pe_c (ok__law_suffix T) hr (by decide) (by rfl) pass0 (pa_cons (pv 0) (pa_cons (pv 1) pa_nil))) pe_str) pa_nil))) pe_int)) po_none))))), ?_⟩
    obtain ⟨p, rs, y, rfl, hp, hrs, hy, hQ⟩ := h
    obtain ⟨hr, hl, hlen⟩ := rules27_in hrs
    obtain ⟨hh, hy40⟩ := host28 hy
    have ha : ascii y := ascii_host hh
    have e7 : famT7 (rs.map tl) (tl y) = famT (rs.map tl) (tl y) := of_decide_eq_true (List.all_eq_true.mp (List.all_eq_true.mp fam7_all rs hrs) y hy)
    have fin : ∀ (e : Str) (H' : Hp), Same H H' → tl e = famT7 (rs.map tl) (tl y) → Q (.str e) H' := fun e H' s he => by
      have : e = famS rs y := by unfold famS; rw [← e7, ← he, mkS_tl]
      rw [this]; exact hQ H' s
    have hr7 : ∀ r ∈ rs, r.length ≤ 100 ∧ r.length ≠ 0 := fun r h => ⟨by have := (hlen r h).1; omega, (hlen r h).2⟩
    refine ⟨_, rfl, y, rfl, by omega, ha, fun H1 s1 => ⟨_, rfl, ?_⟩⟩
    by_cases hn : numsB (tl y) = true
    · rw [hn]
      refine iteT (iteT ⟨_, rfl, fin y H1 s1 ?_⟩)
      unfold famT7
      rw [if_pos hn]
    rw [Bool.eq_false_iff.mpr hn]
    refine iteF ?_
    refine ⟨_, rfl, _, rfl, p, rs, y, rfl, Same.seqT s1 hp, by omega, hr7, by omega, ha, fun e H2 s2 he => ?_⟩
    have s12 := s1.trans s2
    have els : ∀ e : Str, tl e = sufT7 (rs.map tl) (tl y) → e.length ≤ 40 := fun e he => by
      have h1 := (joinL_drop9 (sp1 46 (tl y)) ((sp1 46 (tl y)).length - sufN7 (rs.map tl) (sp1 46 (tl y)))).length_le
      rw [joinL_sp1, ← len_tl] at h1
      have h2 : (tl e).length ≤ y.length := by rw [he]; exact h1
      rw [← len_tl] at h2
      omega
    refine ⟨_, rfl, rfl, _, rfl, iteB (fun c => ?_) (fun c => ?_)⟩
    · have c : e = y := V.str.inj (of_decide_eq_true c)
      refine ⟨_, rfl, fin y H2 s12 ?_⟩
      unfold famT7
      rw [if_neg hn, if_pos (by rw [← he, c])]
    have c : ¬ sufT7 (rs.map tl) (tl y) = tl y := fun z => of_decide_eq_false c (by rw [ext_tl (he.trans z)])
    refine ⟨⟨_, rfl⟩, _, rfl, ⟨_, rfl⟩, _, _, rfl, rfl, by decide +kernel, Nat.le_trans (by omega : _ ≤ 1000) (by decide), fun p1 hp1 => ?_⟩
    have s3 := Same.new (o := HO.lst ((Txt.split y ("." : Str)).map V.str)) hp1
    have m1 := upd_same (H := H2) (a := p1) (o := HO.lst ((Txt.split y ("." : Str)).map V.str))
    have hWm : ∀ z ∈ Txt.split y ("." : Str), z.length ≤ 1000 := fun z hz => by
      rw [dot_eq] at hz
      exact Nat.le_trans (split_mem_len (by decide) hz) (by omega)
    have eW : (Txt.split y ("." : Str)).map tl = sp1 46 (tl y) := by rw [dot_eq]; exact split_sp1 y (by decide)
    generalize Txt.split y ("." : Str) = W at s3 m1 hWm eW ⊢
    generalize upd H2 p1 (HO.lst (W.map V.str)) = H3 at s3 m1 ⊢
    have lW : W.length = (sp1 46 (tl y)).length := by rw [← eW, List.length_map]
    have w2 : W.length ≤ 101 := by
      rw [lW]
      have := sp1_length (c := 46) (tl y)
      rw [← len_tl] at this
      omega
    have s13 := s12.trans s3
    refine ⟨_, rfl, _, rfl, p, rs, y, rfl, Same.seqT s13 hp, by omega, hr7, by omega, ha, fun e2 H4 s4 he2 => ?_⟩
    have l2 := els e2 he2
    refine ⟨⟨_, rfl⟩, _, _, rfl, rfl, by decide +kernel, Nat.le_trans (by omega : _ ≤ 1000) (by decide), fun p2 hp2 => ?_⟩
    have s5 := Same.new (o := HO.lst ((Txt.split e2 ("." : Str)).map V.str)) hp2
    have m2 := upd_same (H := H4) (a := p2) (o := HO.lst ((Txt.split e2 ("." : Str)).map V.str))
    have eU : (Txt.split e2 ("." : Str)).map tl = sp1 46 (sufT7 (rs.map tl) (tl y)) := by rw [dot_eq, split_sp1 e2 (by decide), he2]
    generalize Txt.split e2 ("." : Str) = U at s5 m2 eU ⊢
    generalize upd H4 p2 (HO.lst (U.map V.str)) = H5 at s5 m2 ⊢
    have lU : U.length = (sp1 46 (sufT7 (rs.map tl) (tl y))).length := by rw [← eU, List.length_map]
    refine ⟨p2, _, rfl, .inl (SqL.of m2), _, rfl, _, _, rfl, rfl, _, rfl, p1, _, rfl, SqL.of (s5 _ _ (s4 _ _ m1)), fun q hq => ?_⟩
    have ecut : cutV (W.map V.str) (some (-((U.map V.str).length : Int) - 1)) none = (lastN (U.length + 1) W).map V.str := by
      rw [List.length_map, show (-(U.length : Int) - 1) = -((U.length + 1 : Nat) : Int) by omega, cutV_last _ (by omega)]
      unfold lastN
      rw [List.length_map, List.map_drop]
    have hwl : ∀ z ∈ lastN (U.length + 1) W, z.length ≤ 1000 := fun z hz => hWm z (lastN_mem hz)
    have hl9 : (lastN (U.length + 1) W).length ≤ 1001 := by rw [lastN_len]; omega
    have hs := sum_map_le _ hwl
    have hd : ("." : Str).length = 1 := by decide +kernel
    refine ⟨_, q, lastN (U.length + 1) W, rfl, rfl, .inl (SqL.of (by rw [upd_same, ecut])), by rw [hd]; exact join_fits hs hl9, ?_⟩
    refine fin _ _ (((s13.trans s4).trans s5).trans (Same.new hq)) ?_
    rw [join_tl, tl_dot]
    unfold famT7
    rw [if_neg hn, if_neg c, ← lU, ← eW]
    unfold lastN
    rw [List.length_map, List.map_drop]
theorem ok__law_site (T : Txt K mg) : Cal P w K mg base CX0 3 "_law_site" ["rules", "origin"] (sp__law_site K) := by
  refine T.d__law_site.ok0 sc__law_site (fun vs H Q E h => ?_) (fun f cdv A outer s H vs Q E hr h => ?_)
  · first | (obtain ⟨_, rfl, _⟩ := h; rfl) | (obtain ⟨_, _, rfl, _⟩ := h; rfl) | (obtain ⟨_, _, _, rfl, _⟩ := h; rfl) | (obtain ⟨_, _, _, _, rfl, _⟩ := h; rfl) | (obtain ⟨_, _, _, _, _, rfl, _⟩ := h; rfl) | (obtain ⟨_, _, _, _, _, _, rfl, _⟩ := h; rfl) | (obtain ⟨_, _, _, _, _, _, _, rfl, _⟩ := h; rfl) | (obtain ⟨_, _, _, _, _, _, _, _, rfl, _⟩ := h; rfl) | (obtain ⟨_, _, _, _, _, _, _, _, _, rfl, _⟩ := h; rfl) | (obtain ⟨_, _, _, _, _, _, _, _, _, _, rfl, _⟩ := h; rfl) | (obtain ⟨_, _, _, _, _, _, _, _, _, _, _, rfl, _⟩ := h; rfl) | (obtain ⟨_, _, _, _, _, _, _, _, _, _, _, _, rfl, _⟩ := h; rfl)
  · refine ⟨_, (pss_one (ps_ret (pe_tup (pa_cons (pe_ix ix_tup (pv 1) pe_int (fun _ _ => rfl)) (pa_cons (pe_c (ok__law_family T) hr (by decide) (by rfl) pass0 (pa_cons (pv 0) (pa_cons (pe_ix ix_tup (pv 1) pe_int (fun _ _ => rfl)) pa_nil))) pa_nil))))), ?_⟩
    obtain ⟨p, o, rs, x, y, rfl, hp, ho, hrs, hy, hQ⟩ := h
    refine ⟨_, rfl, o, _, _, _, rfl, rfl, SqT.of ho, atI_nat rfl, _, rfl, _, rfl, o, _, _, _, rfl, rfl, SqT.of ho, atI_nat rfl, ?_⟩
    exact ⟨p, rs, y, rfl, hp, hrs, hy, fun H1 s1 => ⟨by show 2 ≤ sizeLine; decide, fun q hq => hQ q _ (s1.trans (Same.new hq)) upd_same⟩⟩
theorem ok__law_near_right (T : Txt K mg) : CalG P w K mg base CX0 15 "_law_near_right" ["rules", "v"] (sp__law_near_right K mg) := by
  refine T.d__law_near_right.ok0G sc__law_near_right (fun vs H Q E h => ?_) (fun f cdv A outer s H vs Q E hgd hr h => ?_)
  · first | (obtain ⟨_, rfl, _⟩ := h; rfl) | (obtain ⟨_, _, rfl, _⟩ := h; rfl) | (obtain ⟨_, _, _, rfl, _⟩ := h; rfl) | (obtain ⟨_, _, _, _, rfl, _⟩ := h; rfl) | (obtain ⟨_, _, _, _, _, rfl, _⟩ := h; rfl) | (obtain ⟨_, _, _, _, _, _, rfl, _⟩ := h; rfl) | (obtain ⟨_, _, _, _, _, _, _, rfl, _⟩ := h; rfl) | (obtain ⟨_, _, _, _, _, _, _, _, rfl, _⟩ := h; rfl) | (obtain ⟨_, _, _, _, _, _, _, _, _, rfl, _⟩ := h; rfl) | (obtain ⟨_, _, _, _, _, _, _, _, _, _, rfl, _⟩ := h; rfl) | (obtain ⟨_, _, _, _, _, _, _, _, _, _, _, rfl, _⟩ := h; rfl) | (obtain ⟨_, _, _, _, _, _, _, _, _, _, _, _, rfl, _⟩ := h; rfl)
  · have hu := hu_of hr
    refine ⟨_, (pss_cons (ps_asg (pe_cG (ok__law_told T) hgd hr (by decide) (by rfl) pass0 (pa_cons (pv 0) (pa_cons (pv 1) pa_nil))) (pg_tup rfl (pgs_cons (pg_name (i := 2) sc__law_near_right.nd rfl (by first | exact Or.inl rfl | exact Or.inr rfl)) (pgs_cons (pg_name (i := 3) sc__law_near_right.nd rfl (by first | exact Or.inl rfl | exact Or.inr rfl)) (pgs_cons (pg_name (i := 4) sc__law_near_right.nd rfl (by first | exact Or.inl rfl | exact Or.inr rfl)) pgs_nil)))))
      (pss_cons (ps_set (i := 5) sc__law_near_right.nd rfl (by first | exact Or.inl rfl | exact Or.inr rfl) (pe_c (ok__law_site T) hr (by decide) (by rfl) pass0 (pa_cons (pv 0) (pa_cons (pe_slice sl_tupA (pe_ix ix_tup (pe_dget hu (pv 1) pe_str (fun _ _ => rfl)) (pe_un un_neg pe_int) (fun _ _ => rfl)) po_none (po_some pe_int)) pa_nil))))
      (Evl.pss_cut (ps_if (PW.pt (pw_and (pt_val (pv 2)) (pw_and1 (PW.pt (pw_or (pt_not (pt_val (pv 3))) (pw_or (pt_val (pe_ix ix_tup (pv 4) pe_int (fun _ _ => rfl))) (pw_or1 (pt_cmpR (op_neD hr.units) (pe_ix ix_tup (pv 4) pe_int (fun _ _ => rfl)) (pv 5) (nomark _)))))))))
      (pss_one (ps_ret pe_bl))
      pss_nil)
      (pss_cons (ps_set (i := 6) sc__law_near_right.nd rfl (by first | exact Or.inl rfl | exact Or.inr rfl) (pe_c (ok__law_with T) hr (by decide) (by rfl) pass0 (pa_cons (pv 1) (pa_cons (pe_disp (pps_cons pe_str pe_non (pps_cons pe_str pe_bl (pps_cons pe_str pe_str pps_nil))) rfl rfl (by simp) (by decide)) pa_nil))))
      (pss_cons (ps_if (pt_cmpR (op_neD hr.units) (pe_ix ix_tup (pe_cG (ok__law_told T) hgd hr (by decide) (by rfl) pass0 (pa_cons (pv 0) (pa_cons (pv 6) pa_nil))) pe_int (fun _ _ => rfl)) (pv 4) (nomark _))
      (pss_one (ps_ret pe_bl))
      pss_nil)
      (pss_cons (ps_set (i := 7) sc__law_near_right.nd rfl (by first | exact Or.inl rfl | exact Or.inr rfl) (pe_cG (ok__law_told T) hgd hr (by decide) (by rfl) pass0 (pa_cons (pv 0) (pa_cons (pe_c (ok__law_with T) hr (by decide) (by rfl) pass0 (pa_cons (pv 6) (pa_cons (pe_disp (pps_cons pe_str pe_bl pps_nil) rfl rfl (by simp) (by decide)) pa_nil))) pa_nil))))
      (pss_one (ps_ret (pe_and (pe_cmpR (op_eqD hr.units) (pe_ix ix_tup (pv 7) pe_int (fun _ _ => rfl)) (pv 4) (nomark _)) (pe_and (pe_cmpR (op_eq) (pe_ix ix_tup (pv 7) pe_int (fun _ _ => rfl)) (pe_ix ix_tup (pv 7) pe_int (fun _ _ => rfl)) (nomark _)) (pe_one (pe_cmpR (op_eq) (pe_ix ix_tup (pv 7) pe_int (fun _ _ => rfl)) (pe_ix ix_tup (pe_cG (ok__law_told T) hgd hr (by decide) (by rfl) pass0 (pa_cons (pv 0) (pa_cons (pv 6) pa_nil))) pe_int (fun _ _ => rfl)) (nomark _))))))))))))), ?_⟩
    obtain ⟨p, a, rs, r, rfl, hp, hrs, hA, okA, hQ⟩ := h
    obtain ⟨hr, hl, _⟩ := rules27_in hrs
    have hl30 : rs.length ≤ 30 := by omega
    have ok := okA.ok
    obtain ⟨pc, pf, vs, md, ⟨cs, mc, tc⟩, hst, hfr⟩ := id hA
    obtain ⟨ql, eql, mql⟩ := ChAt.last ok tc
    have gh := okA.hc _ (last_mem ok)
    refine seq_asg ?_
    refine ⟨_, rfl, _, rfl, p, a, rs, r, rfl, hp, hr, hl30, hA, ok, fun t H1 s1 ⟨q, ht, hP⟩ => ?_⟩
    refine ⟨t, _, rfl, SqT.of ht, rfl, _, _, rfl, _, _, rfl, _, _, rfl, rfl, ?_⟩
    try dsimp only
    refine seq_asg ?_
    refine ⟨_, rfl, _, rfl, a, _, rfl, valK (s1 _ _ md) (ask_chain ..), 1, rfl, pc, _, _, _, rfl, rfl, SqT.of (s1 _ _ mc), eql, _, rfl, ql, _, rfl, SqT.of (s1 _ _ mql), fun g => absurd (show HT.sIx 3 3 (some 2) = 3 from g.2) (by decide), fun _ o ho => ?_⟩
    have so := Same.new (o := HO.tup [V.str r.last.1, V.str r.last.2.1]) ho
    refine ⟨p, o, rs, _, _, rfl, SqT.of ((s1.trans so) _ _ hp), upd_same, hrs, gh, fun e H2 s2 me => ?_⟩
    have s12 := (so.trans s2)
    have hP2 := hP.same s12
    have s02 := s1.trans s12
    clear ht hP so s2 s12
    try dsimp only
    refine ⟨fun σ' H' => σ' = [some (.ref p), some (.ref a), some (.bl (nearF rs r)), some (.bl (laxF rs r)), some (.ref q), some (.ref e), none, none] ∧ Same H2 H', ?_, ?_⟩
    · refine ⟨_, rfl, _, rfl, ?_⟩
      cases hn : nearF rs r with
      | false => exact ite_n rfl (ite_n rfl ⟨rfl, .refl _⟩)
      | true =>
        have hx : laxF rs r = true := by unfold laxF; rw [hn]; rfl
        have hpt := part_near hn
        refine ite_y rfl ⟨_, rfl, _, rfl, ?_⟩
        rw [hx]
        obtain ⟨s, hq, hs⟩ := hP2
        rw [hpt] at hq hs
        refine ite_n rfl ⟨_, rfl, q, _, 1, _, rfl, rfl, SqT.of hq, rfl, _, rfl, ite_n rfl ⟨_, rfl, q, _, 0, _, rfl, rfl, SqT.of hq, rfl, _, rfl, ?_⟩⟩
        have hg := ascii_site (rs := rs) (last_good ok)
        have esh : SeqAt.shaped (.tuple ([(ownF rs r).1, (ownF rs r).2].map PyData.str)) = true := shaped_pair hg.1 hg.2
        refine ⟨_, _, dp_strsT (ys := [(ownF rs r).1, (ownF rs r).2]) (SqT.of hs), dp_strsT (ys := [(ownF rs r).1, (ownF rs r).2]) (SqT.of me), esh, esh, _, rfl, ?_⟩
        rw [eqv_same esh]
        exact ite_n rfl ⟨rfl, .refl _⟩
    rintro σ H3 ⟨rfl, s3⟩
    have hP3 := hP2.same s3
    have s03 := s02.trans s3
    clear hP2 me
    try dsimp only
    refine seq_asg ?_
    have ok1 : RqOk { r with st := none, rd := true, wy := "http" } := ⟨ok.c1, ok.c2, ok.ca, fun x z => (by cases z), ok.f6, ok.fo, .inl rfl⟩
    have ok2 : RqOk { r with st := none, rd := false, wy := "http" } := ⟨ok.c1, ok.c2, ok.ca, fun x z => (by cases z), ok.f6, ok.fo, .inl rfl⟩
    refine AskAt.merge (H := H3) givW_plain (.refl _) rfl (hA.same s03) fun pl H4 s4 hA4 => ?_
    have s04 := s03.trans s4
    try dsimp only
    refine ⟨_, rfl, _, rfl, p, pl, rs, _, rfl, s04 _ _ hp, hr, hl30, hA4, ok1, fun t1 H5 s5 ⟨q1, ht1, hP1⟩ => ⟨t1, _, 2, _, rfl, rfl, SqT.of ht1, rfl, _, rfl, _, _, hP1.dp, ((hP3.same s4).same s5).dp, shaped_tuple_part ok1, shaped_tuple_part ok, _, rfl, ?_⟩⟩
    have ep : partF rs { r with st := none, rd := true, wy := "http" } = partF rs r := rfl
    rw [ep, eqv_same (shaped_tuple_part ok)]
    refine ite_n rfl ?_
    have hP5 := (hP3.same s4).same s5
    have hA5 := hA4.same s5
    have s05 := s04.trans s5
    clear hP1 ht1 hP3 hA4
    dsimp only [tNext]
    refine seq_asg ?_
    refine told_with (K := K) (mg := mg) (H := H5) (H1 := H5) (r' := { r with st := none, rd := false, wy := "http" }) (rs := rs) (p := p) rfl (.refl _) (s05 _ _ hp) hr hl30 ok2 (fun Q q => AskAt.merge (givW_reads (b := false)) (.refl _) rfl hA5 q) fun t2 H6 s6 ⟨q2, ht2, hP2⟩ => ?_
    have e2 : partF rs { r with st := none, rd := false, wy := "http" } = partF rs r := rfl
    have el : laxF rs { r with st := none, rd := false, wy := "http" } = nearF rs { r with st := none, rd := false, wy := "http" } := by unfold laxF; simp
    have en : nearF rs { r with st := none, rd := true, wy := "http" } = nearF rs { r with st := none, rd := false, wy := "http" } := rfl
    rw [el] at ht2
    rw [e2] at hP2
    try dsimp only
    refine ⟨_, rfl, t2, _, 2, _, rfl, rfl, SqT.of ht2, rfl, _, rfl, _, _, hP2.dp, (hP5.same s6).dp, shaped_tuple_part ok, shaped_tuple_part ok, ?_⟩
    rw [eqv_same (shaped_tuple_part ok)]
    refine ⟨true, rfl, ite_y rfl ⟨_, rfl, t2, _, 1, _, rfl, rfl, SqT.of ht2, rfl, _, rfl, t2, _, 0, _, rfl, rfl, SqT.of ht2, rfl, rfl, _, rfl, ite_y (by simp) ?_⟩⟩
    refine ⟨_, rfl, t2, _, 0, _, rfl, rfl, SqT.of ht2, rfl, _, rfl, _, rfl, p, pl, rs, _, rfl, (s05.trans s6) _ _ hp, hr, hl30, hA5.same s6, ok1, fun t3 H7 s7 ⟨q3, ht3, hP3⟩ => ?_⟩
    refine ⟨t3, _, 0, _, rfl, rfl, SqT.of ht3, rfl, rfl, ?_⟩
    rw [en]
    simp only [decide_true]
    exact hQ _ ((s05.trans s6).trans s7)
theorem ok__law_moved (T : Txt K mg) : CalG P w K mg base CX0 7 "_law_moved" ["v", "change"] (sp__law_moved P w K mg base) := by
  refine T.d__law_moved.ok0G sc__law_moved (fun vs H Q E h => ?_) (fun f cdv A outer s H vs Q E hgd hr h => ?_)
  · first | (obtain ⟨_, rfl, _⟩ := h; rfl) | (obtain ⟨_, _, rfl, _⟩ := h; rfl) | (obtain ⟨_, _, _, rfl, _⟩ := h; rfl) | (obtain ⟨_, _, _, _, rfl, _⟩ := h; rfl) | (obtain ⟨_, _, _, _, _, rfl, _⟩ := h; rfl) | (obtain ⟨_, _, _, _, _, _, rfl, _⟩ := h; rfl) | (obtain ⟨_, _, _, _, _, _, _, rfl, _⟩ := h; rfl) | (obtain ⟨_, _, _, _, _, _, _, _, rfl, _⟩ := h; rfl) | (obtain ⟨_, _, _, _, _, _, _, _, _, rfl, _⟩ := h; rfl) | (obtain ⟨_, _, _, _, _, _, _, _, _, _, rfl, _⟩ := h; rfl) | (obtain ⟨_, _, _, _, _, _, _, _, _, _, _, rfl, _⟩ := h; rfl) | (obtain ⟨_, _, _, _, _, _, _, _, _, _, _, _, rfl, _⟩ := h; rfl)
  · have hu := hu_of hr
    refine ⟨_, (pss_cons (ps_set (i := 2) sc__law_moved.nd rfl (by first | exact Or.inl rfl | exact Or.inr rfl) (pe_callTy call_tuple_of (by rfl) T.b_tuple (by decide +kernel) (pa_cons (pe_lc (own := [(("one" : Str), 4)]) rfl sc__law_moved.nd (pi_tup (pe_dget hu (pv 0) pe_str (fun _ _ => rfl))) (blkOk_by (N := ["v", "change", "chain", "first", "one"]) (sc := defScope s__law_moved) (by decide +kernel)) (fun _ _ _ _ _ => (pg_name (i := 4) sc__law_moved.nd rfl (by first | exact Or.inl rfl | exact Or.inr rfl))) (fun _ _ _ _ _ => pts_nil) (fun _ _ _ _ _ => (pe_op (show OpR _ (binaryOp .Add) (rCatA K) from op_catA) (pe_fV (j := 5) P w K mg base ⟨rfl, rfl, rfl, rfl, rfl⟩ 1 hgd hr (by decide) (by rfl) (by first | exact Or.inl rfl | exact Or.inr (Or.inl rfl) | exact Or.inr (Or.inr rfl)) (pa_cons (pe_slice (show SlR _ (rSlA K) from sl_tupA) (pv 4) po_none (po_some pe_int)) pa_nil)) (pe_slice (show SlR _ (rSlA K) from sl_tupA) (pv 4) (po_some pe_int) po_none)))) pa_nil)))
      (Evl.pss_cut (ps_set (i := 3) sc__law_moved.nd rfl (by first | exact Or.inl rfl | exact Or.inr rfl) (pe_ifExp (pt_cmpR (op_isN) (pe_dget hu (pv 0) pe_str (fun _ _ => rfl)) pe_non (nomark _)) pe_non (pe_fV (j := 5) P w K mg base ⟨rfl, rfl, rfl, rfl, rfl⟩ 1 hgd hr (by decide) (by rfl) (by first | exact Or.inl rfl | exact Or.inr (Or.inl rfl) | exact Or.inr (Or.inr rfl)) (pa_cons (pe_dget hu (pv 0) pe_str (fun _ _ => rfl)) pa_nil))))
      (pss_one (ps_ret (pe_c (ok__law_with T) hr (by decide) (by rfl) pass0 (pa_cons (pv 0) (pa_cons (pe_disp (pps_cons pe_str (pv 2) (pps_cons pe_str (pv 3) (pps_cons pe_str (pe_callTy call_tuple_of (by rfl) T.b_tuple (by decide +kernel) (pa_cons (pe_lc (own := [(("one" : Str), 4)]) rfl sc__law_moved.nd (pi_tup (pe_dget hu (pv 0) pe_str (fun _ _ => rfl))) (blkOk_by (N := ["v", "change", "chain", "first", "one"]) (sc := defScope s__law_moved) (by decide +kernel)) (fun _ _ _ _ _ => (pg_name (i := 4) sc__law_moved.nd rfl (by first | exact Or.inl rfl | exact Or.inr rfl))) (fun _ _ _ _ _ => pts_nil) (fun _ _ _ _ _ => (pe_fV (j := 5) P w K mg base ⟨rfl, rfl, rfl, rfl, rfl⟩ 1 hgd hr (by decide) (by rfl) (by first | exact Or.inl rfl | exact Or.inr (Or.inl rfl) | exact Or.inr (Or.inr rfl)) (pa_cons (pv 4) pa_nil)))) pa_nil)) pps_nil))) rfl rfl (by simp) (by decide)) pa_nil))))))), ?_⟩
    obtain ⟨a, f, r, g, okH, spf, rfl, hA, ok, hok, hst, hF, hC, hQ⟩ := h
    obtain ⟨pc, pf, vs, md, ⟨cs, mc, tc⟩, hs0, ⟨fs, mf, tf⟩⟩ := id hA
    have lc : cs.length = r.ch.length := by rw [tc.len, List.length_map]
    have lf : fs.length = r.fr.length := by rw [tf.len, List.length_map]
    have c2 := ok.c2
    have f6 := ok.f6
    refine seq_asg ?_
    refine ⟨_, rfl, a, _, rfl, valK md (ask_chain ..), pc, rfl, ⟨_, SqT.of mc⟩, fun D hD => ?_⟩
    refine lc_tup (K := K) (a := pc) (xs := cs.map V.ref) (fun i H2 => ∃ ws : List Addr, H2 D = some (.lst (ws.map V.ref)) ∧ TupsAt H2 ws (((r.ch.take i).map (movA g)).map adV) ∧ Same H H2) ⟨[], upd_same, trivial, Same.new hD⟩ (fun i H2 _ ⟨_, _, _, s⟩ => Same.seqT s (SqT.of mc)) ?_ ?_
    · rintro i x H2 hi ⟨ws, mD, tw, s2⟩
      have hi2 : i < r.ch.length := by
        have := (List.getElem?_eq_some_iff.mp hi).1
        rw [List.length_map, lc] at this
        exact this
      obtain ⟨qa, ea2, mqa⟩ := TupsAt.row3 (tc.same s2) hi2
      rw [ea2] at hi
      cases hi
      refine ⟨rfl, f, spf, rfl, hF, _, rfl, _, rfl, qa, _, rfl, SqT.of mqa, fun g => absurd (show HT.sIx 3 3 (some 2) = 3 from g.2) (by decide), fun _ o ho => ?_⟩
      have so := Same.new (o := HO.tup [V.str r.ch[i].1, V.str r.ch[i].2.1]) ho
      refine hC o (r.ch[i].1, r.ch[i].2.1) _ _ (hst _ _ hok (s2.trans so)) upd_same (by
        unfold Rq.places
        exact List.mem_append_left _ (List.mem_append_left _ (List.mem_map.mpr ⟨_, List.getElem_mem hi2, rfl⟩))) fun e H3 s3 me => ?_
      have s23 := so.trans s3
      refine ⟨_, rfl, _, rfl, qa, _, rfl, SqT.of (s23 _ _ mqa), fun g => absurd (show HT.sIx 3 0 (some 2) = 0 from g.1) (by decide), fun _ q2 hq2 => ?_⟩
      have ec : cutV [V.str r.ch[i].1, V.str r.ch[i].2.1, V.str r.ch[i].2.2] (some 2) none = [V.str r.ch[i].2.2] := rfl
      rw [ec]
      have sq2 := Same.new (o := HO.tup [V.str r.ch[i].2.2]) hq2
      refine ⟨e, q2, _, _, rfl, rfl, SqT.of (sq2 _ _ me), SqT.of upd_same, by show 3 ≤ sizeLine; decide, fun z => absurd z (by simp [orV]), fun _ z => absurd z (by simp), fun _ _ M hM => ?_⟩
      have sM := Same.new (o := HO.tup (orV (g (r.ch[i].1, r.ch[i].2.1)) ++ [V.str r.ch[i].2.2])) hM
      have s25 := (s23.trans sq2).trans sM
      have lw : ws.length = i := by rw [tw.len, List.length_map, List.length_map, List.length_take]; omega
      refine ⟨_, s25 _ _ mD, Nat.lt_of_le_of_lt (by rw [List.length_map]; omega : _ ≤ 100) (by decide), ws ++ [M], by rw [upd_same, List.map_append]; rfl, ?_, Same.put (s2.trans s25) hD⟩
      have e1 : (((r.ch.take (i + 1)).map (movA g)).map adV) = (((r.ch.take i).map (movA g)).map adV) ++ [adV (movA g r.ch[i])] := by
        rw [List.take_succ, List.getElem?_eq_getElem hi2, List.map_append, List.map_append]; rfl
      rw [e1]
      exact TupsAt.putL (s25 _ _ mD) ((tw.same s25).app (TupsAt.one upd_same))
    rintro H2 ⟨ws, mD, tw, s2⟩
    rw [List.length_map, lc, List.take_of_length_le (Nat.le_refl _)] at tw
    refine ⟨D, _, rfl, .inl ⟨SqL.of mD, fun T hT => ?_⟩⟩
    have sT := Same.new (o := HO.tup (ws.map V.ref)) hT
    have ch3 : ChAt (upd H2 T (HO.tup (ws.map V.ref))) T (r.ch.map (movA g)) := ⟨ws, upd_same, tw.same sT⟩
    have s3 := s2.trans sT
    generalize upd H2 T (HO.tup (ws.map V.ref)) = H3 at ch3 s3 ⊢
    clear tw sT hT mD s2 hD
    try dsimp only
    refine ⟨fun σ' H' => ∃ v3 : V, σ' = [some (.ref a), some (.ref f), some (.ref T), some v3, none] ∧ StAt H' v3 (r.st.map g) ∧ Same H3 H', ?_, ?_⟩
    · refine ⟨_, rfl, a, _, rfl, valK (s3 _ _ md) (ask_starter ..), rfl, _, rfl, ?_⟩
      have hpl : ∀ x, r.st = some x → x ∈ r.places := fun x e => by
        unfold Rq.places
        exact List.mem_append_left _ (List.mem_append_right _ (by rw [e]; exact List.mem_singleton.mpr rfl))
      cases e : r.st with
      | none =>
        rw [e] at hs0
        have hs0 : vs = .non := hs0
        subst hs0
        exact ite_y (by simp) ⟨_, rfl, rfl, .refl _⟩
      | some x =>
        rw [e] at hs0
        obtain ⟨q, ev, hq⟩ := hs0
        subst ev
        exact ite_n (by simp) ⟨f, spf, rfl, hF, _, rfl, a, _, rfl, valK (s3 _ _ md) (ask_starter ..), hC q x _ _ (hst _ _ hok s3) (s3 _ _ hq) (hpl x e) fun e4 H4 s4 me => ⟨_, rfl, ⟨e4, rfl, me⟩, s4⟩⟩
    rintro σ H4 ⟨v3, rfl, hv3, s4⟩
    have s04 := s3.trans s4
    have ch4 := ch3.same s4
    clear ch3 s3 s4
    try dsimp only
    refine ⟨_, rfl, fun e he => ?_⟩
    have se := Same.new (o := HO.dK []) he
    have me := upd_same (H := H4) (a := e) (o := HO.dK [])
    have s05 := s04.trans se
    have hv5 := hv3.same se
    have ch5 := ch4.same se
    have heH : H e = none := s04.free he
    have s45 := se
    generalize upd H4 e (HO.dK []) = H5 at me s05 hv5 ch5 s45 ⊢
    clear se hv3 ch4
    refine ⟨_, rfl, _, rfl, _, rfl, a, _, rfl, valK (s05 _ _ md) (ask_frames ..), pf, rfl, ⟨_, SqT.of (s05 _ _ mf)⟩, fun D2 hD2 => ?_⟩
    refine lc_tup (K := K) (a := pf) (xs := fs.map V.ref) (fun i H6 => ∃ ws : List Addr, H6 D2 = some (.lst (ws.map V.ref)) ∧ TupsAt H6 ws (((r.fr.take i).map g).map orV) ∧ Same H5 H6) ⟨[], upd_same, trivial, Same.new hD2⟩ (fun i H6 _ ⟨_, _, _, s⟩ => Same.seqT (s05.trans s) (SqT.of mf)) ?_ ?_
    · rintro i x H6 hi ⟨ws, mD, tw, s6⟩
      have hi2 : i < r.fr.length := by
        have := (List.getElem?_eq_some_iff.mp hi).1
        rw [List.length_map, lf] at this
        exact this
      obtain ⟨qa, ea2, mqa⟩ := TupsAt.row2 (tf.same (s05.trans s6)) hi2
      rw [ea2] at hi
      cases hi
      refine ⟨rfl, f, spf, rfl, hF, _, rfl, hC qa r.fr[i] _ _ (hst _ _ hok (s05.trans s6)) mqa (by
        unfold Rq.places
        exact List.mem_append_right _ (List.getElem_mem hi2)) fun e3 H7 s7 me7 => ?_⟩
      have lw : ws.length = i := by rw [tw.len, List.length_map, List.length_map, List.length_take]; omega
      refine ⟨_, s7 _ _ mD, Nat.lt_of_le_of_lt (by rw [List.length_map]; omega : _ ≤ 100) (by decide), ws ++ [e3], by rw [upd_same, List.map_append]; rfl, ?_, Same.put (s6.trans s7) hD2⟩
      have e1 : (((r.fr.take (i + 1)).map g).map orV) = (((r.fr.take i).map g).map orV) ++ [orV (g r.fr[i])] := by
        rw [List.take_succ, List.getElem?_eq_getElem hi2, List.map_append, List.map_append]; rfl
      rw [e1]
      exact TupsAt.putL (s7 _ _ mD) ((tw.same s7).app (TupsAt.one me7))
    rintro H6 ⟨ws, mD, tw, s6⟩
    rw [List.length_map, lf, List.take_of_length_le (Nat.le_refl _)] at tw
    refine ⟨D2, _, rfl, .inl ⟨SqL.of mD, fun T2 hT2 => ?_⟩⟩
    have sT := Same.new (o := HO.tup (ws.map V.ref)) hT2
    have or7 : OrsAt (upd H6 T2 (HO.tup (ws.map V.ref))) T2 (r.fr.map g) := ⟨ws, upd_same, tw.same sT⟩
    have s57 := s6.trans sT
    generalize upd H6 T2 (HO.tup (ws.map V.ref)) = H7 at or7 s57 ⊢
    have me7 := s57 _ _ me
    refine ⟨me7, [(Sum.inr "chain", .ref T), (Sum.inr "starter", v3), (Sum.inr "frames", .ref T2)], rfl, by show 3 ≤ 15; decide, ?_⟩
    have s8 : Same H4 (upd H7 e (HO.dK (mergeK [] [((Sum.inr "chain" : L2.Key), V.ref T), (Sum.inr "starter", v3), (Sum.inr "frames", .ref T2)]))) := Same.put (s45.trans s57) he
    refine ⟨a, e, _, _, rfl, s8 _ _ (s04 _ _ md), upd_same, by show 5 ≤ 100; decide, by show 3 ≤ 100; decide, fun a' H9 s9 ma => ?_⟩
    rw [merge_moved] at ma
    refine hQ a' H9 ((s04.trans s8).trans s9) ⟨T, T2, v3, ma, (ChAt.upd me7 (ch5.same s57)).same s9, (StAt.upd me7 (hv5.same s57)).same s9, (OrsAt.upd me7 or7).same s9⟩
theorem ok__law_other_scheme (T : Txt K mg) : Cal P w K mg base CX0 1 "_law_other_scheme" ["origin"] sp__law_other_scheme := by
  refine T.d__law_other_scheme.ok0 sc__law_other_scheme (fun vs H Q E h => ?_) (fun f cdv A outer s H vs Q E hr h => ?_)
  · first | (obtain ⟨_, rfl, _⟩ := h; rfl) | (obtain ⟨_, _, rfl, _⟩ := h; rfl) | (obtain ⟨_, _, _, rfl, _⟩ := h; rfl) | (obtain ⟨_, _, _, _, rfl, _⟩ := h; rfl) | (obtain ⟨_, _, _, _, _, rfl, _⟩ := h; rfl) | (obtain ⟨_, _, _, _, _, _, rfl, _⟩ := h; rfl) | (obtain ⟨_, _, _, _, _, _, _, rfl, _⟩ := h; rfl) | (obtain ⟨_, _, _, _, _, _, _, _, rfl, _⟩ := h; rfl) | (obtain ⟨_, _, _, _, _, _, _, _, _, rfl, _⟩ := h; rfl) | (obtain ⟨_, _, _, _, _, _, _, _, _, _, rfl, _⟩ := h; rfl) | (obtain ⟨_, _, _, _, _, _, _, _, _, _, _, rfl, _⟩ := h; rfl) | (obtain ⟨_, _, _, _, _, _, _, _, _, _, _, _, rfl, _⟩ := h; rfl)
  · have hu := hu_of hr
    refine ⟨_, (pss_one (ps_ret (pe_tup (pa_cons (pe_dget hu (pe_disp (pps_cons pe_str pe_str (pps_cons pe_str pe_str pps_nil)) rfl rfl (by simp) (by decide)) (pe_ix ix_tup (pv 0) pe_int (fun _ _ => rfl)) (fun _ _ => rfl)) (pa_cons (pe_ix ix_tup (pv 0) pe_int (fun _ _ => rfl)) pa_nil))))), ?_⟩
    obtain ⟨o, x, rfl, ho, hx, hQ⟩ := h
    intro p hp
    refine ⟨upd_same, [(Sum.inr "http", .str "https"), (Sum.inr "https", .str "http")], rfl, by show 2 ≤ 15; decide, ?_⟩
    rw [upd_upd]
    have sp := Same.new (o := HO.dK (mergeK [] [((Sum.inr "http" : L2.Key), V.str "https"), (Sum.inr "https", .str "http")])) hp
    have ho2 := sp _ _ ho
    refine ⟨_, rfl, o, _, 0, _, rfl, rfl, SqT.of ho2, rfl, p, _, rfl, valK upd_same (flip_val hx), _, rfl, o, _, 1, _, rfl, rfl, SqT.of ho2, rfl, by show 2 ≤ sizeLine; decide, fun e he => ?_⟩
    exact hQ e _ (sp.trans (Same.new he)) upd_same
theorem ok__law_moves_right {c Tb : Addr} (D : DfC K mg "_law_moves_right" s__law_moves_right ["rules", "v"] c Tb) (TB : LamX.TabB base mg c Tb) (T : Txt K mg) : CalG P w K mg base CX0 17 "_law_moves_right" ["rules", "v"] (sp__law_moves_right K mg Tb) := by
  refine DfC.okG D sc__law_moves_right (fun vs H Q E h => ?_) (fun f A outer s H vs Q E hgd hr h => ?_)
  · first | (obtain ⟨_, rfl, _⟩ := h; rfl) | (obtain ⟨_, _, rfl, _⟩ := h; rfl) | (obtain ⟨_, _, _, rfl, _⟩ := h; rfl) | (obtain ⟨_, _, _, _, rfl, _⟩ := h; rfl) | (obtain ⟨_, _, _, _, _, rfl, _⟩ := h; rfl) | (obtain ⟨_, _, _, _, _, _, rfl, _⟩ := h; rfl) | (obtain ⟨_, _, _, _, _, _, _, rfl, _⟩ := h; rfl) | (obtain ⟨_, _, _, _, _, _, _, _, rfl, _⟩ := h; rfl) | (obtain ⟨_, _, _, _, _, _, _, _, _, rfl, _⟩ := h; rfl) | (obtain ⟨_, _, _, _, _, _, _, _, _, _, rfl, _⟩ := h; rfl) | (obtain ⟨_, _, _, _, _, _, _, _, _, _, _, rfl, _⟩ := h; rfl) | (obtain ⟨_, _, _, _, _, _, _, _, _, _, _, _, rfl, _⟩ := h; rfl)
  · obtain ⟨F__law_other_scheme, f__law_other_scheme⟩ : ∃ f, mg "_law_other_scheme" = some (.ref f) := by obtain ⟨f, _, _, h, _⟩ := T.d__law_other_scheme; exact ⟨f, h⟩
    refine ⟨_, (pss_cons (ps_set (i := 2) sc__law_moves_right.nd rfl (by first | exact Or.inl rfl | exact Or.inr rfl) (pe_cG (ok__law_told T) hgd hr (by decide) (by rfl) pass0 (pa_cons (pv 0) (pa_cons (pv 1) pa_nil))))
      (pss_cons (ps_if (pt_cmpR (op_neD hr.units) (pe_cG (ok__law_told T) hgd hr (by decide) (by rfl) pass0 (pa_cons (pv 0) (pa_cons (pe_lamV (kl := 4) (N := ["one", "rules"]) (ps := ["one"]) (fr := ["rules"]) (js := [0]) (by rfl) (fun base => ok__law_moved (base := base) T) hgd hr (by decide) TB rfl (fun _ => rfl) (NdefX.nscope_by (N := ["one", "rules"]) (ps := ["one"]) (fr := ["rules"]) (by decide +kernel)) (lamV_by (sc := defScope s__law_moves_right) (by decide +kernel)) (by rfl) (fun _ _ _ _ _ _ us hl => match us, hl with | [_], _ => rfl) rfl rfl (pv 1) (fun base' A' outer' s' H' E' f' c' hgd hr => (pe_c (ok__law_site T) hr (by decide) (by rfl) pass0 (pa_cons (pv 1) (pa_cons (pv 0) pa_nil))))) pa_nil))) (pv 2) (nomark _))
      (pss_one (ps_ret pe_bl))
      pss_nil)
      (pss_cons (ps_set (i := 3) sc__law_moves_right.nd rfl (by first | exact Or.inl rfl | exact Or.inr rfl) (pe_cG (ok__law_told T) hgd hr (by decide) (by rfl) pass0 (pa_cons (pv 0) (pa_cons (pe_cG (ok__law_moved T) hgd hr (by decide) (by rfl) pass0 (pa_cons (pv 1) (pa_cons (pe_gt (by rfl) f__law_other_scheme) pa_nil))) pa_nil))))
      (pss_one (ps_ret (pe_and (pe_cmpR (op_eqD hr.units) (pe_slice sl_tupA (pv 3) po_none (po_some pe_int)) (pe_slice sl_tupA (pv 2) po_none (po_some pe_int)) (nomark _)) (pe_one (pe_cmpR (op_eqD hr.units) (pe_ix ix_tup (pv 3) pe_int (fun _ _ => rfl)) (pe_tup (pa_cons (pe_c (ok__law_other_scheme T) hr (by decide) (by rfl) pass0 (pa_cons (pe_ix ix_tup (pe_ix ix_tup (pv 2) pe_int (fun _ _ => rfl)) pe_int (fun _ _ => rfl)) pa_nil)) (pa_cons (pe_ix ix_tup (pe_ix ix_tup (pv 2) pe_int (fun _ _ => rfl)) pe_int (fun _ _ => rfl)) pa_nil))) (nomark _))))))))), ?_⟩
    obtain ⟨p, a, rs, r, rfl, hp, hrs, hA, okA, tab, hQ⟩ := h
    obtain ⟨hr, hl, _⟩ := rules27_in hrs
    have hl30 : rs.length ≤ 30 := by omega
    have ok := okA.ok
    have G1 : ∀ x ∈ r.places, siteS rs (siteS rs x) = id (siteS rs x) := fun x hx => Prod.ext rfl (fam28 hrs (places_host okA hx).1).1
    have G2 : ∀ x ∈ r.places, siteS rs (flipS x) = flipS (siteS rs x) := fun x hx => rfl
    have I2 : ∀ x ∈ r.places, flipS (siteS rs x) = flipS (ownF rs r) → siteS rs x = ownF rs r := fun x hx e => flip_inj (places_host okA hx).2 (last_good ok).1 e
    have ok1 : RqOk (movR (siteS rs) r) := ok_mov ok fun x hx => ⟨(places_host okA hx).2, (fam28 hrs (places_host okA hx).1).2⟩
    have ok2 : RqOk (movR flipS r) := ok_mov ok fun x hx => flip_good ⟨(places_host okA hx).2, (host28 (places_host okA hx).1).1⟩
    have tl : Tells rs r (movR (siteS rs) r) := ⟨near_mov ok G1 (fun x hx e => e), lax_mov ok G1 (fun x hx e => e), part_mov ok G1 (fun x hx e => e)⟩
    refine seq_asg ?_
    refine ⟨_, rfl, _, rfl, p, a, rs, r, rfl, hp, hr, hl30, hA, ok, fun t H1 s1 hT => ?_⟩
    have hA1 := hA.same s1
    have hp1 := s1 _ _ hp
    have tab1 := TabS.same tab s1
    try dsimp only
    refine ⟨_, rfl, _, rfl, tab1, fun H2 fl cl bs e2 t2 hc hFV => ?_⟩
    have hp2 := e2 _ _ hp1 (fun ps z => by cases z)
    have hA2 := hA1.ext e2
    have hT2 := hT.ext e2
    refine ⟨a, fl, r, siteS rs, fun H' => H' cl = some (LamX.CodeO cl _) ∧ H' p = some (.tup (rs.map V.str)), _, rfl, hA2, ok, ⟨hc, hp2⟩, fun H3 H4 ⟨x, y⟩ s => ⟨s _ _ x, s _ _ y⟩, ⟨_, hFV⟩, fun o x H3 Q3 ⟨hc3, hp3⟩ ho hx q3 => ⟨rfl, hc3, _, rfl, _, rfl, p, o, rs, x.1, x.2, rfl, SqT.of hp3, ho, hrs, (places_host okA hx).1, fun e H4 s4 me => q3 e H4 s4 me⟩, fun a2 H3 s3 hA3 => ?_⟩
    refine ⟨p, a2, rs, _, rfl, s3 _ _ hp2, hr, hl30, hA3, ok1, fun t2' H4 s4 ht2 => ⟨_, rfl, _, _, ht2.dp, ((hT2.same s3).same s4).dp, shaped_told ok1, shaped_told ok, _, rfl, ?_⟩⟩
    rw [tl.d, eqv_same (shaped_told ok)]
    refine ite_n rfl ?_
    have s24 := s3.trans s4
    have hp4 := s24 _ _ hp2
    have hA4 := hA2.same s24
    have hT4 := hT2.same s24
    have tab4 := TabS.same t2 s24
    have e04 : LamX.ExtN H H4 := ((LamX.ExtN.of s1).trans e2).trans (.of s24)
    clear hp1 hp2 hA1 hA2 hT2 hT tab1 t2 hc hFV s3 s4 s24 ht2 hA3 e2
    dsimp only [tNext]
    refine seq_asg ?_
    refine ⟨_, rfl, _, rfl, a, F__law_other_scheme, r, flipS, fun _ => True, _, rfl, hA4, ok, trivial, fun _ _ _ _ => trivial, ⟨_, (CalG.fv (Cal.g (ok__law_other_scheme T)) f__law_other_scheme).mono (by decide)⟩, fun o x H3 Q3 _ ho hx q3 => ⟨o, x, rfl, ho, (places_host okA hx).2, fun e H5 s5 me => q3 e H5 s5 me⟩, fun a3 H5 s5 hA5 => ?_⟩
    refine ⟨p, a3, rs, _, rfl, s5 _ _ hp4, hr, hl30, hA5, ok2, fun t3 H6 s6 ⟨q3, ht3, hP3⟩ => ?_⟩
    obtain ⟨q, ht6, hP6⟩ := hT4.same (s5.trans s6)
    rw [near_mov ok G2 I2, lax_mov ok G2 I2] at ht3
    rw [part_mov ok G2 I2] at hP3
    have e06 := e04.trans (.of (s5.trans s6))
    have tab6 := TabS.same tab4 (s5.trans s6)
    clear hp4 hA4 hT4 tab4 e04 hA5 s5 s6
    try dsimp only
    refine ⟨_, rfl, _, rfl, t3, _, rfl, SqT.of ht3, fun g => absurd (show HT.sIx 3 3 (some 2) = 3 from g.2) (by decide), fun _ z1 h1 => ?_⟩
    have ec1 : cutV [V.bl (nearF rs r), V.bl (laxF rs r), V.ref q3] none (some 2) = [V.bl (nearF rs r), V.bl (laxF rs r)] := rfl
    rw [ec1]
    have c1 := Same.new (o := HO.tup [V.bl (nearF rs r), V.bl (laxF rs r)]) h1
    refine ⟨_, rfl, _, rfl, t, _, rfl, SqT.of (c1 _ _ ht6), fun g => absurd (show HT.sIx 3 3 (some 2) = 3 from g.2) (by decide), fun _ z2 h2 => ?_⟩
    have ec2 : cutV [V.bl (nearF rs r), V.bl (laxF rs r), V.ref q] none (some 2) = [V.bl (nearF rs r), V.bl (laxF rs r)] := rfl
    rw [ec2]
    have c2 := Same.new (o := HO.tup [V.bl (nearF rs r), V.bl (laxF rs r)]) h2
    refine ⟨_, _, .tup (SqT.of (c2 _ _ upd_same)) (.cons (.bl _) (.cons (.bl _) .nil)), .tup (SqT.of upd_same) (.cons (.bl _) (.cons (.bl _) .nil)), shaped_bb _ _, shaped_bb _ _, _, rfl, ite_y (eqv_same (shaped_bb _ _)) ?_⟩
    have c12 := c1.trans c2
    obtain ⟨sx, hq, hs⟩ := hP6.same c12
    refine ⟨_, rfl, t3, _, 2, _, rfl, rfl, SqT.of (c12 _ _ ht3), rfl, _, rfl, t, _, 2, _, rfl, rfl, SqT.of (c12 _ _ ht6), rfl, q, _, 0, _, rfl, rfl, SqT.of hq, rfl, sx, (partF rs r).1, rfl, hs, part_sch ok, fun e H7 s7 me => ?_⟩
    refine ⟨_, rfl, t, _, 2, _, rfl, rfl, SqT.of (s7 _ _ (c12 _ _ ht6)), rfl, q, _, 1, _, rfl, rfl, SqT.of (s7 _ _ hq), rfl, by show 2 ≤ sizeLine; decide, fun u hu => ?_⟩
    have cu := Same.new (o := HO.tup [V.ref e, V.bl (partF rs r).2]) hu
    have hU : PartAt (upd H7 u (HO.tup [V.ref e, V.bl (partF rs r).2])) u (flipS (partF rs r).1, (partF rs r).2) := ⟨e, upd_same, cu _ _ me⟩
    have sh2 : SeqAt.shaped (partD (flipS (partF rs r).1, (partF rs r).2)) = true := by
      rw [← part_mov ok G2 I2]
      exact shaped_tuple_part ok2
    refine ⟨_, _, ((hP3.same c12).same (s7.trans cu)).dp, hU.dp, sh2, sh2, ?_⟩
    rw [eqv_same sh2]
    exact hQ _ (e06.trans (.of (c12.trans (s7.trans cu)))) (TabS.same tab6 (c12.trans (s7.trans cu)))
theorem ok__law_frames_right (T : Txt K mg) : CalG P w K mg base CX0 15 "_law_frames_right" ["rules", "v"] (sp__law_frames_right K mg) := by
  refine T.d__law_frames_right.ok0G sc__law_frames_right (fun vs H Q E h => ?_) (fun f cdv A outer s H vs Q E hgd hr h => ?_)
  · first | (obtain ⟨_, rfl, _⟩ := h; rfl) | (obtain ⟨_, _, rfl, _⟩ := h; rfl) | (obtain ⟨_, _, _, rfl, _⟩ := h; rfl) | (obtain ⟨_, _, _, _, rfl, _⟩ := h; rfl) | (obtain ⟨_, _, _, _, _, rfl, _⟩ := h; rfl) | (obtain ⟨_, _, _, _, _, _, rfl, _⟩ := h; rfl) | (obtain ⟨_, _, _, _, _, _, _, rfl, _⟩ := h; rfl) | (obtain ⟨_, _, _, _, _, _, _, _, rfl, _⟩ := h; rfl) | (obtain ⟨_, _, _, _, _, _, _, _, _, rfl, _⟩ := h; rfl) | (obtain ⟨_, _, _, _, _, _, _, _, _, _, rfl, _⟩ := h; rfl) | (obtain ⟨_, _, _, _, _, _, _, _, _, _, _, rfl, _⟩ := h; rfl) | (obtain ⟨_, _, _, _, _, _, _, _, _, _, _, _, rfl, _⟩ := h; rfl)
  · have hu := hu_of hr
    refine ⟨_, (pss_cons (ps_if (pt_cmpR (op_gt) (pe_callB call_len_seq (by rfl) T.b_len (by decide +kernel) (pa_cons (pe_dget hu (pv 1) pe_str (fun _ _ => rfl)) pa_nil)) pe_int (nomark _))
      (pss_one (ps_ret pe_bl))
      pss_nil)
      (pss_cons (ps_set (i := 2) sc__law_frames_right.nd rfl (by first | exact Or.inl rfl | exact Or.inr rfl) (pe_c (ok__law_with T) hr (by decide) (by rfl) pass0 (pa_cons (pv 1) (pa_cons (pe_disp (pps_cons pe_str pe_non pps_nil) rfl rfl (by simp) (by decide)) pa_nil))))
      (pss_cons (ps_par (i := 3) (j := 4) rfl sc__law_frames_right.nd rfl rfl (by decide) rfl rfl (pa_cons (pe_slice sl_tupA (pe_ix ix_tup (pe_dget hu (pv 1) pe_str (fun _ _ => rfl)) (pe_un un_neg pe_int) (fun _ _ => rfl)) po_none (po_some pe_int)) (pa_cons (pe_tup (pa_cons pe_str (pa_cons pe_str pa_nil))) pa_nil)) (by rfl))
      (pss_cons (ps_par (i := 5) (j := 6) rfl sc__law_frames_right.nd rfl rfl (by decide) rfl rfl (pa_cons (pe_cG (ok__law_told T) hgd hr (by decide) (by rfl) pass0 (pa_cons (pv 0) (pa_cons (pv 2) pa_nil))) (pa_cons (pe_c (ok__law_with T) hr (by decide) (by rfl) pass0 (pa_cons (pv 2) (pa_cons (pe_disp (pps_cons pe_str (pe_op op_catA (pe_dget hu (pv 2) pe_str (fun _ _ => rfl)) (pe_tup (pa_cons (pv 3) pa_nil))) pps_nil) rfl rfl (by simp) (by decide)) pa_nil))) pa_nil)) (by rfl))
      (Evl.pss_cut (ps_if (PW.pt (pw_and (pt_cmpR (op_neD hr.units) (pe_dget hu (pv 2) pe_str (fun _ _ => rfl)) (pe_tup pa_nil) (nomark _)) (pw_and1 (pt_cmpR (op_neD hr.units) (pe_cG (ok__law_told T) hgd hr (by decide) (by rfl) pass0 (pa_cons (pv 0) (pa_cons (pv 6) pa_nil))) (pv 5) (nomark _)))))
      (pss_one (ps_ret pe_bl))
      pss_nil)
      (pss_cons (ps_if (pt_cmpR (op_ne) (pe_ix ix_tup (pe_cG (ok__law_told T) hgd hr (by decide) (by rfl) pass0 (pa_cons (pv 0) (pa_cons (pv 6) pa_nil))) pe_int (fun _ _ => rfl)) (pe_ix ix_tup (pv 5) pe_int (fun _ _ => rfl)) (nomark _))
      (pss_one (ps_ret pe_bl))
      pss_nil)
      (pss_cons (ps_set (i := 7) sc__law_frames_right.nd rfl (by first | exact Or.inl rfl | exact Or.inr rfl) (pe_cG (ok__law_told T) hgd hr (by decide) (by rfl) pass0 (pa_cons (pv 0) (pa_cons (pe_c (ok__law_with T) hr (by decide) (by rfl) pass0 (pa_cons (pv 2) (pa_cons (pe_disp (pps_cons pe_str (pe_op op_catA (pe_dget hu (pv 2) pe_str (fun _ _ => rfl)) (pe_tup (pa_cons (pv 4) pa_nil))) pps_nil) rfl rfl (by simp) (by decide)) pa_nil))) pa_nil))))
      (pss_one (ps_ret (pe_and (pe_cmpR (op_eqD hr.units) (pe_slice sl_tupA (pv 7) po_none (po_some pe_int)) (pe_tup (pa_cons pe_bl (pa_cons pe_bl pa_nil))) (nomark _)) (pe_one (pe_cmpR (op_isBl) (pe_ix ix_tup (pe_ix ix_tup (pv 7) pe_int (fun _ _ => rfl)) pe_int (fun _ _ => rfl)) pe_bl (nomark _))))))))))))), ?_⟩
    obtain ⟨p, a, rs, r, rfl, hp, hrs, hA, okA, hQ⟩ := h
    obtain ⟨hr, hl, _⟩ := rules27_in hrs
    have hl30 : rs.length ≤ 30 := by omega
    have ok := okA.ok
    obtain ⟨pc, pf, vs, md, ⟨cs, mc, tc⟩, hst, ⟨fs, mf, tf⟩⟩ := id hA
    obtain ⟨ql, eql, mql⟩ := ChAt.last ok tc
    have gh := okA.hc _ (last_mem ok)
    have lf : fs.length = r.fr.length := by rw [tf.len, List.length_map]
    refine ⟨_, rfl, a, _, rfl, valK md (ask_frames ..), pf, _, rfl, .inr (SqT.of mf), _, _, rfl, rfl, _, rfl, ?_⟩
    rw [List.length_map, lf]
    by_cases h4 : (4 : Int) < (r.fr.length : Int)
    · exact ite_y (decide_eq_true h4) (hQ H (.refl _))
    refine ite_n (decide_eq_false h4) ?_
    dsimp only [tNext]
    refine seq_asg ?_
    refine AskAt.merge (H := H) givW_st0 (.refl _) rfl hA fun b H1 s1 hB => ?_
    try dsimp only
    refine ⟨_, rfl, a, _, rfl, valK (s1 _ _ md) (ask_chain ..), 1, rfl, pc, _, _, _, rfl, rfl, SqT.of (s1 _ _ mc), eql, _, rfl, ql, _, rfl, SqT.of (s1 _ _ mql), fun g => absurd (show HT.sIx 3 3 (some 2) = 3 from g.2) (by decide), fun _ o ho => ⟨by show 2 ≤ sizeLine; decide, fun fa hfa => ⟨_, _, rfl, ?_⟩⟩⟩
    have ec : cutV [V.str r.last.1, V.str r.last.2.1, V.str r.last.2.2] none (some 2) = [V.str r.last.1, V.str r.last.2.1] := rfl
    rw [ec] at hfa ⊢
    have so := Same.new (o := HO.tup [V.str r.last.1, V.str r.last.2.1]) ho
    have sf := Same.new (o := HO.tup [V.str "https", V.str "far-away"]) hfa
    have mo := sf _ _ (upd_same (H := H1) (a := o) (o := HO.tup [V.str r.last.1, V.str r.last.2.1]))
    have mf3 := upd_same (H := upd H1 o (HO.tup [V.str r.last.1, V.str r.last.2.1])) (a := fa) (o := HO.tup [V.str "https", V.str "far-away"])
    have s13 := so.trans sf
    have hB3 := hB.same s13
    have s03 := s1.trans s13
    change (upd (upd H1 o (HO.tup [V.str r.last.1, V.str r.last.2.1])) fa (HO.tup [V.str "https", V.str "far-away"])) o = some (HO.tup (orV (r.last.1, r.last.2.1))) at mo
    change (upd (upd H1 o (HO.tup [V.str r.last.1, V.str r.last.2.1])) fa (HO.tup [V.str "https", V.str "far-away"])) fa = some (HO.tup (orV ("https", "far-away"))) at mf3
    try dsimp only
    generalize upd (upd H1 o (HO.tup [V.str r.last.1, V.str r.last.2.1])) fa (HO.tup [V.str "https", V.str "far-away"]) = H3 at mo mf3 hB3 s03 ⊢
    clear so sf s13 hB hfa ho
    have go := last_good ok
    have hfr4 : r.fr.length ≤ 4 := by omega
    have okx : ∀ x : Str × Str, GoodO x → RqOk { r with st := none, fr := r.fr ++ [x] } := fun x hx => ⟨ok.c1, ok.c2, ok.ca, fun x z => (by cases z), by rw [List.length_append]; show r.fr.length + 1 ≤ 6; omega, fun y hy => (by
      rcases List.mem_append.mp hy with h | h
      · exact ok.fo y h
      · rw [List.mem_singleton.mp h]; exact hx), ok.wy.elim .inl fun ⟨e, l, _, b⟩ => .inr ⟨e, l, rfl, b⟩⟩
    have okb : RqOk { r with st := none } := ⟨ok.c1, ok.c2, ok.ca, fun x z => (by cases z), ok.f6, ok.fo, ok.wy.elim .inl fun ⟨e, l, _, b⟩ => .inr ⟨e, l, rfl, b⟩⟩
    -- told, more
    refine ⟨_, rfl, _, rfl, p, b, rs, _, rfl, s03 _ _ hp, hr, hl30, hB3, okb, fun t H4 s4 ht => ?_⟩
    refine AskAt.merge (H := H4) (givW_fr (givF_add (x := (r.last.1, r.last.2.1)) rfl rfl (hB3.same s4) (s4 _ _ mo) (by show r.fr.length ≤ 6; omega))) (.refl _) rfl (hB3.same s4) fun mr H5 s5 hM => ⟨_, _, rfl, ?_⟩
    have s05 := (s03.trans s4).trans s5
    have ht5 := ht.same s5
    have hB5 := hB3.same (s4.trans s5)
    have mf5 := (s4.trans s5) _ _ mf3
    have okm := okx _ go
    clear hB3 ht mf3 mo s4 s5 s03
    try dsimp only
    refine ⟨fun σ' H' => σ' = [some (.ref p), some (.ref a), some (.ref b), some (.ref o), some (.ref fa), some (.ref t), some (.ref mr), none] ∧ Same H5 H', ?_, ?_⟩
    · obtain ⟨pc5, pf5, vs5, mb5, _, _, ⟨fs5, mf5', tf5⟩⟩ := id hB5
      refine ⟨_, rfl, b, _, rfl, valK mb5 (ask_frames ..), by show 0 ≤ sizeLine; decide, fun w hw => ?_⟩
      have sw := Same.new (o := HO.tup []) hw
      refine ⟨_, _, .tup (SqT.of (sw _ _ mf5')) (dpAll_pairs (tf5.same sw)), .tup (SqT.of upd_same) .nil, shaped_pairsT (fun x hx => ⟨ascii_sch (ok.fo x hx).1, ascii_host (ok.fo x hx).2⟩), by decide +kernel, _, rfl, ?_⟩
      rw [eqv_pairsT0]
      by_cases e0 : r.fr = []
      · exact ite_n (by simp [e0]) (ite_n rfl ⟨rfl, sw⟩)
      refine ite_y (by simp [e0]) ?_
      have tl := tells_own (rs := rs) (r := { r with st := none }) e0
      refine ⟨_, rfl, _, rfl, p, mr, rs, _, rfl, (s05.trans sw) _ _ hp, hr, hl30, hM.same sw, okm, fun t2 H6 s6 ht2 => ⟨_, rfl, _, _, ht2.dp, (ht5.same (sw.trans s6)).dp, shaped_told okm, shaped_told okb, _, rfl, ?_⟩⟩
      rw [show toldD rs { r with st := none, fr := r.fr ++ [(r.last.1, r.last.2.1)] } = toldD rs { r with st := none } from tl.d, eqv_same (shaped_told okb)]
      exact ite_n rfl ⟨rfl, sw.trans s6⟩
    rintro σ H6 ⟨rfl, s6⟩
    have ht6 := ht5.same s6
    have hB6 := hB5.same s6
    have hM6 := hM.same s6
    have mf6 := s6 _ _ mf5
    have s06 := s05.trans s6
    clear ht5 hB5 hM mf5 s05 s6
    try dsimp only
    obtain ⟨q6, mt6, _⟩ := id ht6
    refine ⟨_, rfl, _, rfl, p, mr, rs, _, rfl, s06 _ _ hp, hr, hl30, hM6, okm, fun t2 H7 s7 ⟨q7, ht7, _⟩ => ⟨t2, _, 0, _, rfl, rfl, SqT.of ht7, rfl, _, rfl, t, _, 0, _, rfl, rfl, SqT.of (s7 _ _ mt6), rfl, rfl, _, rfl, ?_⟩⟩
    rw [show nearF rs { r with st := none, fr := r.fr ++ [(r.last.1, r.last.2.1)] } = nearF rs { r with st := none } from near_own { r with st := none }]
    refine ite_n (by simp) ?_
    dsimp only [tNext]
    refine seq_asg ?_
    have gfar : GoodO (("https" : Str), ("far-away" : Str)) := by unfold GoodO; exact ⟨by decide +kernel, by decide +kernel⟩
    have okf := okx _ gfar
    have hne : siteS rs ("https", "far-away") ≠ ownF rs { r with st := none } := fun z => far28 hrs gh (congrArg Prod.snd z)
    obtain ⟨f1, f2, f3⟩ := far_told (rs := rs) (r := { r with st := none }) hne
    refine told_with (K := K) (mg := mg) (H := H7) (H1 := H7) (rs := rs) (p := p) rfl (.refl _) ((s06.trans s7) _ _ hp) hr hl30 okf (fun Q q => AskAt.merge (givW_fr (givF_add (x := ("https", "far-away")) rfl rfl (hB6.same s7) (s7 _ _ mf6) (by show r.fr.length ≤ 6; omega))) (.refl _) rfl (hB6.same s7) q) fun t3 H8 s8 ⟨q8, ht8, ⟨s9, hq8, _⟩⟩ => ?_
    have e1 : nearF rs { r with st := none, fr := r.fr ++ [(("https" : Str), ("far-away" : Str))] } = false := f1
    have e2 : laxF rs { r with st := none, fr := r.fr ++ [(("https" : Str), ("far-away" : Str))] } = false := f2
    have e3 : (partF rs { r with st := none, fr := r.fr ++ [(("https" : Str), ("far-away" : Str))] }).2 = true := f3
    rw [e1, e2] at ht8
    rw [e3] at hq8
    have s08 := (s06.trans s7).trans s8
    try dsimp only
    refine ⟨_, rfl, _, rfl, t3, _, rfl, SqT.of ht8, fun g => absurd (show HT.sIx 3 3 (some 2) = 3 from g.2) (by decide), fun _ z hz => ⟨by show 2 ≤ sizeLine; decide, fun w hw => ?_⟩⟩
    have ec2 : cutV [V.bl false, V.bl false, V.ref q8] none (some 2) = [V.bl false, V.bl false] := rfl
    rw [ec2] at hw ⊢
    have sz := Same.new (o := HO.tup [V.bl false, V.bl false]) hz
    have sw := Same.new (o := HO.tup [V.bl false, V.bl false]) hw
    have mz := sw _ _ (upd_same (H := H8) (a := z) (o := HO.tup [V.bl false, V.bl false]))
    have szw := sz.trans sw
    refine ⟨_, _, .tup (SqT.of mz) (.cons (.bl _) (.cons (.bl _) .nil)), .tup (SqT.of upd_same) (.cons (.bl _) (.cons (.bl _) .nil)), by decide +kernel, by decide +kernel, _, rfl, ite_y (by decide +kernel) ?_⟩
    exact ⟨_, rfl, t3, _, 2, _, rfl, rfl, SqT.of (szw _ _ ht8), rfl, q8, _, 1, _, rfl, rfl, SqT.of (szw _ _ hq8), rfl, true, true, rfl, rfl, hQ _ (s08.trans szw)⟩
theorem ok_law {f : Addr} {fd : FuncData} {c Tb : Addr} (F : Fun K "law" "law" s_law f fd) (D : DfC K mg "_law_moves_right" s__law_moves_right ["rules", "v"] c Tb) (TB : LamX.TabB base mg c Tb) (T : Txt K mg) : FnG P w K mg base CX0 18 f fd ["script"] (sp_law K Tb) := by
  refine Kb.Fun.okG F sc_law (fun vs H Q E h => ?_) (fun cdv A outer s H vs Q E hgd hr h => ?_)
  · first | (obtain ⟨_, rfl, _⟩ := h; rfl) | (obtain ⟨_, _, rfl, _⟩ := h; rfl) | (obtain ⟨_, _, _, rfl, _⟩ := h; rfl) | (obtain ⟨_, _, _, _, rfl, _⟩ := h; rfl) | (obtain ⟨_, _, _, _, _, rfl, _⟩ := h; rfl) | (obtain ⟨_, _, _, _, _, _, rfl, _⟩ := h; rfl) | (obtain ⟨_, _, _, _, _, _, _, rfl, _⟩ := h; rfl) | (obtain ⟨_, _, _, _, _, _, _, _, rfl, _⟩ := h; rfl) | (obtain ⟨_, _, _, _, _, _, _, _, _, rfl, _⟩ := h; rfl) | (obtain ⟨_, _, _, _, _, _, _, _, _, _, rfl, _⟩ := h; rfl) | (obtain ⟨_, _, _, _, _, _, _, _, _, _, _, rfl, _⟩ := h; rfl) | (obtain ⟨_, _, _, _, _, _, _, _, _, _, _, _, rfl, _⟩ := h; rfl)
  · refine ⟨_, (pss_cons (ps_set (i := 1) sc_law.nd rfl (by first | exact Or.inl rfl | exact Or.inr rfl) (pe_c (ok__law_begun T) hr (by decide) (by rfl) pass0 (pa_cons (pv 0) pa_nil)))
      (pss_cons (ps_for PassesOwn.never rfl (pi_range1 (by rfl) T.b_range (pa_cons (pe_op op_add pe_int (pe_callB (call_min2 rfl) (by rfl) T.b_min (by decide +kernel) (pa_cons pe_int (pa_cons (pe_callB call_len_seq (by rfl) T.b_len (by decide +kernel) (pa_cons (pv 0) pa_nil)) pa_nil)))) pa_nil)) (pg_name (i := 2) sc_law.nd rfl (by first | exact Or.inl rfl | exact Or.inr rfl))
      (pss_cons (ps_set (i := 3) sc_law.nd rfl (by first | exact Or.inl rfl | exact Or.inr rfl) (pe_c (ok__law_rules T) hr (by decide) (by rfl) pass0 (pa_cons (pv 1) pa_nil)))
      (pss_cons (ps_set (i := 4) sc_law.nd rfl (by first | exact Or.inl rfl | exact Or.inr rfl) (pe_c (ok__law_pick T) hr (by decide) (by rfl) pass0 (pa_cons (pv 1) (pa_cons (pe_lst (pa_cons (pe_c0 (ok__law_hosts T) hr (by decide) (by rfl) pass0) (pa_cons (pe_lst (pa_cons pe_str (pa_cons pe_str pa_nil))) (pa_cons (pe_lst (pa_cons pe_str (pa_cons pe_str (pa_cons pe_str pa_nil)))) pa_nil)))) pa_nil))))
      (pss_cons (ps_set (i := 5) sc_law.nd rfl (by first | exact Or.inl rfl | exact Or.inr rfl) (pe_c (ok__law_ask T) hr (by decide) (by rfl) pass0 (pa_cons (pv 1) (pa_cons (pv 4) pa_nil))))
      (pss_cons (ps_if (PW.pt (pw_or (pt_not (pt_val (pe_cG (ok__law_chains_right T) hgd hr (by decide) (by rfl) pass0 (pa_cons (pv 1) (pa_cons (pv 3) (pa_cons (pv 5) pa_nil)))))) (pw_or1 (pt_not (pt_val (pe_cG (ok__law_near_right T) hgd hr (by decide) (by rfl) pass0 (pa_cons (pv 3) (pa_cons (pv 5) pa_nil))))))))
      (pss_one (ps_ret pe_bl))
      pss_nil)
      (pss_one (ps_if (PW.pt (pw_or (pt_not (pt_val (pe_cG (ok__law_moves_right D TB T) hgd hr (by decide) (by rfl) pass0 (pa_cons (pv 3) (pa_cons (pv 5) pa_nil))))) (pw_or1 (pt_not (pt_val (pe_cG (ok__law_frames_right T) hgd hr (by decide) (by rfl) pass0 (pa_cons (pv 3) (pa_cons (pv 5) pa_nil))))))))
      (pss_one (ps_ret pe_bl))
      pss_nil)))))))
      (pss_one (ps_ret pe_bl)))), ?_⟩
    obtain ⟨a, ns, rfl, hS, hl, hTb, hQ⟩ := h
    refine seq_asg ?_
    refine ⟨_, rfl, a, ns, rfl, hS, hl, fun d g H1 s1 D => ?_⟩
    have t1 := TabS.same hTb s1
    have hS1 := s1.seq hS
    try dsimp only
    obtain ⟨m, hm, hm13⟩ : ∃ m : Nat, (3 : Int) + (if ((ns.map V.int).length : Int) < 8 then ((ns.map V.int).length : Int) else 8) = (m : Int) ∧ m ≤ 13 := by
      split
      · exact ⟨3 + (ns.map V.int).length, by omega, by omega⟩
      · exact ⟨11, rfl, by decide⟩
    refine ⟨_, rfl, a, _, rfl, .inl hS1, _, _, rfl, _, _, rfl, rfl, (m : Int), congrArg (fun z => [V.int z]) hm, by omega, by omega, ?_⟩
    refine for_range (n := m) (fun j σ H' => ∃ v2 v3 v4 v5 : Option V, σ = [some (.ref a), some (.ref d), v2, v3, v4, v5] ∧ GAt H' d g (900000000 - 1000 * j) ∧ LamX.TabS H' Tb qMv) ⟨none, none, none, none, rfl, D, t1⟩ ?_ ?_
    · rintro j σ H2 hj ⟨v2, v3, v4, v5, rfl, D2, t2⟩
      refine seq_asg ?_
      refine ⟨_, rfl, d, g, 900000000 - 1000 * j - 1, rfl, D2.less (by omega), fun rp rs H3 hrs k3 D3 m3 => ?_⟩
      have t3 := TabS.kd t2 k3 D2
      try dsimp only
      refine seq_asg ?_
      refine ⟨_, rfl, rfl, fun p1 H4 s4 m4 => ⟨by show 2 ≤ sizeLine; decide, fun p2 h2 => ⟨by show 3 ≤ sizeLine; decide, fun p3 h3 => ⟨by show 3 ≤ sizeLine; decide, fun L hL => ?_⟩⟩⟩⟩
      have n2 := Same.new (o := HO.lst [V.str "a.com", V.str "www.a.com"]) h2
      have n3 := Same.new (o := HO.lst [V.str "a.com", V.str "x.www.a.com", V.str "b.com"]) h3
      have nL := Same.new (o := HO.lst [V.ref p1, V.ref p2, V.ref p3]) hL
      have D4 := D3.same s4
      have g1 : p1 ≠ g := fun z => by
        obtain ⟨_, gs, _, _, _, e2, _⟩ := D4
        rw [z, e2] at m4
        have e := HO.lst.inj (Option.some.inj m4)
        cases gs with
        | nil => cases e
        | cons x gs => cases (List.cons.inj e).1
      have D5 := (D4.same n2).same n3
      have D6 := D5.same nL
      have mp1 := nL _ _ (n3 _ _ (n2 _ _ m4))
      have mp2 := nL _ _ (n3 _ _ (upd_same (H := H4) (a := p2) (o := HO.lst [V.str "a.com", V.str "www.a.com"])))
      have mp3 := nL _ _ (upd_same (H := upd H4 p2 (HO.lst [V.str "a.com", V.str "www.a.com"])) (a := p3) (o := HO.lst [V.str "a.com", V.str "x.www.a.com", V.str "b.com"]))
      have g2 : p2 ≠ g := (D4.new h2).2
      have g3 : p3 ≠ g := ((D4.same n2).new h3).2
      have gL : L ≠ g := (D5.new hL).2
      have mL := upd_same (H := upd (upd H4 p2 (HO.lst [V.str "a.com", V.str "www.a.com"])) p3 (HO.lst [V.str "a.com", V.str "x.www.a.com", V.str "b.com"])) (a := L) (o := HO.lst [V.ref p1, V.ref p2, V.ref p3])
      have s36 := ((s4.trans n2).trans n3).trans nL
      have m6 := s36 _ _ m3
      have t6 := TabS.same t3 s36
      generalize upd (upd (upd H4 p2 (HO.lst [V.str "a.com", V.str "www.a.com"])) p3 (HO.lst [V.str "a.com", V.str "x.www.a.com", V.str "b.com"])) L (HO.lst [V.ref p1, V.ref p2, V.ref p3]) = H6 at D6 mp1 mp2 mp3 mL m6 t6 ⊢
      have hos : ∀ (i : Nat) (x : V), [V.ref p1, V.ref p2, V.ref p3][i]? = some x → ∃ (p : Addr) (hs : List Str), x = .ref p ∧ HostsAt H6 g p hs := fun i x hx => by
        have := List.mem_of_getElem? hx
        simp only [List.mem_cons, List.not_mem_nil, or_false] at this
        rcases this with rfl | rfl | rfl
        · exact ⟨p1, hosts27, rfl, mp1, g1, by decide, by decide, fun y hy => List.mem_append_left _ hy⟩
        · exact ⟨p2, ["a.com", "www.a.com"], rfl, mp2, g2, by show 0 < 2; decide, by show 2 ≤ 100; decide, fun y hy => (by decide +kernel : ∀ y ∈ (["a.com", "www.a.com"] : List Str), y ∈ hosts28) y hy⟩
        · exact ⟨p3, ["a.com", "x.www.a.com", "b.com"], rfl, mp3, g3, by show 0 < 3; decide, by show 3 ≤ 100; decide, fun y hy => (by decide +kernel : ∀ y ∈ (["a.com", "x.www.a.com", "b.com"] : List Str), y ∈ hosts28) y hy⟩
      refine ⟨d, g, L, _, 900000000 - 1000 * j - 2, rfl, mL, gL, by show 0 < 3; decide, by show 3 ≤ 1000; decide, D6.less (by omega), fun i x H7 hx k7 D7 => ?_⟩
      obtain ⟨hp, hs, rfl, hH⟩ := hos i x hx
      have hH7 := hH.keep k7 D6
      have m7 := k7 _ _ m6 (D6.tup m6).1 (D6.tup m6).2
      have t7 := TabS.kd t6 k7 D6
      clear hos mp1 mp2 mp3 mL g1 g2 g3 gL n2 n3 nL s36 m6 t6 hH k7 D6 D5 D4 m3 t3 k3 D3 m4 s4 h2 h3 hL hx
      try dsimp only
      refine seq_asg ?_
      refine ⟨_, rfl, _, rfl, d, g, hp, hs, 900000000 - 1000 * j - 50, rfl, hH7, D7.less (by omega), fun dv r H9 okA c3 _ k9 D9 hA hdv => ?_⟩
      have t9 := TabS.kd t7 k9 D7
      have m9 := k9 _ _ m7 (D7.tup m7).1 (D7.tup m7).2
      have av := D7.new hdv
      obtain ⟨hr, hlr, _⟩ := rules27_in hrs
      have hl30 : rs.length ≤ 30 := by omega
      try dsimp only
      refine ⟨_, rfl, _, rfl, _, rfl, d, g, rp, dv, rs, r, 900000000 - 1000 * j - 80, rfl, m9, hr, hl30, hA, okA.ok, c3, av.1, av.2, D9.less (by omega), fun H10 k10 D10 => ⟨true, rfl, ite_n rfl ?_⟩⟩
      have D9' := D9
      have t10 := TabS.kd t9 k10 D9'
      have m10 := k10 _ _ m9 (D9'.tup m9).1 (D9'.tup m9).2
      have hA10 := hA.keepD k10 D9' av.1 av.2
      refine ⟨_, rfl, _, rfl, rp, dv, rs, r, rfl, m10, hrs, hA10, okA, fun H11 s11 => ⟨true, rfl, ite_n rfl ?_⟩⟩
      have t11 := TabS.same t10 s11
      have m11 := s11 _ _ m10
      have hA11 := hA10.same s11
      have D11 := D10.same s11
      try dsimp only [tNext]
      refine ⟨_, rfl, _, rfl, rp, dv, rs, r, rfl, m11, hrs, hA11, okA, t11, fun H12 e12 t12 => ⟨true, rfl, ite_n rfl ?_⟩⟩
      have m12 := e12 _ _ m11 (fun ps z => by cases z)
      have hA12 := hA11.ext e12
      have D12 := GAt.ext D11 e12
      refine ⟨_, rfl, _, rfl, rp, dv, rs, r, rfl, m12, hrs, hA12, okA, fun H13 s13 => ⟨true, rfl, ite_n rfl ?_⟩⟩
      exact ⟨_, _, _, _, rfl, (D12.same s13).less (by omega), TabS.same t12 s13⟩
    · rintro σ H2 ⟨v2, v3, v4, v5, rfl, D2, t2⟩
      exact hQ H2
end
theorem bd__law_begun : ∀ (kV doc pm : Value) (an : Option Addr) (cdv ct : Value) (us : List Value), us.length = (["script"] : List Str).length → bindArgs (PySem.W.fnOf "_law_begun" "_law_begun" (defArgs s__law_begun) (defBody s__law_begun) (defScope s__law_begun) .none kV doc pm an cdv ct) ⟨us, []⟩ = pure ((["script"] : List Str).zip us) :=
  fun _ _ _ _ _ _ us hl => match us, hl with | [_], _ => rfl
theorem bd__law_next : ∀ (kV doc pm : Value) (an : Option Addr) (cdv ct : Value) (us : List Value), us.length = (["draw", "below"] : List Str).length → bindArgs (PySem.W.fnOf "_law_next" "_law_next" (defArgs s__law_next) (defBody s__law_next) (defScope s__law_next) .none kV doc pm an cdv ct) ⟨us, []⟩ = pure ((["draw", "below"] : List Str).zip us) :=
  fun _ _ _ _ _ _ us hl => match us, hl with | [_, _], _ => rfl
theorem bd__law_pick : ∀ (kV doc pm : Value) (an : Option Addr) (cdv ct : Value) (us : List Value), us.length = (["draw", "some"] : List Str).length → bindArgs (PySem.W.fnOf "_law_pick" "_law_pick" (defArgs s__law_pick) (defBody s__law_pick) (defScope s__law_pick) .none kV doc pm an cdv ct) ⟨us, []⟩ = pure ((["draw", "some"] : List Str).zip us) :=
  fun _ _ _ _ _ _ us hl => match us, hl with | [_, _], _ => rfl
theorem bd__law_rules : ∀ (kV doc pm : Value) (an : Option Addr) (cdv ct : Value) (us : List Value), us.length = (["draw"] : List Str).length → bindArgs (PySem.W.fnOf "_law_rules" "_law_rules" (defArgs s__law_rules) (defBody s__law_rules) (defScope s__law_rules) .none kV doc pm an cdv ct) ⟨us, []⟩ = pure ((["draw"] : List Str).zip us) :=
  fun _ _ _ _ _ _ us hl => match us, hl with | [_], _ => rfl
theorem bd__law_hosts : ∀ (kV doc pm : Value) (an : Option Addr) (cdv ct : Value) (us : List Value), us.length = ([] : List Str).length → bindArgs (PySem.W.fnOf "_law_hosts" "_law_hosts" (defArgs s__law_hosts) (defBody s__law_hosts) (defScope s__law_hosts) .none kV doc pm an cdv ct) ⟨us, []⟩ = pure (([] : List Str).zip us) :=
  fun _ _ _ _ _ _ us hl => match us, hl with | [], _ => rfl
theorem bd__law_address : ∀ (kV doc pm : Value) (an : Option Addr) (cdv ct : Value) (us : List Value), us.length = (["draw", "some"] : List Str).length → bindArgs (PySem.W.fnOf "_law_address" "_law_address" (defArgs s__law_address) (defBody s__law_address) (defScope s__law_address) .none kV doc pm an cdv ct) ⟨us, []⟩ = pure ((["draw", "some"] : List Str).zip us) :=
  fun _ _ _ _ _ _ us hl => match us, hl with | [_, _], _ => rfl
theorem bd__law_ask : ∀ (kV doc pm : Value) (an : Option Addr) (cdv ct : Value) (us : List Value), us.length = (["draw", "some"] : List Str).length → bindArgs (PySem.W.fnOf "_law_ask" "_law_ask" (defArgs s__law_ask) (defBody s__law_ask) (defScope s__law_ask) .none kV doc pm an cdv ct) ⟨us, []⟩ = pure ((["draw", "some"] : List Str).zip us) :=
  fun _ _ _ _ _ _ us hl => match us, hl with | [_, _], _ => rfl
theorem bd_has_only : ∀ (kV doc pm : Value) (an : Option Addr) (cdv ct : Value) (us : List Value), us.length = (["text", "signs"] : List Str).length → bindArgs (PySem.W.fnOf "has_only" "has_only" (defArgs s_has_only) (defBody s_has_only) (defScope s_has_only) .none kV doc pm an cdv ct) ⟨us, []⟩ = pure ((["text", "signs"] : List Str).zip us) :=
  fun _ _ _ _ _ _ us hl => match us, hl with | [_, _], _ => rfl
theorem bd__is_label : ∀ (kV doc pm : Value) (an : Option Addr) (cdv ct : Value) (us : List Value), us.length = (["text"] : List Str).length → bindArgs (PySem.W.fnOf "_is_label" "_is_label" (defArgs s__is_label) (defBody s__is_label) (defScope s__is_label) .none kV doc pm an cdv ct) ⟨us, []⟩ = pure ((["text"] : List Str).zip us) :=
  fun _ _ _ _ _ _ us hl => match us, hl with | [_], _ => rfl
theorem bd_are_labels : ∀ (kV doc pm : Value) (an : Option Addr) (cdv ct : Value) (us : List Value), us.length = (["texts"] : List Str).length → bindArgs (PySem.W.fnOf "are_labels" "are_labels" (defArgs s_are_labels) (defBody s_are_labels) (defScope s_are_labels) .none kV doc pm an cdv ct) ⟨us, []⟩ = pure ((["texts"] : List Str).zip us) :=
  fun _ _ _ _ _ _ us hl => match us, hl with | [_], _ => rfl
theorem bd__is_rule : ∀ (kV doc pm : Value) (an : Option Addr) (cdv ct : Value) (us : List Value), us.length = (["value"] : List Str).length → bindArgs (PySem.W.fnOf "_is_rule" "_is_rule" (defArgs s__is_rule) (defBody s__is_rule) (defScope s__is_rule) .none kV doc pm an cdv ct) ⟨us, []⟩ = pure ((["value"] : List Str).zip us) :=
  fun _ _ _ _ _ _ us hl => match us, hl with | [_], _ => rfl
theorem bd_need_rules : ∀ (kV doc pm : Value) (an : Option Addr) (cdv ct : Value) (us : List Value), us.length = (["rules"] : List Str).length → bindArgs (PySem.W.fnOf "need_rules" "need_rules" (defArgs s_need_rules) (defBody s_need_rules) (defScope s_need_rules) .none kV doc pm an cdv ct) ⟨us, []⟩ = pure ((["rules"] : List Str).zip us) :=
  fun _ _ _ _ _ _ us hl => match us, hl with | [_], _ => rfl
theorem bd_is_digits : ∀ (kV doc pm : Value) (an : Option Addr) (cdv ct : Value) (us : List Value), us.length = (["text"] : List Str).length → bindArgs (PySem.W.fnOf "is_digits" "is_digits" (defArgs s_is_digits) (defBody s_is_digits) (defScope s_is_digits) .none kV doc pm an cdv ct) ⟨us, []⟩ = pure ((["text"] : List Str).zip us) :=
  fun _ _ _ _ _ _ us hl => match us, hl with | [_], _ => rfl
theorem bd__is_number : ∀ (kV doc pm : Value) (an : Option Addr) (cdv ct : Value) (us : List Value), us.length = (["label"] : List Str).length → bindArgs (PySem.W.fnOf "_is_number" "_is_number" (defArgs s__is_number) (defBody s__is_number) (defScope s__is_number) .none kV doc pm an cdv ct) ⟨us, []⟩ = pure ((["label"] : List Str).zip us) :=
  fun _ _ _ _ _ _ us hl => match us, hl with | [_], _ => rfl
theorem bd__are_four_numbers : ∀ (kV doc pm : Value) (an : Option Addr) (cdv ct : Value) (us : List Value), us.length = (["labels"] : List Str).length → bindArgs (PySem.W.fnOf "_are_four_numbers" "_are_four_numbers" (defArgs s__are_four_numbers) (defBody s__are_four_numbers) (defScope s__are_four_numbers) .none kV doc pm an cdv ct) ⟨us, []⟩ = pure ((["labels"] : List Str).zip us) :=
  fun _ _ _ _ _ _ us hl => match us, hl with | [_], _ => rfl
theorem bd_is_host : ∀ (kV doc pm : Value) (an : Option Addr) (cdv ct : Value) (us : List Value), us.length = (["value"] : List Str).length → bindArgs (PySem.W.fnOf "is_host" "is_host" (defArgs s_is_host) (defBody s_is_host) (defScope s_is_host) .none kV doc pm an cdv ct) ⟨us, []⟩ = pure ((["value"] : List Str).zip us) :=
  fun _ _ _ _ _ _ us hl => match us, hl with | [_], _ => rfl
theorem bd__is_scheme : ∀ (kV doc pm : Value) (an : Option Addr) (cdv ct : Value) (us : List Value), us.length = (["value"] : List Str).length → bindArgs (PySem.W.fnOf "_is_scheme" "_is_scheme" (defArgs s__is_scheme) (defBody s__is_scheme) (defScope s__is_scheme) .none kV doc pm an cdv ct) ⟨us, []⟩ = pure ((["value"] : List Str).zip us) :=
  fun _ _ _ _ _ _ us hl => match us, hl with | [_], _ => rfl
theorem bd_is_origin : ∀ (kV doc pm : Value) (an : Option Addr) (cdv ct : Value) (us : List Value), us.length = (["value"] : List Str).length → bindArgs (PySem.W.fnOf "is_origin" "is_origin" (defArgs s_is_origin) (defBody s_is_origin) (defScope s_is_origin) .none kV doc pm an cdv ct) ⟨us, []⟩ = pure ((["value"] : List Str).zip us) :=
  fun _ _ _ _ _ _ us hl => match us, hl with | [_], _ => rfl
theorem bd_is_safe : ∀ (kV doc pm : Value) (an : Option Addr) (cdv ct : Value) (us : List Value), us.length = (["origin"] : List Str).length → bindArgs (PySem.W.fnOf "is_safe" "is_safe" (defArgs s_is_safe) (defBody s_is_safe) (defScope s_is_safe) .none kV doc pm an cdv ct) ⟨us, []⟩ = pure ((["origin"] : List Str).zip us) :=
  fun _ _ _ _ _ _ us hl => match us, hl with | [_], _ => rfl
theorem bd__is_path_sign : ∀ (kV doc pm : Value) (an : Option Addr) (cdv ct : Value) (us : List Value), us.length = (["sign"] : List Str).length → bindArgs (PySem.W.fnOf "_is_path_sign" "_is_path_sign" (defArgs s__is_path_sign) (defBody s__is_path_sign) (defScope s__is_path_sign) .none kV doc pm an cdv ct) ⟨us, []⟩ = pure ((["sign"] : List Str).zip us) :=
  fun _ _ _ _ _ _ us hl => match us, hl with | [_], _ => rfl
theorem bd_is_path : ∀ (kV doc pm : Value) (an : Option Addr) (cdv ct : Value) (us : List Value), us.length = (["value"] : List Str).length → bindArgs (PySem.W.fnOf "is_path" "is_path" (defArgs s_is_path) (defBody s_is_path) (defScope s_is_path) .none kV doc pm an cdv ct) ⟨us, []⟩ = pure ((["value"] : List Str).zip us) :=
  fun _ _ _ _ _ _ us hl => match us, hl with | [_], _ => rfl
theorem bd_is_address : ∀ (kV doc pm : Value) (an : Option Addr) (cdv ct : Value) (us : List Value), us.length = (["value"] : List Str).length → bindArgs (PySem.W.fnOf "is_address" "is_address" (defArgs s_is_address) (defBody s_is_address) (defScope s_is_address) .none kV doc pm an cdv ct) ⟨us, []⟩ = pure ((["value"] : List Str).zip us) :=
  fun _ _ _ _ _ _ us hl => match us, hl with | [_], _ => rfl
theorem bd__need_address : ∀ (kV doc pm : Value) (an : Option Addr) (cdv ct : Value) (us : List Value), us.length = (["address"] : List Str).length → bindArgs (PySem.W.fnOf "_need_address" "_need_address" (defArgs s__need_address) (defBody s__need_address) (defScope s__need_address) .none kV doc pm an cdv ct) ⟨us, []⟩ = pure ((["address"] : List Str).zip us) :=
  fun _ _ _ _ _ _ us hl => match us, hl with | [_], _ => rfl
theorem bd_origin_of : ∀ (kV doc pm : Value) (an : Option Addr) (cdv ct : Value) (us : List Value), us.length = (["address"] : List Str).length → bindArgs (PySem.W.fnOf "origin_of" "origin_of" (defArgs s_origin_of) (defBody s_origin_of) (defScope s_origin_of) .none kV doc pm an cdv ct) ⟨us, []⟩ = pure ((["address"] : List Str).zip us) :=
  fun _ _ _ _ _ _ us hl => match us, hl with | [_], _ => rfl
theorem bd__places : ∀ (kV doc pm : Value) (an : Option Addr) (cdv ct : Value) (us : List Value), us.length = (["request"] : List Str).length → bindArgs (PySem.W.fnOf "_places" "_places" (defArgs s__places) (defBody s__places) (defScope s__places) .none kV doc pm an cdv ct) ⟨us, []⟩ = pure ((["request"] : List Str).zip us) :=
  fun _ _ _ _ _ _ us hl => match us, hl with | [_], _ => rfl
theorem bd_is_address_host : ∀ (kV doc pm : Value) (an : Option Addr) (cdv ct : Value) (us : List Value), us.length = (["value"] : List Str).length → bindArgs (PySem.W.fnOf "is_address_host" "is_address_host" (defArgs s_is_address_host) (defBody s_is_address_host) (defScope s_is_address_host) .none kV doc pm an cdv ct) ⟨us, []⟩ = pure ((["value"] : List Str).zip us) :=
  fun _ _ _ _ _ _ us hl => match us, hl with | [_], _ => rfl
theorem bd__last_labels : ∀ (kV doc pm : Value) (an : Option Addr) (cdv ct : Value) (us : List Value), us.length = (["host", "many"] : List Str).length → bindArgs (PySem.W.fnOf "_last_labels" "_last_labels" (defArgs s__last_labels) (defBody s__last_labels) (defScope s__last_labels) .none kV doc pm an cdv ct) ⟨us, []⟩ = pure ((["host", "many"] : List Str).zip us) :=
  fun _ _ _ _ _ _ us hl => match us, hl with | [_, _], _ => rfl
theorem bd__size : ∀ (kV doc pm : Value) (an : Option Addr) (cdv ct : Value) (us : List Value), us.length = (["text"] : List Str).length → bindArgs (PySem.W.fnOf "_size" "_size" (defArgs s__size) (defBody s__size) (defScope s__size) .none kV doc pm an cdv ct) ⟨us, []⟩ = pure ((["text"] : List Str).zip us) :=
  fun _ _ _ _ _ _ us hl => match us, hl with | [_], _ => rfl
theorem bd__matches : ∀ (kV doc pm : Value) (an : Option Addr) (cdv ct : Value) (us : List Value), us.length = (["pattern", "host"] : List Str).length → bindArgs (PySem.W.fnOf "_matches" "_matches" (defArgs s__matches) (defBody s__matches) (defScope s__matches) .none kV doc pm an cdv ct) ⟨us, []⟩ = pure ((["pattern", "host"] : List Str).zip us) :=
  fun _ _ _ _ _ _ us hl => match us, hl with | [_, _], _ => rfl
theorem bd__suffix_size : ∀ (kV doc pm : Value) (an : Option Addr) (cdv ct : Value) (us : List Value), us.length = (["rules", "host"] : List Str).length → bindArgs (PySem.W.fnOf "_suffix_size" "_suffix_size" (defArgs s__suffix_size) (defBody s__suffix_size) (defScope s__suffix_size) .none kV doc pm an cdv ct) ⟨us, []⟩ = pure ((["rules", "host"] : List Str).zip us) :=
  fun _ _ _ _ _ _ us hl => match us, hl with | [_, _], _ => rfl
theorem bd_known_suffix : ∀ (kV doc pm : Value) (an : Option Addr) (cdv ct : Value) (us : List Value), us.length = (["rules", "host"] : List Str).length → bindArgs (PySem.W.fnOf "known_suffix" "known_suffix" (defArgs s_known_suffix) (defBody s_known_suffix) (defScope s_known_suffix) .none kV doc pm an cdv ct) ⟨us, []⟩ = pure ((["rules", "host"] : List Str).zip us) :=
  fun _ _ _ _ _ _ us hl => match us, hl with | [_, _], _ => rfl
theorem bd_known_family : ∀ (kV doc pm : Value) (an : Option Addr) (cdv ct : Value) (us : List Value), us.length = (["rules", "host"] : List Str).length → bindArgs (PySem.W.fnOf "known_family" "known_family" (defArgs s_known_family) (defBody s_known_family) (defScope s_known_family) .none kV doc pm an cdv ct) ⟨us, []⟩ = pure ((["rules", "host"] : List Str).zip us) :=
  fun _ _ _ _ _ _ us hl => match us, hl with | [_, _], _ => rfl
theorem bd__site : ∀ (kV doc pm : Value) (an : Option Addr) (cdv ct : Value) (us : List Value), us.length = (["rules", "place"] : List Str).length → bindArgs (PySem.W.fnOf "_site" "_site" (defArgs s__site) (defBody s__site) (defScope s__site) .none kV doc pm an cdv ct) ⟨us, []⟩ = pure ((["rules", "place"] : List Str).zip us) :=
  fun _ _ _ _ _ _ us hl => match us, hl with | [_, _], _ => rfl
theorem bd_Traits__init : ∀ (kV doc pm : Value) (an : Option Addr) (cdv ct : Value) (us : List Value), us.length = (["self", "rules", "request"] : List Str).length → bindArgs (PySem.W.fnOf "__init__" "Traits.__init__" (defArgs s_Traits__init) (defBody s_Traits__init) (defScope s_Traits__init) .none kV doc pm an cdv ct) ⟨us, []⟩ = pure ((["self", "rules", "request"] : List Str).zip us) :=
  fun _ _ _ _ _ _ us hl => match us, hl with | [_, _, _], _ => rfl
theorem bd_need_request : ∀ (kV doc pm : Value) (an : Option Addr) (cdv ct : Value) (us : List Value), us.length = (["value"] : List Str).length → bindArgs (PySem.W.fnOf "need_request" "need_request" (defArgs s_need_request) (defBody s_need_request) (defScope s_need_request) .none kV doc pm an cdv ct) ⟨us, []⟩ = pure ((["value"] : List Str).zip us) :=
  fun _ _ _ _ _ _ us hl => match us, hl with | [_], _ => rfl
theorem bd__checked_traits : ∀ (kV doc pm : Value) (an : Option Addr) (cdv ct : Value) (us : List Value), us.length = (["rules", "request"] : List Str).length → bindArgs (PySem.W.fnOf "_checked_traits" "_checked_traits" (defArgs s__checked_traits) (defBody s__checked_traits) (defScope s__checked_traits) .none kV doc pm an cdv ct) ⟨us, []⟩ = pure ((["rules", "request"] : List Str).zip us) :=
  fun _ _ _ _ _ _ us hl => match us, hl with | [_, _], _ => rfl
theorem bd_near : ∀ (kV doc pm : Value) (an : Option Addr) (cdv ct : Value) (us : List Value), us.length = (["rules", "request"] : List Str).length → bindArgs (PySem.W.fnOf "near" "near" (defArgs s_near) (defBody s_near) (defScope s_near) .none kV doc pm an cdv ct) ⟨us, []⟩ = pure ((["rules", "request"] : List Str).zip us) :=
  fun _ _ _ _ _ _ us hl => match us, hl with | [_, _], _ => rfl
theorem bd_lax : ∀ (kV doc pm : Value) (an : Option Addr) (cdv ct : Value) (us : List Value), us.length = (["rules", "request"] : List Str).length → bindArgs (PySem.W.fnOf "lax" "lax" (defArgs s_lax) (defBody s_lax) (defScope s_lax) .none kV doc pm an cdv ct) ⟨us, []⟩ = pure ((["rules", "request"] : List Str).zip us) :=
  fun _ _ _ _ _ _ us hl => match us, hl with | [_, _], _ => rfl
theorem bd_partition_of : ∀ (kV doc pm : Value) (an : Option Addr) (cdv ct : Value) (us : List Value), us.length = (["rules", "request"] : List Str).length → bindArgs (PySem.W.fnOf "partition_of" "partition_of" (defArgs s_partition_of) (defBody s_partition_of) (defScope s_partition_of) .none kV doc pm an cdv ct) ⟨us, []⟩ = pure ((["rules", "request"] : List Str).zip us) :=
  fun _ _ _ _ _ _ us hl => match us, hl with | [_, _], _ => rfl
theorem bd__need : ∀ (kV doc pm : Value) (an : Option Addr) (cdv ct : Value) (us : List Value), us.length = (["field", "is_right"] : List Str).length → bindArgs (PySem.W.fnOf "_need" "_need" (defArgs s__need) (defBody s__need) (defScope s__need) .none kV doc pm an cdv ct) ⟨us, []⟩ = pure ((["field", "is_right"] : List Str).zip us) :=
  fun _ _ _ _ _ _ us hl => match us, hl with | [_, _], _ => rfl
theorem bd__are_addresses : ∀ (kV doc pm : Value) (an : Option Addr) (cdv ct : Value) (us : List Value), us.length = (["value"] : List Str).length → bindArgs (PySem.W.fnOf "_are_addresses" "_are_addresses" (defArgs s__are_addresses) (defBody s__are_addresses) (defScope s__are_addresses) .none kV doc pm an cdv ct) ⟨us, []⟩ = pure ((["value"] : List Str).zip us) :=
  fun _ _ _ _ _ _ us hl => match us, hl with | [_], _ => rfl
theorem bd__are_frames : ∀ (kV doc pm : Value) (an : Option Addr) (cdv ct : Value) (us : List Value), us.length = (["value"] : List Str).length → bindArgs (PySem.W.fnOf "_are_frames" "_are_frames" (defArgs s__are_frames) (defBody s__are_frames) (defScope s__are_frames) .none kV doc pm an cdv ct) ⟨us, []⟩ = pure ((["value"] : List Str).zip us) :=
  fun _ _ _ _ _ _ us hl => match us, hl with | [_], _ => rfl
abbrev kw_Request__init (q_frames : Addr) : List (Str × V) := [("starter", .non), ("frames", (.ref q_frames)), ("is_reading", (.bl true)), ("by", (.str "http"))]
theorem bk_Request__init (q_frames : Addr) : ∀ (kV doc pm : Value) (an : Option Addr) (cdv ct : Value) (us ws : List Value), us.length = 2 → ws.length = (kw_Request__init q_frames).length → bindArgs (PySem.W.fnOf "__init__" "Request.__init__" (defArgs s_Request__init) (defBody s_Request__init) (defScope s_Request__init) .none kV doc pm an cdv ct) ⟨us, ((kw_Request__init q_frames).map (·.1)).zip ws⟩ = pure ((["self", "addresses", "starter", "frames", "is_reading", "by"] : List Str).zip (us ++ ws)) :=
  fun _ _ _ _ _ _ us ws h1 h2 => match us, ws, h1, h2 with | [_, _], [_, _, _, _], _, _ => rfl
theorem b0_Request__init (q_frames : Addr) : ∀ (D : Addr) (doc pm : Value) (an : Option Addr) (cdv ct : Value) (us mv : List Value), us.length = 2 → mv.length = (kw_Request__init q_frames).length → KwChain D (((kw_Request__init q_frames).map (·.1)).zip mv) (bindArgs (PySem.W.fnOf "__init__" "Request.__init__" (defArgs s_Request__init) (defBody s_Request__init) (defScope s_Request__init) .none (.ref D) doc pm an cdv ct) ⟨us, []⟩) ((["self", "addresses", "starter", "frames", "is_reading", "by"] : List Str).zip (us ++ mv)) :=
  fun _ _ _ _ _ _ us mv h1 h2 => match us, mv, h1, h2 with | [_, _], [_, _, _, _], _, _ => ⟨_, _, _, _, _, _, rfl, rfl, ⟨_, _, _, _, _, _, rfl, rfl, ⟨_, _, _, _, _, _, rfl, rfl, ⟨_, _, _, _, _, _, rfl, rfl, rfl⟩⟩⟩⟩
theorem bd__law_asked : ∀ (kV doc pm : Value) (an : Option Addr) (cdv ct : Value) (us : List Value), us.length = (["v"] : List Str).length → bindArgs (PySem.W.fnOf "_law_asked" "_law_asked" (defArgs s__law_asked) (defBody s__law_asked) (defScope s__law_asked) .none kV doc pm an cdv ct) ⟨us, []⟩ = pure ((["v"] : List Str).zip us) :=
  fun _ _ _ _ _ _ us hl => match us, hl with | [_], _ => rfl
theorem bd__law_told : ∀ (kV doc pm : Value) (an : Option Addr) (cdv ct : Value) (us : List Value), us.length = (["rules", "v"] : List Str).length → bindArgs (PySem.W.fnOf "_law_told" "_law_told" (defArgs s__law_told) (defBody s__law_told) (defScope s__law_told) .none kV doc pm an cdv ct) ⟨us, []⟩ = pure ((["rules", "v"] : List Str).zip us) :=
  fun _ _ _ _ _ _ us hl => match us, hl with | [_, _], _ => rfl
theorem bd__law_with : ∀ (kV doc pm : Value) (an : Option Addr) (cdv ct : Value) (us : List Value), us.length = (["v", "changes"] : List Str).length → bindArgs (PySem.W.fnOf "_law_with" "_law_with" (defArgs s__law_with) (defBody s__law_with) (defScope s__law_with) .none kV doc pm an cdv ct) ⟨us, []⟩ = pure ((["v", "changes"] : List Str).zip us) :=
  fun _ _ _ _ _ _ us hl => match us, hl with | [_, _], _ => rfl
theorem bd__law_turned : ∀ (kV doc pm : Value) (an : Option Addr) (cdv ct : Value) (us : List Value), us.length = (["draw", "some"] : List Str).length → bindArgs (PySem.W.fnOf "_law_turned" "_law_turned" (defArgs s__law_turned) (defBody s__law_turned) (defScope s__law_turned) .none kV doc pm an cdv ct) ⟨us, []⟩ = pure ((["draw", "some"] : List Str).zip us) :=
  fun _ _ _ _ _ _ us hl => match us, hl with | [_, _], _ => rfl
theorem bd__law_chains_right : ∀ (kV doc pm : Value) (an : Option Addr) (cdv ct : Value) (us : List Value), us.length = (["draw", "rules", "v"] : List Str).length → bindArgs (PySem.W.fnOf "_law_chains_right" "_law_chains_right" (defArgs s__law_chains_right) (defBody s__law_chains_right) (defScope s__law_chains_right) .none kV doc pm an cdv ct) ⟨us, []⟩ = pure ((["draw", "rules", "v"] : List Str).zip us) :=
  fun _ _ _ _ _ _ us hl => match us, hl with | [_, _, _], _ => rfl
theorem bd__law_is_numbers : ∀ (kV doc pm : Value) (an : Option Addr) (cdv ct : Value) (us : List Value), us.length = (["host"] : List Str).length → bindArgs (PySem.W.fnOf "_law_is_numbers" "_law_is_numbers" (defArgs s__law_is_numbers) (defBody s__law_is_numbers) (defScope s__law_is_numbers) .none kV doc pm an cdv ct) ⟨us, []⟩ = pure ((["host"] : List Str).zip us) :=
  fun _ _ _ _ _ _ us hl => match us, hl with | [_], _ => rfl
theorem bd__law_suffix : ∀ (kV doc pm : Value) (an : Option Addr) (cdv ct : Value) (us : List Value), us.length = (["rules", "host"] : List Str).length → bindArgs (PySem.W.fnOf "_law_suffix" "_law_suffix" (defArgs s__law_suffix) (defBody s__law_suffix) (defScope s__law_suffix) .none kV doc pm an cdv ct) ⟨us, []⟩ = pure ((["rules", "host"] : List Str).zip us) :=
  fun _ _ _ _ _ _ us hl => match us, hl with | [_, _], _ => rfl
theorem bd__law_family : ∀ (kV doc pm : Value) (an : Option Addr) (cdv ct : Value) (us : List Value), us.length = (["rules", "host"] : List Str).length → bindArgs (PySem.W.fnOf "_law_family" "_law_family" (defArgs s__law_family) (defBody s__law_family) (defScope s__law_family) .none kV doc pm an cdv ct) ⟨us, []⟩ = pure ((["rules", "host"] : List Str).zip us) :=
  fun _ _ _ _ _ _ us hl => match us, hl with | [_, _], _ => rfl
theorem bd__law_site : ∀ (kV doc pm : Value) (an : Option Addr) (cdv ct : Value) (us : List Value), us.length = (["rules", "origin"] : List Str).length → bindArgs (PySem.W.fnOf "_law_site" "_law_site" (defArgs s__law_site) (defBody s__law_site) (defScope s__law_site) .none kV doc pm an cdv ct) ⟨us, []⟩ = pure ((["rules", "origin"] : List Str).zip us) :=
  fun _ _ _ _ _ _ us hl => match us, hl with | [_, _], _ => rfl
theorem bd__law_near_right : ∀ (kV doc pm : Value) (an : Option Addr) (cdv ct : Value) (us : List Value), us.length = (["rules", "v"] : List Str).length → bindArgs (PySem.W.fnOf "_law_near_right" "_law_near_right" (defArgs s__law_near_right) (defBody s__law_near_right) (defScope s__law_near_right) .none kV doc pm an cdv ct) ⟨us, []⟩ = pure ((["rules", "v"] : List Str).zip us) :=
  fun _ _ _ _ _ _ us hl => match us, hl with | [_, _], _ => rfl
theorem bd__law_moved : ∀ (kV doc pm : Value) (an : Option Addr) (cdv ct : Value) (us : List Value), us.length = (["v", "change"] : List Str).length → bindArgs (PySem.W.fnOf "_law_moved" "_law_moved" (defArgs s__law_moved) (defBody s__law_moved) (defScope s__law_moved) .none kV doc pm an cdv ct) ⟨us, []⟩ = pure ((["v", "change"] : List Str).zip us) :=
  fun _ _ _ _ _ _ us hl => match us, hl with | [_, _], _ => rfl
theorem bd__law_other_scheme : ∀ (kV doc pm : Value) (an : Option Addr) (cdv ct : Value) (us : List Value), us.length = (["origin"] : List Str).length → bindArgs (PySem.W.fnOf "_law_other_scheme" "_law_other_scheme" (defArgs s__law_other_scheme) (defBody s__law_other_scheme) (defScope s__law_other_scheme) .none kV doc pm an cdv ct) ⟨us, []⟩ = pure ((["origin"] : List Str).zip us) :=
  fun _ _ _ _ _ _ us hl => match us, hl with | [_], _ => rfl
theorem bd__law_moves_right : ∀ (kV doc pm : Value) (an : Option Addr) (cdv ct : Value) (us : List Value), us.length = (["rules", "v"] : List Str).length → bindArgs (PySem.W.fnOf "_law_moves_right" "_law_moves_right" (defArgs s__law_moves_right) (defBody s__law_moves_right) (defScope s__law_moves_right) .none kV doc pm an cdv ct) ⟨us, []⟩ = pure ((["rules", "v"] : List Str).zip us) :=
  fun _ _ _ _ _ _ us hl => match us, hl with | [_, _], _ => rfl
theorem bd__law_frames_right : ∀ (kV doc pm : Value) (an : Option Addr) (cdv ct : Value) (us : List Value), us.length = (["rules", "v"] : List Str).length → bindArgs (PySem.W.fnOf "_law_frames_right" "_law_frames_right" (defArgs s__law_frames_right) (defBody s__law_frames_right) (defScope s__law_frames_right) .none kV doc pm an cdv ct) ⟨us, []⟩ = pure ((["rules", "v"] : List Str).zip us) :=
  fun _ _ _ _ _ _ us hl => match us, hl with | [_, _], _ => rfl
theorem bd_law : ∀ (kV doc pm : Value) (an : Option Addr) (cdv ct : Value) (us : List Value), us.length = (["script"] : List Str).length → bindArgs (PySem.W.fnOf "law" "law" (defArgs s_law) (defBody s_law) (defScope s_law) .none kV doc pm an cdv ct) ⟨us, []⟩ = pure ((["script"] : List Str).zip us) :=
  fun _ _ _ _ _ _ us hl => match us, hl with | [_], _ => rfl
def defPos : Stmt → Pos
  | .FunctionDef _ _ _ _ _ _ _ _ _ pos => pos
  | _ => ⟨0, 0, 0, 0⟩
theorem fin_mk {l : PySem.W.OpenLaw} {w : World} {K : PySem.W.Frag} {mg : Str → Option Value} {fa c Tb : Addr} (hfa : mg "law" = some (.ref fa)) (D0 : Df K mg "law" s_law ["script"]) (D : DfC K mg "_law_moves_right" s__law_moves_right ["rules", "v"] c Tb) (nT : K.lookup Tb = none) (T : Txt K mg) :
    ∃ (fd : FuncData) (c Tb : Addr), PySem.W.tabIn K "_law_moves_right" = some (c, Tb) ∧ K.lookup Tb = none ∧ (∀ (s : Shared) (v : Value), BindsTo s fd ⟨[v], []⟩ [("script", v)]) ∧ ∀ base : Heap, K.In base → base.Ns PySem.mainGlobals mg → LamX.TabB base mg c Tb → FnG l.prog w K mg base CX0 18 fa fd ["script"] (sp_law K Tb) := by
  obtain ⟨f, fd, F, m, b⟩ := D0
  cases hfa.symm.trans m
  have tb : PySem.W.tabIn K "_law_moves_right" = some (c, Tb) := by obtain ⟨_, _, _, _, _, tb, _⟩ := D; exact tb
  exact ⟨fd, c, Tb, tb, nT, fun s v => .of_eq (b [v] rfl), fun base _ _ TB => ok_law F D TB T⟩
theorem walk {l : PySem.W.OpenLaw} {q : Program} {loose : List Str} {XP : (Str → Option Value) → Heap → Prop} {YP : World → Heap → Prop} {d dx : DefRec} {K : Params → PySem.W.Frag} (hn : l.most = some 63) (hdf : d.params.defaults = []) (hdx : dx.name = "_law_moves_right") (hrec : (recsOf q).find? (fun e => e.name == dx.name) = some dx)
    (hY : ∀ (w : World) (h : Heap), YP w h → (K w.params).In h)
    (F : ∀ (w : World) (mg : Str → Option Value) (fa : Addr) (h : Heap), (K w.params).In h → h.Ns PySem.mainGlobals mg → mg d.name = some (.ref fa) →
      ∃ (fd : FuncData) (c Tb : Addr), PySem.W.tabIn (K w.params) "_law_moves_right" = some (c, Tb) ∧ (K w.params).lookup Tb = none ∧ (∀ (s : Shared) (u : Value), BindsTo s fd ⟨[u], []⟩ [("script", u)]) ∧ ∀ base : Heap, (K w.params).In base → base.Ns PySem.mainGlobals mg → LamX.TabB base mg c Tb → FnG l.prog w (K w.params) mg base CX0 18 fa fd ["script"] (sp_law (K w.params) Tb)) :
    PySem.W.WalkO q loose XP YP l.row.toRowW d [] (fun f vs => PySem.call f vs) :=
  Kb.walkGTx (n := 63) (k := 18) (dx := dx) (x := "script") (CX := fun _ => CX0) (sp := fun w Tb => sp_law (K w.params) Tb) hn (by decide) hdf ⟨rfl, by decide, by decide⟩ hY hrec (fun w mg fa h a b c => by rw [hdx]; exact F w mg fa h a b c) (fun _ _ a Tb ns hl hT hS => ⟨a, ns, rfl, hS, hl, LamX.TabS.nil hT, fun _ => rfl⟩) fun _ _ _ _ _ z => z
end Pf
open PySem PySem.W PyProof.Rows
set_option maxRecDepth 100000 in
set_option maxHeartbeats 0 in
theorem PySem.Challenge.cw_crumbjar_k28_whole_requests_and_sites_holds : PySem.Challenge.rw_crumbjar_k28_whole_requests_and_sites.Holds := by
  w_on; o_law; k_head; (case hw => w_witness2)
  k_fill
  refine Pf.walk (l := PySem.Challenge.rw_crumbjar_k28_whole_requests_and_sites) (dx := ⟨"_law_moves_right", L2.defArgs Pf.s__law_moves_right, L2.defBody Pf.s__law_moves_right, L2.defScope Pf.s__law_moves_right, Pf.defPos Pf.s__law_moves_right⟩) rfl rfl (by rfl) (by rfl) (fun w h Y => PySem.W.km_in_of Y) ?F
  case F =>
    intro w mg fa h KX G hmg
    refine' Pf.fin_mk hmg (Kb.Df.mk KX G Pf.bd_law ?a57 ?l57 ?c57 ?k57) (Kb.DfC.mk KX G Pf.bd__law_moves_right ?aM ?lM ?cM ?kM ?lcT ?h11T) ?nTT ⟨(PySem.W.mg_none_of KX G ?z0),
      (PySem.W.mg_none_of KX G ?z1),
      (PySem.W.mg_none_of KX G ?z2),
      (PySem.W.mg_none_of KX G ?z3),
      (PySem.W.mg_none_of KX G ?z4),
      (PySem.W.mg_none_of KX G ?z5),
      (PySem.W.mg_none_of KX G ?z6),
      (PySem.W.mg_none_of KX G ?z7),
      (PySem.W.mg_none_of KX G ?z8),
      (PySem.W.mg_none_of KX G ?z9),
      (PySem.W.mg_none_of KX G ?z10),
      (PySem.W.mg_none_of KX G ?z11),
      (PySem.W.mg_none_of KX G ?z12),
      (PySem.W.mg_none_of KX G ?z13),
      (PySem.W.mg_none_of KX G ?z14),
      ⟨_, PySem.W.mg_of KX G ?x0, ?r0⟩,
      ⟨_, PySem.W.mg_of KX G ?x1, ?r1⟩,
      ⟨_, PySem.W.mg_of KX G ?x2, ?r2⟩,
      ⟨_, PySem.W.mg_of KX G ?x3, ?r3⟩,
      ⟨_, PySem.W.mg_of KX G ?x4, ?r4⟩,
      ⟨_, PySem.W.mg_of KX G ?x5, ?r5⟩,
      ⟨_, PySem.W.mg_of KX G ?x6, Kb.sqT_of_lookup ?y6 ?u6 ?v6⟩,
      ⟨_, PySem.W.mg_of KX G ?x7, ?r7⟩,
      ⟨_, PySem.W.mg_of KX G ?x8, ?r8⟩,
      ⟨_, PySem.W.mg_of KX G ?x9, ?r9⟩,
      ⟨_, PySem.W.mg_of KX G ?x10, ?r10⟩,
      ⟨_, PySem.W.mg_of KX G ?x11, ?r11⟩,
      ⟨_, PySem.W.mg_of KX G ?x12, ?r12⟩,
      ⟨_, PySem.W.mg_of KX G ?x13, ?r13⟩,
      ⟨_, PySem.W.mg_of KX G ?x14, ?r14⟩,
      ⟨_, PySem.W.mg_of KX G ?x15, ?r15⟩,
      ⟨_, PySem.W.mg_of KX G ?x16, ?r16⟩,
      ⟨_, Kb.Err.mk' KX G Pf.bi_BadRequest (fun P w base F => Pf.oki_BadRequest P w base F) ?aC0E ?xL0E ?rv0E ?sa0E ?ga0E ?gg0E ?nb0E ?a10E ?t10E ?l10E ?c10E ?k10E ?kC0E ?eC0E ?tC0E ?hC0E ?iC0E ?sC0E⟩,
      ⟨_, Kb.Err.mk' KX G Pf.bi_BadRules (fun P w base F => Pf.oki_BadRules P w base F) ?aC1E ?xL1E ?rv1E ?sa1E ?ga1E ?gg1E ?nb1E ?a11E ?t11E ?l11E ?c11E ?k11E ?kC1E ?eC1E ?tC1E ?hC1E ?iC1E ?sC1E⟩,
      (Kb.OwnC.ex KX G ?oa0O ?ob0O ?oc0O ?od0O ?oe0O ?of0O ?og0O ?oh0O ?oi0O ?oj0O ?ok0O ?oty0O ?oic0O ⟨?on0_0O, ⟨?on0_1O, ⟨?on0_2O, ⟨?on0_3O, ⟨?on0_4O, ⟨?on0_5O, True.intro⟩⟩⟩⟩⟩⟩),
      (Kb.OwnC.ex KX G ?oa1O ?ob1O ?oc1O ?od1O ?oe1O ?of1O ?og1O ?oh1O ?oi1O ?oj1O ?ok1O ?oty1O ?oic1O ⟨?on1_0O, ⟨?on1_1O, ⟨?on1_2O, ⟨?on1_3O, ⟨?on1_4O, ⟨?on1_5O, ⟨?on1_6O, ⟨?on1_7O, ⟨?on1_8O, True.intro⟩⟩⟩⟩⟩⟩⟩⟩⟩),
      (Kb.Df.mk KX G Pf.bd__law_begun ?a0 ?l0 ?c0 ?k0),
      (Kb.Df.mk KX G Pf.bd__law_next ?a1 ?l1 ?c1 ?k1),
      (Kb.Df.mk KX G Pf.bd__law_pick ?a2 ?l2 ?c2 ?k2),
      (Kb.Df.mk KX G Pf.bd__law_rules ?a3 ?l3 ?c3 ?k3),
      (Kb.Df.mk KX G Pf.bd__law_hosts ?a4 ?l4 ?c4 ?k4),
      (Kb.Df.mk KX G Pf.bd__law_address ?a5 ?l5 ?c5 ?k5),
      (Kb.Df.mk KX G Pf.bd__law_ask ?a6 ?l6 ?c6 ?k6),
      (Kb.Df.mk KX G Pf.bd_has_only ?a7 ?l7 ?c7 ?k7),
      (Kb.Df.mk KX G Pf.bd__is_label ?a8 ?l8 ?c8 ?k8),
      (Kb.Df.mk KX G Pf.bd_are_labels ?a9 ?l9 ?c9 ?k9),
      (Kb.Df.mk KX G Pf.bd__is_rule ?a10 ?l10 ?c10 ?k10),
      (Kb.Df.mk KX G Pf.bd_need_rules ?a11 ?l11 ?c11 ?k11),
      (Kb.Df.mk KX G Pf.bd_is_digits ?a12 ?l12 ?c12 ?k12),
      (Kb.Df.mk KX G Pf.bd__is_number ?a13 ?l13 ?c13 ?k13),
      (Kb.Df.mk KX G Pf.bd__are_four_numbers ?a14 ?l14 ?c14 ?k14),
      (Kb.Df.mk KX G Pf.bd_is_host ?a15 ?l15 ?c15 ?k15),
      (Kb.Df.mk KX G Pf.bd__is_scheme ?a16 ?l16 ?c16 ?k16),
      (Kb.Df.mk KX G Pf.bd_is_origin ?a17 ?l17 ?c17 ?k17),
      (Kb.Df.mk KX G Pf.bd_is_safe ?a18 ?l18 ?c18 ?k18),
      (Kb.Df.mk KX G Pf.bd__is_path_sign ?a19 ?l19 ?c19 ?k19),
      (Kb.Df.mk KX G Pf.bd_is_path ?a20 ?l20 ?c20 ?k20),
      (Kb.Df.mk KX G Pf.bd_is_address ?a21 ?l21 ?c21 ?k21),
      (Kb.Df.mk KX G Pf.bd__need_address ?a22 ?l22 ?c22 ?k22),
      (Kb.Df.mk KX G Pf.bd_origin_of ?a23 ?l23 ?c23 ?k23),
      (Kb.Df.mk KX G Pf.bd__places ?a24 ?l24 ?c24 ?k24),
      (Kb.Df.mk KX G Pf.bd_is_address_host ?a25 ?l25 ?c25 ?k25),
      (Kb.Df.mk KX G Pf.bd__last_labels ?a26 ?l26 ?c26 ?k26),
      (Kb.Df.mk KX G Pf.bd__size ?a27 ?l27 ?c27 ?k27),
      (Kb.Df.mk KX G Pf.bd__matches ?a28 ?l28 ?c28 ?k28),
      (Kb.Df.mk KX G Pf.bd__suffix_size ?a29 ?l29 ?c29 ?k29),
      (Kb.Df.mk KX G Pf.bd_known_suffix ?a30 ?l30 ?c30 ?k30),
      (Kb.Df.mk KX G Pf.bd_known_family ?a31 ?l31 ?c31 ?k31),
      (Kb.Df.mk KX G Pf.bd__site ?a32 ?l32 ?c32 ?k32),
      (Kb.MthT.mk KX G Pf.bd_Traits__init ?a33 ?mi33 ?mn33 ?l33 ?c33 ?k33),
      (Kb.Df.mk KX G Pf.bd_need_request ?a34 ?l34 ?c34 ?k34),
      (Kb.Df.mk KX G Pf.bd__checked_traits ?a35 ?l35 ?c35 ?k35),
      (Kb.Df.mk KX G Pf.bd_near ?a36 ?l36 ?c36 ?k36),
      (Kb.Df.mk KX G Pf.bd_lax ?a37 ?l37 ?c37 ?k37),
      (Kb.Df.mk KX G Pf.bd_partition_of ?a38 ?l38 ?c38 ?k38),
      (Kb.Df.mk KX G Pf.bd__need ?a39 ?l39 ?c39 ?k39),
      (Kb.Df.mk KX G Pf.bd__are_addresses ?a40 ?l40 ?c40 ?k40),
      (Kb.Df.mk KX G Pf.bd__are_frames ?a41 ?l41 ?c41 ?k41),
      (Kb.MthQ.mk (Kb.MthK.mk KX G (List.cons_ne_nil _ _) (Pf.bk_Request__init _) (Pf.b0_Request__init _) ?a42 ?mi42 ?mn42 ?l42 ?c42 ?k42 (Kb.KwAll.cons ?kw42_0 ?kr42_0 (Kb.KwAll.cons ?kw42_1 ?kr42_1 (Kb.KwAll.cons ?kw42_2 ?kr42_2 (Kb.KwAll.cons ?kw42_3 ?kr42_3 True.intro))))) rfl),
      (Kb.Df.mk KX G Pf.bd__law_asked ?a43 ?l43 ?c43 ?k43),
      (Kb.Df.mk KX G Pf.bd__law_told ?a44 ?l44 ?c44 ?k44),
      (Kb.Df.mk KX G Pf.bd__law_with ?a45 ?l45 ?c45 ?k45),
      (Kb.Df.mk KX G Pf.bd__law_turned ?a46 ?l46 ?c46 ?k46),
      (Kb.Df.mk KX G Pf.bd__law_chains_right ?a47 ?l47 ?c47 ?k47),
      (Kb.Df.mk KX G Pf.bd__law_is_numbers ?a48 ?l48 ?c48 ?k48),
      (Kb.Df.mk KX G Pf.bd__law_suffix ?a49 ?l49 ?c49 ?k49),
      (Kb.Df.mk KX G Pf.bd__law_family ?a50 ?l50 ?c50 ?k50),
      (Kb.Df.mk KX G Pf.bd__law_site ?a51 ?l51 ?c51 ?k51),
      (Kb.Df.mk KX G Pf.bd__law_near_right ?a52 ?l52 ?c52 ?k52),
      (Kb.Df.mk KX G Pf.bd__law_moved ?a53 ?l53 ?c53 ?k53),
      (Kb.Df.mk KX G Pf.bd__law_other_scheme ?a54 ?l54 ?c54 ?k54),
      (Kb.Df.mk KX G Pf.bd__law_moves_right ?a55 ?l55 ?c55 ?k55),
      (Kb.Df.mk KX G Pf.bd__law_frames_right ?a56 ?l56 ?c56 ?k56)⟩
    (case z0 => k_is)
    (case z1 => k_is)
    (case z2 => k_is)
    (case z3 => k_is)
    (case z4 => k_is)
    (case z5 => k_is)
    (case z6 => k_is)
    (case z7 => k_is)
    (case z8 => k_is)
    (case z9 => k_is)
    (case z10 => k_is)
    (case z11 => k_is)
    (case z12 => k_is)
    (case z13 => k_is)
    (case z14 => k_is)
    (case x0 => k_is)
    (case r0 => first | exact ⟨_, rfl⟩ | rfl)
    (case x1 => k_is)
    (case r1 => first | exact ⟨_, rfl⟩ | rfl)
    (case x2 => k_is)
    (case r2 => first | exact ⟨_, rfl⟩ | rfl)
    (case x3 => k_is)
    (case r3 => first | exact ⟨_, rfl⟩ | rfl)
    (case x4 => k_is)
    (case r4 => first | exact ⟨_, rfl⟩ | rfl)
    (case x5 => k_is)
    (case r5 => first | exact ⟨_, rfl⟩ | rfl)
    (case x6 => k_is)
    (case y6 => k_is)
    (case u6 => show _ ≤ _; decide)
    (case v6 => exact .cons ⟨_, rfl⟩ (.cons ⟨_, rfl⟩ (.nil)))
    (case x7 => k_is)
    (case r7 => first | exact ⟨_, rfl⟩ | rfl)
    (case x8 => k_is)
    (case r8 => first | exact ⟨_, rfl⟩ | rfl)
    (case x9 => k_is)
    (case r9 => first | exact ⟨_, rfl⟩ | rfl)
    (case x10 => k_is)
    (case r10 => first | exact ⟨_, rfl⟩ | rfl)
    (case x11 => k_is)
    (case r11 => first | exact ⟨_, rfl⟩ | rfl)
    (case x12 => k_is)
    (case r12 => first | exact ⟨_, rfl⟩ | rfl)
    (case x13 => k_is)
    (case r13 => first | exact ⟨_, rfl⟩ | rfl)
    (case x14 => k_is)
    (case r14 => first | exact ⟨_, rfl⟩ | rfl)
    (case x15 => k_is)
    (case r15 => first | exact ⟨_, rfl⟩ | rfl)
    (case x16 => k_is)
    (case r16 => first | exact ⟨_, rfl⟩ | rfl)
    (case aC0E => k_is)
    (case xL0E => k_is)
    (case rv0E => first | decide +kernel | rfl)
    (case sa0E => k_is)
    (case ga0E => k_is)
    (case gg0E => k_is)
    (case nb0E => k_is)
    (case a10E => k_is)
    (case t10E => k_is)
    (case l10E => k_is)
    (case c10E => k_is)
    (case k10E => k_is)
    (case kC0E => k_is)
    (case eC0E => k_is)
    (case tC0E => k_is)
    (case hC0E => k_is)
    (case iC0E => k_is)
    (case sC0E => first | rfl | k_is)
    (case aC1E => k_is)
    (case xL1E => k_is)
    (case rv1E => first | decide +kernel | rfl)
    (case sa1E => k_is)
    (case ga1E => k_is)
    (case gg1E => k_is)
    (case nb1E => k_is)
    (case a11E => k_is)
    (case t11E => k_is)
    (case l11E => k_is)
    (case c11E => k_is)
    (case k11E => k_is)
    (case kC1E => k_is)
    (case eC1E => k_is)
    (case tC1E => k_is)
    (case hC1E => k_is)
    (case iC1E => k_is)
    (case sC1E => first | rfl | k_is)
    (case oa0O => k_is)
    (case ob0O => k_is)
    (case oc0O => k_is)
    (case od0O => k_is)
    (case oe0O => k_is)
    (case of0O => k_is)
    (case og0O => k_is)
    (case oh0O => k_is)
    (case oi0O => k_is)
    (case oj0O => k_is)
    (case ok0O => k_is)
    (case oty0O => k_is)
    (case oic0O => k_is)
    (case on0_0O => (show PySem.W.findIn _ _ _ = some none); k_is)
    (case on0_1O => (show PySem.W.findIn _ _ _ = some none); k_is)
    (case on0_2O => (show PySem.W.findIn _ _ _ = some none); k_is)
    (case on0_3O => (show PySem.W.findIn _ _ _ = some none); k_is)
    (case on0_4O => (show PySem.W.findIn _ _ _ = some none); k_is)
    (case on0_5O => (show PySem.W.findIn _ _ _ = some none); k_is)
    (case oa1O => k_is)
    (case ob1O => k_is)
    (case oc1O => k_is)
    (case od1O => k_is)
    (case oe1O => k_is)
    (case of1O => k_is)
    (case og1O => k_is)
    (case oh1O => k_is)
    (case oi1O => k_is)
    (case oj1O => k_is)
    (case ok1O => k_is)
    (case oty1O => k_is)
    (case oic1O => k_is)
    (case on1_0O => (show PySem.W.findIn _ _ _ = some none); k_is)
    (case on1_1O => (show PySem.W.findIn _ _ _ = some none); k_is)
    (case on1_2O => (show PySem.W.findIn _ _ _ = some none); k_is)
    (case on1_3O => (show PySem.W.findIn _ _ _ = some none); k_is)
    (case on1_4O => (show PySem.W.findIn _ _ _ = some none); k_is)
    (case on1_5O => (show PySem.W.findIn _ _ _ = some none); k_is)
    (case on1_6O => (show PySem.W.findIn _ _ _ = some none); k_is)
    (case on1_7O => (show PySem.W.findIn _ _ _ = some none); k_is)
    (case on1_8O => (show PySem.W.findIn _ _ _ = some none); k_is)
    (case a0 => k_is)
    (case l0 => k_is)
    (case c0 => k_is)
    (case k0 => k_is)
    (case a1 => k_is)
    (case l1 => k_is)
    (case c1 => k_is)
    (case k1 => k_is)
    (case a2 => k_is)
    (case l2 => k_is)
    (case c2 => k_is)
    (case k2 => k_is)
    (case a3 => k_is)
    (case l3 => k_is)
    (case c3 => k_is)
    (case k3 => k_is)
    (case a4 => k_is)
    (case l4 => k_is)
    (case c4 => k_is)
    (case k4 => k_is)
    (case a5 => k_is)
    (case l5 => k_is)
    (case c5 => k_is)
    (case k5 => k_is)
    (case a6 => k_is)
    (case l6 => k_is)
    (case c6 => k_is)
    (case k6 => k_is)
    (case a7 => k_is)
    (case l7 => k_is)
    (case c7 => k_is)
    (case k7 => k_is)
    (case a8 => k_is)
    (case l8 => k_is)
    (case c8 => k_is)
    (case k8 => k_is)
    (case a9 => k_is)
    (case l9 => k_is)
    (case c9 => k_is)
    (case k9 => k_is)
    (case a10 => k_is)
    (case l10 => k_is)
    (case c10 => k_is)
    (case k10 => k_is)
    (case a11 => k_is)
    (case l11 => k_is)
    (case c11 => k_is)
    (case k11 => k_is)
    (case a12 => k_is)
    (case l12 => k_is)
    (case c12 => k_is)
    (case k12 => k_is)
    (case a13 => k_is)
    (case l13 => k_is)
    (case c13 => k_is)
    (case k13 => k_is)
    (case a14 => k_is)
    (case l14 => k_is)
    (case c14 => k_is)
    (case k14 => k_is)
    (case a15 => k_is)
    (case l15 => k_is)
    (case c15 => k_is)
    (case k15 => k_is)
    (case a16 => k_is)
    (case l16 => k_is)
    (case c16 => k_is)
    (case k16 => k_is)
    (case a17 => k_is)
    (case l17 => k_is)
    (case c17 => k_is)
    (case k17 => k_is)
    (case a18 => k_is)
    (case l18 => k_is)
    (case c18 => k_is)
    (case k18 => k_is)
    (case a19 => k_is)
    (case l19 => k_is)
    (case c19 => k_is)
    (case k19 => k_is)
    (case a20 => k_is)
    (case l20 => k_is)
    (case c20 => k_is)
    (case k20 => k_is)
    (case a21 => k_is)
    (case l21 => k_is)
    (case c21 => k_is)
    (case k21 => k_is)
    (case a22 => k_is)
    (case l22 => k_is)
    (case c22 => k_is)
    (case k22 => k_is)
    (case a23 => k_is)
    (case l23 => k_is)
    (case c23 => k_is)
    (case k23 => k_is)
    (case a24 => k_is)
    (case l24 => k_is)
    (case c24 => k_is)
    (case k24 => k_is)
    (case a25 => k_is)
    (case l25 => k_is)
    (case c25 => k_is)
    (case k25 => k_is)
    (case a26 => k_is)
    (case l26 => k_is)
    (case c26 => k_is)
    (case k26 => k_is)
    (case a27 => k_is)
    (case l27 => k_is)
    (case c27 => k_is)
    (case k27 => k_is)
    (case a28 => k_is)
    (case l28 => k_is)
    (case c28 => k_is)
    (case k28 => k_is)
    (case a29 => k_is)
    (case l29 => k_is)
    (case c29 => k_is)
    (case k29 => k_is)
    (case a30 => k_is)
    (case l30 => k_is)
    (case c30 => k_is)
    (case k30 => k_is)
    (case a31 => k_is)
    (case l31 => k_is)
    (case c31 => k_is)
    (case k31 => k_is)
    (case a32 => k_is)
    (case l32 => k_is)
    (case c32 => k_is)
    (case k32 => k_is)
    (case a33 => k_is)
    (case mi33 => k_is)
    (case mn33 => k_is)
    (case l33 => k_is)
    (case c33 => k_is)
    (case k33 => k_is)
    (case a34 => k_is)
    (case l34 => k_is)
    (case c34 => k_is)
    (case k34 => k_is)
    (case a35 => k_is)
    (case l35 => k_is)
    (case c35 => k_is)
    (case k35 => k_is)
    (case a36 => k_is)
    (case l36 => k_is)
    (case c36 => k_is)
    (case k36 => k_is)
    (case a37 => k_is)
    (case l37 => k_is)
    (case c37 => k_is)
    (case k37 => k_is)
    (case a38 => k_is)
    (case l38 => k_is)
    (case c38 => k_is)
    (case k38 => k_is)
    (case a39 => k_is)
    (case l39 => k_is)
    (case c39 => k_is)
    (case k39 => k_is)
    (case a40 => k_is)
    (case l40 => k_is)
    (case c40 => k_is)
    (case k40 => k_is)
    (case a41 => k_is)
    (case l41 => k_is)
    (case c41 => k_is)
    (case k41 => k_is)
    (case a42 => k_is)
    (case mi42 => k_is)
    (case mn42 => k_is)
    (case l42 => k_is)
    (case c42 => k_is)
    (case k42 => k_is)
    (case kw42_0 => k_is)
    (case kr42_0 => first | exact ⟨_, rfl⟩ | rfl)
    (case kw42_1 => k_is)
    (case kr42_1 => first | exact ⟨_, rfl⟩ | rfl)
    (case kw42_2 => k_is)
    (case kr42_2 => first | exact ⟨_, rfl⟩ | rfl)
    (case kw42_3 => k_is)
    (case kr42_3 => first | exact ⟨_, rfl⟩ | rfl)
    (case a43 => k_is)
    (case l43 => k_is)
    (case c43 => k_is)
    (case k43 => k_is)
    (case a44 => k_is)
    (case l44 => k_is)
    (case c44 => k_is)
    (case k44 => k_is)
    (case a45 => k_is)
    (case l45 => k_is)
    (case c45 => k_is)
    (case k45 => k_is)
    (case a46 => k_is)
    (case l46 => k_is)
    (case c46 => k_is)
    (case k46 => k_is)
    (case a47 => k_is)
    (case l47 => k_is)
    (case c47 => k_is)
    (case k47 => k_is)
    (case a48 => k_is)
    (case l48 => k_is)
    (case c48 => k_is)
    (case k48 => k_is)
    (case a49 => k_is)
    (case l49 => k_is)
    (case c49 => k_is)
    (case k49 => k_is)
    (case a50 => k_is)
    (case l50 => k_is)
    (case c50 => k_is)
    (case k50 => k_is)
    (case a51 => k_is)
    (case l51 => k_is)
    (case c51 => k_is)
    (case k51 => k_is)
    (case a52 => k_is)
    (case l52 => k_is)
    (case c52 => k_is)
    (case k52 => k_is)
    (case a53 => k_is)
    (case l53 => k_is)
    (case c53 => k_is)
    (case k53 => k_is)
    (case a54 => k_is)
    (case l54 => k_is)
    (case c54 => k_is)
    (case k54 => k_is)
    (case a55 => k_is)
    (case l55 => k_is)
    (case c55 => k_is)
    (case k55 => k_is)
    (case a56 => k_is)
    (case l56 => k_is)
    (case c56 => k_is)
    (case k56 => k_is)
    (case a57 => k_is)
    (case l57 => k_is)
    (case c57 => k_is)
    (case k57 => k_is)
    (case aM => k_is)
    (case lM => k_is)
    (case cM => k_is)
    (case kM => k_is)
    (case lcT => k_is)
    (case h11T => rfl)
    (case nTT => rfl)
#print axioms PySem.Challenge.cw_crumbjar_k28_whole_requests_and_sites_holds
