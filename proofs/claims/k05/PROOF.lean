import PyProof.Rows.All
import Wide.All
import OpenK.AllK
import Wide.FinOn
import HandS.Base
import HandS.Call
import HandS.List
import HandS.Comp
import HandS.Ends
import HandS.Dict
import HandS.Iter
import HandS.Text
import HandS.Words
import PyProof.Rows.StrNews2
import PyProof.StrLawsLast
import HandS.Wide
import HandS.Walk
import HandS.IsInst
import HandS.Style
import KE.IntTextLaws
import HandS.StrMore
import HandS.TupMul
import HandS.TupAny
import PyProof.Rows.StrFirst
import PyProof.Rows.RegReprOcc
import KE.GoesEnum
import HandS.Exc
import HandS.ExcOwn
import HandS.ExcInit
import HandS.ExcField
import HandS.WordsExc
import PyProof.ReprReads
import PyProof.ReprRoads
import KE.KxStill
import PyProof.Rows.StrCase
import PyProof.StrLawsRepr
import PyProof.Rows.StrJoinMade
import HandS.TryMany
import KE.KDflt
import HandS.Lambda
import HandS.EndTab
import HandS.EndOwn
import HandS.Codes
import HandS.Flow
import HandS.Evl
import PySem.Challenge.RW_crumbjar_k05_rules_checked
set_option Elab.async false
set_option linter.all false
set_option maxRecDepth 100000
set_option maxHeartbeats 4000000
namespace Kb
open PySem PySem.Spec PyProof.Rows L2
/-! ### a def of the text, a def that may be called -/
def Df (K : PySem.W.Frag) (mg : Str → Option Value) (x : Str) (st : Stmt) (ps : List Str) : Prop :=
  ∃ (f : Addr) (fd : FuncData), Fun K x x st f fd ∧ mg x = some (.ref f) ∧ ∀ us : List Value, us.length = ps.length → bindArgs fd ⟨us, []⟩ = pure (ps.zip us)
theorem Df.mk {K : PySem.W.Frag} {mg : Str → Option Value} {h : Heap} {x : Str} {st : Stmt} {ps : List Str} {f : Addr} {oc : Value} {od an : Option Addr} {sl : Array (Option Value)} {kV doc pm cd ct : Value} (X : K.In h) (G : h.Ns PySem.mainGlobals mg)
    (b : ∀ (kV doc pm : Value) (an : Option Addr) (cdv ct : Value) (us : List Value), us.length = ps.length → bindArgs (PySem.W.fnOf x x (defArgs st) (defBody st) (defScope st) .none kV doc pm an cdv ct) ⟨us, []⟩ = pure (ps.zip us))
    (a : PySem.W.nsIn K PySem.mainGlobals x = some (some (.ref f)))
    (l : K.lookup f = some ⟨oc, od, .func (PySem.W.fnOf x x (defArgs st) (defBody st) (defScope st) .none kV doc pm an cd ct), sl⟩)
    (c : PySem.W.codeIn K cd x = true) (k : PySem.W.keepIn K (.ref f) = true) : Df K mg x st ps :=
  ⟨f, _, fun_mk l c k, PySem.W.mg_of X G a, b kV doc pm an cd ct⟩
def Cal (P : Program) (w : World) (K : PySem.W.Frag) (mg : Str → Option Value) (base : Heap) (CX : CXT) (k : Nat) (x : Str) (ps : List Str) (sp : Sp) : Prop :=
  ∃ (f : Addr) (fd : FuncData), FnOk P w K mg base CX k f fd ps sp ∧ mg x = some (.ref f) ∧ PySem.W.keepIn K (.ref f) = true ∧ Binds K fd ps []
section
variable {P : Program} {w : World} {K : PySem.W.Frag} {mg : Str → Option Value} {base : Heap}
theorem Df.ok0 {x : Str} {st : Stmt} {N ps : List Str} {k : Nat} {sp : Sp} (D : Df K mg x st ps) (S : FnScope N ps (defScope st)) (len : ∀ vs H Q E, sp vs H Q E → vs.length = ps.length)
    (hbody : ∀ (f : Addr) (cdv : Value) (A : Around) (outer : List Env) (s : Shared) (H : Hp) (vs : List V) (Q : VK) (E : XK), Room k (A.deeper (envOfC x (defScope st) s.heap.objs.size f cdv)) → sp vs H Q E →
      ∃ t, PSs (cxOf CX0 P w K mg base N x (defScope st) f cdv A outer s H E).nox (defBody st) t ∧ t { nx := fun _ H' => Q .non H', rt := Q } (start N vs) H) : Cal P w K mg base CX0 (k + 1) x ps sp := by
  obtain ⟨f, fd, F, m, b⟩ := D
  exact ⟨f, fd, F.ok S len (hbody f), m, F.kp, .all b⟩
end
theorem pe_c {X : Cx} {CX : CXT} {j k : Nat} {x : Str} {ps : List Str} {sp : Sp} {E : XK} {p pos : Pos} {e : Expr} {es : List Expr} {t : TA} (c : Cal X.prog X.w X.K X.mg X.base CX j x ps sp) (hr : Room k X.A) (hjk : j ≤ k) (hg : Gl X x) (hx : Passes CX X E)
    (ha : PA X (e :: es) t) (hdb : (x == ("__debug__" : Str)) = false := by decide) (he : starEach (e :: es) X.env = (false, eval e X.env) :: starEach es X.env := by rfl) (hpl : (backTo pos (starEach es X.env)).any (·.1) = false := by rfl) :
    PE X (.Call (.Name x p) (e :: es) [] pos) (tCall sp [] E t) := by
  obtain ⟨f, fd, F, m, kp, b⟩ := c
  exact pe_call F (hr.mono hjk) hg m kp b .nil hx ha hdb he hpl
end Kb

namespace Kb
open PySem PySem.Spec PyProof.Rows L2 TL PySem.StrLaws Builtin.Str
/-! ### lists of signs: parts between one sign -/
def sp1 (c : Nat) : List Nat → List (List Nat)
  | [] => [[]]
  | x :: l => if x = c then [] :: sp1 c l else match sp1 c l with
    | [] => [[x]]
    | h :: t => (x :: h) :: t
theorem sp1_ne (c : Nat) : ∀ l, sp1 c l ≠ []
  | [] => by simp [sp1]
  | x :: l => by
    unfold sp1
    split
    · simp
    · cases h : sp1 c l <;> simp
theorem sp1_hit (c : Nat) (l : List Nat) : sp1 c (c :: l) = [] :: sp1 c l := by simp [sp1]
theorem sp1_miss {c x : Nat} (h : x ≠ c) {l p : List Nat} {r : List (List Nat)} (e : sp1 c l = p :: r) : sp1 c (x :: l) = (x :: p) :: r := by
  simp only [sp1, if_neg h, e]
theorem sp1_cons (c : Nat) (l : List Nat) : ∃ p r, sp1 c l = p :: r := by
  cases h : sp1 c l with
  | nil => exact absurd h (sp1_ne c l)
  | cons p r => exact ⟨p, r, rfl⟩
theorem spl_sp1 (c : Nat) : ∀ (l acc : List Nat) (p : List Nat) (r : List (List Nat)), sp1 c l = p :: r → spl [c] 0 acc l = (acc ++ p) :: r
  | [], acc, p, r, h => by
    simp only [sp1, List.cons.injEq] at h
    obtain ⟨rfl, rfl⟩ := h
    simp [spl_nil]
  | x :: l, acc, p, r, h => by
    obtain ⟨q, s, e⟩ := sp1_cons c l
    by_cases hx : x = c
    · subst hx
      rw [sp1_hit] at h
      simp only [List.cons.injEq] at h
      obtain ⟨rfl, rfl⟩ := h
      rw [spl_hit (by simp [pre])]
      rw [show [x].length - 1 = 0 from rfl, spl_sp1 x l [] q s e, e]
      simp
    · rw [sp1_miss hx e] at h
      simp only [List.cons.injEq] at h
      obtain ⟨rfl, rfl⟩ := h
      rw [spl_miss (by simp [pre, hx]), spl_sp1 c l _ q s e]
      simp
theorem split_sp1 (x : Str) {c : Nat} (hc : c < 256) : (Txt.split x ⟨#[c]⟩).map tl = sp1 c (tl x) := by
  rw [split_spl x ⟨#[c]⟩ (by simp [tl]) (kind_ok (by simp [hc]))]
  obtain ⟨p, r, e⟩ := sp1_cons c (tl x)
  show spl [c] 0 [] (tl x) = _
  rw [spl_sp1 c _ [] p r e, e]
  rfl
theorem joinL_sp1 (c : Nat) : ∀ l, joinL [c] (sp1 c l) = l
  | [] => rfl
  | x :: l => by
    obtain ⟨q, s, e⟩ := sp1_cons c l
    have ih := joinL_sp1 c l
    by_cases hx : x = c
    · subst hx
      rw [sp1_hit, e]
      rw [e] at ih
      show [] ++ ([x] ++ joinL [x] (q :: s)) = _
      rw [ih]; rfl
    · rw [sp1_miss hx e]
      rw [e] at ih
      cases s with
      | nil => exact congrArg (x :: ·) ih
      | cons a b => exact congrArg (x :: ·) ih
theorem sp1_free (c : Nat) : ∀ l, ∀ p ∈ sp1 c l, c ∉ p
  | [], p, h => by simp only [sp1, List.mem_singleton] at h; subst h; simp
  | x :: l, p, h => by
    obtain ⟨q, s, e⟩ := sp1_cons c l
    have ih := sp1_free c l
    by_cases hx : x = c
    · subst hx
      rw [sp1_hit] at h
      rcases List.mem_cons.mp h with rfl | h
      · simp
      · exact ih p h
    · rw [sp1_miss hx e] at h
      rw [e] at ih
      rcases List.mem_cons.mp h with rfl | h
      · intro hm
        rcases List.mem_cons.mp hm with r | r
        · exact hx r.symm
        · exact ih q (List.mem_cons_self ..) r
      · exact ih p (List.mem_cons_of_mem _ h)
theorem sp1_of_free {c : Nat} : ∀ {l : List Nat}, c ∉ l → sp1 c l = [l]
  | [], _ => rfl
  | x :: l, h => by
    have hx : x ≠ c := fun e => h (e ▸ List.mem_cons_self ..)
    rw [sp1_miss hx (sp1_of_free fun m => h (List.mem_cons_of_mem _ m))]
theorem sp1_app (c : Nat) : ∀ (a b : List Nat), sp1 c (a ++ c :: b) = sp1 c a ++ sp1 c b
  | [], b => by rw [List.nil_append, sp1_hit]; rfl
  | x :: a, b => by
    obtain ⟨q, s, e⟩ := sp1_cons c a
    have ih := sp1_app c a b
    rw [e] at ih
    by_cases hx : x = c
    · subst hx
      rw [List.cons_append, sp1_hit, sp1_hit, ih, e]; rfl
    · rw [List.cons_append, sp1_miss hx ih, sp1_miss hx e]; rfl
/-- r and the sign stand at the head exactly if r's parts are the first ones, with one more behind -/
theorem sp1_prefix (c : Nat) : ∀ (r p : List Nat), ((sp1 c r).length < (sp1 c p).length ∧ (sp1 c p).take (sp1 c r).length = sp1 c r) ↔ (r ++ [c]) <+: p
  | [], p => by
    show (1 < _ ∧ List.take 1 _ = [[]]) ↔ [c] <+: p
    cases p with
    | nil => simp [sp1]
    | cons x p =>
      obtain ⟨q, s, e⟩ := sp1_cons c p
      by_cases hx : x = c
      · subst hx
        simp [sp1_hit, e]
      · rw [sp1_miss hx e]
        simp [List.cons_prefix_cons, Ne.symm hx]
  | y :: r, p => by
    obtain ⟨q, s, e⟩ := sp1_cons c r
    cases p with
    | nil =>
      have h1 : 0 < (sp1 c (y :: r)).length := List.length_pos_iff.mpr (sp1_ne c _)
      constructor
      · rintro ⟨h, _⟩
        simp only [sp1, List.length_cons, List.length_nil] at h
        exact absurd h (by have : (sp1 c (y :: r)).length = (sp1 c (y :: r)).length := rfl; simp only [sp1] at h1; omega)
      · intro h; simp at h
    | cons x p =>
      obtain ⟨q', s', e'⟩ := sp1_cons c p
      have ih := sp1_prefix c r p
      rw [List.cons_append, List.cons_prefix_cons]
      by_cases hy : y = c
      · subst hy
        rw [sp1_hit]
        by_cases hx : x = y
        · subst hx
          rw [sp1_hit]
          simp only [List.length_cons, List.take_succ_cons, List.cons.injEq, true_and, Nat.add_lt_add_iff_right]
          exact ih
        · rw [sp1_miss hx e']
          simp [Ne.symm hx]
      · rw [sp1_miss hy e]
        by_cases hx : x = c
        · subst hx
          rw [sp1_hit]
          simp [Ne.symm hy, hy]
        · rw [sp1_miss hx e']
          rw [e, e'] at ih
          simp only [List.length_cons, List.take_succ_cons, List.cons.injEq] at ih ⊢
          constructor
          · rintro ⟨h1, ⟨h2, h3⟩, h4⟩
            exact ⟨h2.symm, ih.mp ⟨h1, h3, h4⟩⟩
          · rintro ⟨h2, h⟩
            obtain ⟨h1, h3, h4⟩ := ih.mpr h
            exact ⟨h1, ⟨h2.symm, h3⟩, h4⟩
/-- the last part -/
theorem last_cut {c : Nat} : ∀ {l : List Nat}, c ∈ l → ∃ a b, l = a ++ c :: b ∧ c ∉ b
  | [], h => by cases h
  | x :: l, h => by
    by_cases hm : c ∈ l
    · obtain ⟨a, b, e, hb⟩ := last_cut hm
      exact ⟨x :: a, b, by rw [e]; rfl, hb⟩
    · have hx : c = x := by
        rcases List.mem_cons.mp h with e | e
        · exact e
        · exact absurd e hm
      exact ⟨[], l, by rw [hx]; rfl, hm⟩
/-! ### the model's words as list functions -/
theorem startswith_tl (x y : Str) : Txt.startswith x y = (tl y).isPrefixOf (tl x) := by
  unfold Txt.startswith
  rw [subAt_eq, List.drop_zero, len_tl, len_tl, Nat.zero_add]
  rw [Bool.eq_iff_iff]
  simp only [Bool.and_eq_true, decide_eq_true_eq, beq_iff_eq, List.isPrefixOf_iff_prefix]
  constructor
  · rintro ⟨_, h⟩
    have h : List.take (tl y).length (tl x) = tl y := h
    exact h ▸ List.take_prefix _ _
  · intro h
    exact ⟨h.length_le, (List.prefix_iff_eq_take.mp h).symm⟩
theorem endswith_tl (x y : Str) : Txt.endswith x y = (tl y).isSuffixOf (tl x) := by
  unfold Txt.endswith
  rw [subAt_eq, len_tl, len_tl, Nat.zero_add]
  rw [Bool.eq_iff_iff]
  simp only [Bool.and_eq_true, decide_eq_true_eq, beq_iff_eq, List.isSuffixOf_iff_suffix]
  constructor
  · rintro ⟨h1, h⟩
    have h : List.take (tl y).length (List.drop ((tl x).length - (tl y).length) (tl x)) = tl y := h
    rw [List.take_of_length_le (by rw [List.length_drop]; omega)] at h
    exact h ▸ List.drop_suffix _ _
  · intro h
    have hl := h.length_le
    refine ⟨hl, ?_⟩
    show List.take (tl y).length (List.drop ((tl x).length - (tl y).length) (tl x)) = tl y
    rw [List.take_of_length_le (by rw [List.length_drop]; omega)]
    exact (List.suffix_iff_eq_drop.mp h).symm
theorem rpartition_hit {x : Str} {c : Nat} {a b : List Nat} (e : tl x = a ++ c :: b) (hb : c ∉ b) : tl (Txt.rpartition x ⟨#[c]⟩).1 = a := by
  have hy : tl (⟨#[c]⟩ : Str) ≠ [] := by simp [tl]
  have at' : ∀ i, At x ⟨#[c]⟩ x.length i ↔ (tl x)[i]? = some c := fun i => by
    rw [at_iff hy]
    show (((tl x).drop i).take 1 == [c]) = true ↔ _
    exact take1_drop
  have hit : At x ⟨#[c]⟩ x.length a.length := (at' _).mpr (by rw [e]; simp)
  unfold Txt.rpartition
  rcases last_spec x ⟨#[c]⟩ with ⟨e1, h⟩ | ⟨i, e1, h1, h2⟩
  · exact absurd hit (h _)
  · rw [e1]
    show tl (strSub x 0 i) = a
    have hi : i = a.length := by
      rcases Nat.lt_trichotomy i a.length with q | q | q
      · exact absurd hit (h2 _ q)
      · exact q
      · have g := (at' i).mp h1
        rw [e, List.getElem?_append_right (by omega)] at g
        obtain ⟨k, hk⟩ : ∃ k, i - a.length = k + 1 := ⟨i - a.length - 1, by omega⟩
        rw [hk, List.getElem?_cons_succ] at g
        exact absurd (List.mem_of_getElem? g) hb
    rw [tl_strSub, hi, e]
    simp
theorem tl_S (l : List Nat) : tl ⟨l.toArray⟩ = l := rfl
theorem str_eq_iff {x y : Str} : x = y ↔ tl x = tl y := ⟨fun e => by rw [e], ext_tl⟩
end Kb
namespace Kb
open PySem PySem.Spec PyProof.Rows L2 TL PySem.StrLaws Builtin.Str
theorem cutS_to (z : Str) {i : Int} (h : 0 ≤ i) : tl (cutS z none (some i)) = (tl z).take i.toNat := by
  obtain ⟨k, rfl⟩ : ∃ k : Nat, i = (k : Int) := ⟨i.toNat, by omega⟩
  show ((tl z).drop (HT.sIx z.length 0 none)).take (HT.sIx z.length z.length (some (k : Int)) - HT.sIx z.length 0 none) = _
  rw [HT.sIx_none, HT.sIx_nat, List.drop_zero, Nat.sub_zero, Int.toNat_natCast, len_tl, ← List.take_take, List.take_of_length_le (Nat.le_refl _)]
end Kb
namespace Kb
open PySem PySem.Spec PyProof.Rows L2 TL PySem.StrLaws Builtin.Str
theorem cutV_to (xs : List V) {i : Int} (h : 0 ≤ i) : cutV xs none (some i) = xs.take i.toNat := by
  obtain ⟨k, rfl⟩ : ∃ k : Nat, i = (k : Int) := ⟨i.toNat, by omega⟩
  show (xs.drop (HT.sIx xs.length 0 none)).take (HT.sIx xs.length xs.length (some (k : Int)) - HT.sIx xs.length 0 none) = _
  rw [HT.sIx_none, HT.sIx_nat, List.drop_zero, Nat.sub_zero, Int.toNat_natCast, ← List.take_take, List.take_of_length_le (Nat.le_refl _)]
theorem cutV_m1 (xs : List V) : cutV xs none (some (-1)) = xs.dropLast := by
  show (xs.drop (HT.sIx xs.length 0 none)).take (HT.sIx xs.length xs.length (some (-1)) - HT.sIx xs.length 0 none) = _
  rw [HT.sIx_none, List.drop_zero, Nat.sub_zero, List.dropLast_eq_take]
  have e : HT.sIx xs.length xs.length (some (-1)) = xs.length - 1 := by
    show (if (-1 : Int) < 0 then ((-1 : Int) + (xs.length : Int)).toNat else min (-1 : Int).toNat xs.length) = _
    rw [if_pos (by decide)]
    omega
  rw [e]
theorem sp1_mem {c s : Nat} : ∀ {l p : List Nat}, p ∈ sp1 c l → s ∈ p → s ∈ l
  | [], p, h, hs => by simp only [sp1, List.mem_singleton] at h; subst h; exact hs
  | x :: l, p, h, hs => by
    obtain ⟨q, r, e⟩ := sp1_cons c l
    have ih := fun p => sp1_mem (c := c) (s := s) (l := l) (p := p)
    by_cases hx : x = c
    · subst hx
      rw [sp1_hit] at h
      rcases List.mem_cons.mp h with rfl | h
      · cases hs
      · exact List.mem_cons_of_mem _ (ih p h hs)
    · rw [sp1_miss hx e] at h
      rw [e] at ih
      rcases List.mem_cons.mp h with rfl | h
      · rcases List.mem_cons.mp hs with rfl | hs
        · exact List.mem_cons_self ..
        · exact List.mem_cons_of_mem _ (ih q (List.mem_cons_self ..) hs)
      · exact List.mem_cons_of_mem _ (ih p (List.mem_cons_of_mem _ h) hs)
theorem split_mem {x p : Str} {c : Nat} (hc : c < 256) (h : p ∈ Txt.split x ⟨#[c]⟩) : ∀ s ∈ tl p, s ∈ tl x := fun s hs =>
  sp1_mem (c := c) (by rw [← split_sp1 x hc]; exact List.mem_map.mpr ⟨p, h, rfl⟩) hs
theorem split_strOk {x : Str} {c : Nat} (hc : c < 256) (hx : ∀ s ∈ tl x, s < 1114112) : ∀ p ∈ Txt.split x ⟨#[c]⟩, PyData.canLay0 (.str p) = true := fun p hp => by
  rw [PyData.canLay0]
  show p.cps.all _ = true
  rw [Array.all_eq_true_iff_forall_mem]
  intro s hs
  exact decide_eq_true (hx s (split_mem hc hp s (Array.mem_toList_iff.mpr hs)))
theorem prefix_snoc {q p : List Nat} {c : Nat} : (q ++ [c]) <+: p ↔ q <+: p ∧ p[q.length]? = some c := by
  constructor
  · rintro ⟨r, e⟩
    refine ⟨⟨c :: r, by rw [← e]; simp⟩, ?_⟩
    rw [← e]; simp
  · rintro ⟨⟨r, e⟩, h⟩
    rw [← e, List.getElem?_append_right (Nat.le_refl _), Nat.sub_self] at h
    cases r with
    | nil => cases h
    | cons a r =>
      cases h
      exact ⟨r, by rw [← e]; simp⟩
theorem snoc_of_ne {l : List Nat} (h : l ≠ []) : ∃ r c, l = r ++ [c] := ⟨l.dropLast, l.getLast h, (List.dropLast_concat_getLast h).symm⟩
theorem sp1_length {c : Nat} : ∀ l : List Nat, (sp1 c l).length ≤ l.length + 1
  | [] => by simp [sp1]
  | x :: l => by
    obtain ⟨q, r, e⟩ := sp1_cons c l
    have ih := sp1_length (c := c) l
    by_cases hx : x = c
    · subst hx; rw [sp1_hit]; simp; omega
    · rw [sp1_miss hx e]; rw [e] at ih; simp at ih ⊢; omega
theorem split_length (x : Str) {c : Nat} (hc : c < 256) : (Txt.split x ⟨#[c]⟩).length ≤ x.length + 1 := by
  have := sp1_length (c := c) (tl x)
  rw [← split_sp1 x hc, List.length_map] at this
  rw [len_tl]; exact this
end Kb
namespace Kb
open PySem PySem.Spec PyProof.Rows L2 TL PySem.StrLaws Builtin.Str
theorem sp1_mem_len {c : Nat} : ∀ {l p : List Nat}, p ∈ sp1 c l → p.length ≤ l.length
  | [], p, h => by simp only [sp1, List.mem_singleton] at h; subst h; simp
  | x :: l, p, h => by
    obtain ⟨q, r, e⟩ := sp1_cons c l
    have ih := fun p => sp1_mem_len (c := c) (l := l) (p := p)
    by_cases hx : x = c
    · subst hx
      rw [sp1_hit] at h
      rcases List.mem_cons.mp h with rfl | h
      · simp
      · have := ih p h; simp; omega
    · rw [sp1_miss hx e] at h
      rw [e] at ih
      rcases List.mem_cons.mp h with rfl | h
      · have := ih q (List.mem_cons_self ..); simp; omega
      · have := ih p (List.mem_cons_of_mem _ h); simp; omega
theorem split_mem_len {x p : Str} {c : Nat} (hc : c < 256) (h : p ∈ Txt.split x ⟨#[c]⟩) : p.length ≤ x.length := by
  rw [len_tl, len_tl]
  exact sp1_mem_len (c := c) (by rw [← split_sp1 x hc]; exact List.mem_map.mpr ⟨p, h, rfl⟩)
theorem joinL_nil {c : Nat} : ∀ {L : List (List Nat)}, joinL [c] L = [] → L = [] ∨ L = [[]]
  | [], _ => .inl rfl
  | [p], h => .inr (by rw [show p = [] from h])
  | p :: q :: r, h => by
    have : p ++ ([c] ++ joinL [c] (q :: r)) = [] := h
    simp at this
theorem join_tl (y : Str) (parts : List Str) : tl (Txt.join y parts) = joinL (tl y) (parts.map tl) := by rw [join_eq, tl_join]
end Kb
namespace Kb
open PySem PySem.Spec PyProof.Rows L2 TL PySem.StrLaws Builtin.Str
theorem cutV_from (xs : List V) {i : Int} (h : 0 ≤ i) : cutV xs (some i) none = xs.drop i.toNat := by
  obtain ⟨k, rfl⟩ : ∃ k : Nat, i = (k : Int) := ⟨i.toNat, by omega⟩
  show (xs.drop (HT.sIx xs.length 0 (some (k : Int)))).take (HT.sIx xs.length xs.length none - HT.sIx xs.length 0 (some (k : Int))) = _
  rw [HT.sIx_none, HT.sIx_nat, Int.toNat_natCast]
  rcases Nat.le_total k xs.length with q | q
  · rw [Nat.min_eq_left q, List.take_of_length_le (by rw [List.length_drop]; omega)]
  · rw [Nat.min_eq_right q, List.drop_length, List.drop_eq_nil_of_le q, List.take_nil]
end Kb

namespace Kb
open PySem PySem.Spec PyProof.Rows L2
section
variable {X : Cx}
theorem pe_gc {x : Str} {pos : Pos} {v : V} (hg : Gl X x) (h : ∃ u, X.mg x = some u ∧ RelV v u) (hd : (x == ("__debug__" : Str)) = false := by decide) : PE X (.Name x pos) (tC v) := by
  obtain ⟨u, hm, r⟩ := h
  exact pe_glob hg hm r hd
theorem mt_rpartition : MtR X "str.rpartition" (fun x xs H Q => ∃ a b, x = .str a ∧ xs = [.str b] ∧ (b.length == 0) = false ∧ a.length ≤ sizeLine ∧
    ∀ p, H p = none → Q (.ref p) (upd H p (.tup [.str (Txt.rpartition a b).1, .str (Txt.rpartition a b).2.1, .str (Txt.rpartition a b).2.2]))) := by
  intro pins s σ H x xs v us Q I rx rs h
  obtain ⟨a, b, rfl, rfl, hb, hz, h⟩ := h
  obtain ⟨t, rfl⟩ := rx
  cases rs with
  | cons r1 rs =>
    cases rs
    obtain ⟨u, rfl⟩ := r1
    refine call_meets F.slot_str_rpartition (typeIs_str _ _ _) F.entry_str_rpartition (F.args_str_rpartition_2 _ _) (meets_str_rpartition a b t u hb hz) ?_
    unfold Txt.rpartition at h
    revert h
    cases Builtin.Str.lastOccurrence a b 0 a.length with
    | none => intro h; exact laid_parts I h
    | some i => intro h; exact laid_parts I h
end
/-! ### frames -/
/-- all that was tracked is as it was, but for d -/
def Keep (d : Addr) (H H' : Hp) : Prop := ∀ b o, H b = some o → b ≠ d → H' b = some o
theorem Keep.refl {d : Addr} {H : Hp} : Keep d H H := fun _ _ h _ => h
theorem Keep.trans {d : Addr} {H H1 H2 : Hp} (a : Keep d H H1) (b : Keep d H1 H2) : Keep d H H2 := fun c o h n => b c o (a c o h n) n
theorem Same.keep {d : Addr} {H H' : Hp} (a : Same H H') : Keep d H H' := fun c o h _ => a c o h
theorem Same.new {H : Hp} {p : Addr} {o : HO} (h : H p = none) : Same H (upd H p o) := fun b u e => by
  rw [upd_ne (ne_of_none e h)]
  exact e
theorem Keep.upd {d : Addr} {H H' : Hp} {o : HO} (a : Keep d H H') : Keep d H (upd H' d o) := fun c u h n => by
  rw [upd_ne n]
  exact a c u h n
theorem Keep.same {d : Addr} {H H1 H2 : Hp} (a : Keep d H H1) (b : Same H1 H2) : Keep d H H2 := fun c o h n => b c o (a c o h n)
theorem Same.then {d : Addr} {H H1 H2 : Hp} (a : Same H H1) (b : Keep d H1 H2) : Keep d H H2 := fun c o h n => b c o (a c o h) n
theorem Keep.seqL {K : PySem.W.Frag} {d a : Addr} {H H' : Hp} {xs : List V} (k : Keep d H H') (n : a ≠ d) (h : SqL K H a xs) : SqL K H' a xs := by
  rcases h with (h | ⟨o, h⟩) | h
  · exact .inl (.inl (k _ _ h n))
  · exact .inl (.inr ⟨o, k _ _ h n⟩)
  · exact .inr h
/-- an object that is new behind d's own changes -/
theorem Keep.fresh {d : Addr} {H H' : Hp} {l : Addr} (k : Keep d H H') (hd : H d = none) (h : H' l = none) : H l = none := by
  cases q : H l with
  | none => rfl
  | some o =>
    have : l ≠ d := fun e => by rw [e, hd] at q; cases q
    rw [k l o q this] at h
    cases h
/-- what is new since H stays new in Same's way -/
theorem Keep.toSame {d : Addr} {H H' : Hp} (k : Keep d H H') (hd : H d = none) : Same H H' := fun b o h => k b o h (ne_of_none h hd)
/-! ### a menu at an index in bounds -/
theorem menu {xs : List V} {i : Int} (h0 : 0 ≤ i) (h1 : i < (xs.length : Int)) : ∃ v, v ∈ xs ∧ atI xs i = some v := by
  obtain ⟨n, rfl⟩ : ∃ n : Nat, i = (n : Int) := ⟨i.toNat, by omega⟩
  have hn : n < xs.length := by omega
  exact ⟨xs[n], List.getElem_mem hn, atI_nat (List.getElem?_eq_getElem hn)⟩
theorem iteB {b : Bool} {A B : Prop} (h1 : b = true → A) (h2 : b = false → B) : if b = true then A else B := by
  cases b
  · rw [if_neg Bool.false_ne_true]; exact h2 rfl
  · rw [if_pos rfl]; exact h1 rfl
/-! ### the draw -/
def kLeft : Key := Sum.inr "left"
def kCell : Key := Sum.inr "cell"
def kTurns : Key := Sum.inr "turns"
def dkv (l c t : Int) : List (Key × V) := [(Sum.inr "left", .int l), (Sum.inr "cell", .int c), (Sum.inr "turns", .int t)]
theorem kne1 : ¬ (("left" : Str) = "cell") := by decide +kernel
theorem kne2 : ¬ (("left" : Str) = "turns") := by decide +kernel
theorem kne3 : ¬ (("cell" : Str) = "turns") := by decide +kernel
theorem dkv_left (l c t : Int) : valV (dkv l c t) (Sum.inr "left" : Key) = some (.int l) := by
  simp [valV, dkv]
theorem dkv_cell (l c t : Int) : valV (dkv l c t) (Sum.inr "cell" : Key) = some (.int c) := by
  simp [valV, dkv, kne1]
theorem dkv_turns (l c t : Int) : valV (dkv l c t) (Sum.inr "turns" : Key) = some (.int t) := by
  simp [valV, dkv, kne2, kne3]
theorem dkv_putL (l c t x : Int) : putK (dkv l c t) (Sum.inr "left" : Key) (.int x) = dkv x c t := by
  simp [putK, dkv, Ne.symm kne1, Ne.symm kne2]
theorem dkv_putT (l c t x : Int) : putK (dkv l c t) (Sum.inr "turns" : Key) (.int x) = dkv l c x := by
  simp [putK, dkv, kne2, kne3]
def DrawAt (H : Hp) (d : Addr) (n : Nat) : Prop := ∃ l c t : Int, H d = some (.dK (dkv l c t)) ∧ 0 ≤ l ∧ 0 ≤ t ∧ t + 4 * (n : Int) ≤ 1000000000
theorem DrawAt.less {H : Hp} {d : Addr} {n m : Nat} (h : DrawAt H d n) (e : m ≤ n) : DrawAt H d m := by
  obtain ⟨l, c, t, h1, h2, h3, h4⟩ := h
  exact ⟨l, c, t, h1, h2, h3, by omega⟩
theorem DrawAt.same {H H' : Hp} {d : Addr} {n : Nat} (h : DrawAt H d n) (s : Same H H') : DrawAt H' d n := by
  obtain ⟨l, c, t, h1, h2⟩ := h
  exact ⟨l, c, t, s _ _ h1, h2⟩
theorem DrawAt.keep {H H' : Hp} {d e : Addr} {n : Nat} (h : DrawAt H d n) (s : Keep e H H') (x : d ≠ e) : DrawAt H' d n := by
  obtain ⟨l, c, t, h1, h2⟩ := h
  exact ⟨l, c, t, s _ _ h1 x, h2⟩
end Kb
namespace Kb
open PySem PySem.Spec PyProof.Rows L2
theorem dget_left {H : Hp} {d : Addr} {l c t : Int} (h : H d = some (.dK (dkv l c t))) : DGet H d (.str "left") (some (.int l)) := by
  have e := DGet.k (k := (Sum.inr "left" : Key)) h
  rw [dkv_left] at e
  exact e
theorem dget_cell {H : Hp} {d : Addr} {l c t : Int} (h : H d = some (.dK (dkv l c t))) : DGet H d (.str "cell") (some (.int c)) := by
  have e := DGet.k (k := (Sum.inr "cell" : Key)) h
  rw [dkv_cell] at e
  exact e
theorem dget_turns {H : Hp} {d : Addr} {l c t : Int} (h : H d = some (.dK (dkv l c t))) : DGet H d (.str "turns") (some (.int t)) := by
  have e := DGet.k (k := (Sum.inr "turns" : Key)) h
  rw [dkv_turns] at e
  exact e
theorem dput_left {H : Hp} {d : Addr} {l c t : Int} (x : Int) (h : H d = some (.dK (dkv l c t))) : DPut H d (.str "left") (.int x) (upd H d (.dK (dkv x c t))) := by
  have e := DPut.k (k := (Sum.inr "left" : Key)) (v := .int x) h (Nat.lt_of_lt_of_le (by show 3 < 10; decide) (by decide))
  rw [dkv_putL] at e
  exact e
theorem dput_turns {H : Hp} {d : Addr} {l c t : Int} (x : Int) (h : H d = some (.dK (dkv l c t))) : DPut H d (.str "turns") (.int x) (upd H d (.dK (dkv l c x))) := by
  have e := DPut.k (k := (Sum.inr "turns" : Key)) (v := .int x) h (Nat.lt_of_lt_of_le (by show 3 < 10; decide) (by decide))
  rw [dkv_putT] at e
  exact e
end Kb
namespace Kb
open PySem PySem.Spec PyProof.Rows L2 TL
section
variable {K : PySem.W.Frag} {a : Addr} {xs : List V} {g : TG} {tb : TS} {D : Ends} {σ : L2.St} {H : Hp}
theorem for_str {z : Str} (Pv : Nat → L2.St → Hp → Prop) (h0 : Pv 0 σ H)
    (hs : ∀ i c σ H, (tl z)[i]? = some c → Pv i σ H → g (.str ⟨#[c]⟩) σ H fun σ2 H2 => tb { D with nx := Pv (i + 1), ct := Pv (i + 1), bk := D.nx } σ2 H2) (hd : ∀ σ H, Pv (tl z).length σ H → D.nx σ H) :
    ∃ W : Nat → Nat → L2.St → Hp → Prop, (∃ m, W 0 m σ H) ∧ ∀ i m σ H, W i m σ H →
      ((Its z).stop i H ∧ D.nx σ H) ∨ ((Its z).go i H ∧ ∃ N : L2.St → Hp → Prop, (∀ σ' H', N σ' H' → ∃ m', m' < m ∧ W (i + 1) m' σ' H') ∧ ∀ x H', (Its z).yld i H x H' → g x σ H' fun σ2 H2 => tb { D with nx := N, ct := N, bk := D.nx } σ2 H2) := by
  refine for_it walk_str Pv h0 (fun _ _ _ _ _ => trivial) (fun i x σ H H' hi p y => ?_) (fun σ H p => hd σ H (by rw [show (tl z).length = z.cps.size by simp [tl]]; exact p))
  obtain ⟨rfl, c, hc, rfl⟩ := y
  exact hs i c σ _ (by rw [← hc]; simp [tl]) p
theorem for_enum (Pv : Nat → L2.St → Hp → Prop) (h0 : Pv 0 σ H) (hG : ∀ i σ H, i ≤ xs.length → Pv i σ H → SqL K H a xs)
    (hs : ∀ i x T σ H, xs[i]? = some x → Pv i σ H → H T = none → g (.ref T) σ (upd H T (.tup [.int (i : Nat), x])) fun σ2 H2 => tb { D with nx := Pv (i + 1), ct := Pv (i + 1), bk := D.nx } σ2 H2) (hd : ∀ σ H, Pv xs.length σ H → D.nx σ H) :
    ∃ W : Nat → Nat → L2.St → Hp → Prop, (∃ m, W 0 m σ H) ∧ ∀ i m σ H, W i m σ H →
      ((Ite K a).stop i H ∧ D.nx σ H) ∨ ((Ite K a).go i H ∧ ∃ N : L2.St → Hp → Prop, (∀ σ' H', N σ' H' → ∃ m', m' < m ∧ W (i + 1) m' σ' H') ∧ ∀ x H', (Ite K a).yld i H x H' → g x σ H' fun σ2 H2 => tb { D with nx := N, ct := N, bk := D.nx } σ2 H2) := by
  refine for_it walk_enum Pv h0 hG (fun i x σ H H' hi p y => ?_) hd
  obtain ⟨T, x, y, rfl, hT, rfl, h1, h2⟩ := y
  cases h1
  exact hs i y T σ H h2 p hT
end
end Kb
namespace Kb
open PySem PySem.Spec PyProof.Rows L2 TL
/-! ### == of lists of texts -/
theorem dpAll_strs {K : PySem.W.Frag} {H : Hp} : ∀ ys : List Str, DpAll K H (ys.map V.str) (ys.map PyData.str)
  | [] => .nil
  | y :: ys => .cons (.str y) (dpAll_strs ys)
theorem dp_strs {K : PySem.W.Frag} {H : Hp} {p : Addr} {ys : List Str} (h : SqL K H p (ys.map V.str)) : Dp K H (.ref p) (.list (ys.map PyData.str)) := .lst h (dpAll_strs ys)
theorem dp_strsT {K : PySem.W.Frag} {H : Hp} {p : Addr} {ys : List Str} (h : SqT K H p (ys.map V.str)) : Dp K H (.ref p) (.tuple (ys.map PyData.str)) := .tup h (dpAll_strs ys)
theorem eqvAll_strs : ∀ ys zs : List Str, PyData.eqvAll (ys.map PyData.str) (zs.map PyData.str) = decide (ys = zs)
  | [], [] => by simp [PyData.eqvAll]
  | [], z :: zs => by simp [PyData.eqvAll]
  | y :: ys, [] => by simp [PyData.eqvAll]
  | y :: ys, z :: zs => by
    rw [List.map_cons, List.map_cons, PyData.eqvAll, eqvAll_strs ys zs]
    rw [show PyData.eqv (.str y) (.str z) = (y == z) by simp [PyData.eqv]]
    rw [Bool.eq_iff_iff]
    simp
theorem canLay_strs : ∀ ys : List Str, (∀ y ∈ ys, PyData.canLay0 (.str y) = true) → PyData.canLayAll0 (ys.map PyData.str) = true
  | [], _ => by simp [PyData.canLayAll0]
  | y :: ys, h => by
    rw [List.map_cons, PyData.canLayAll0, h y (List.mem_cons_self ..), canLay_strs ys fun z hz => h z (List.mem_cons_of_mem _ hz)]; rfl
theorem depth_strs : ∀ ys : List Str, PyData.depthAll (ys.map PyData.str) = 0
  | [] => by simp [PyData.depthAll]
  | y :: ys => by
    rw [List.map_cons, PyData.depthAll, depth_strs ys]
    simp [PyData.depth]
theorem shaped_strs {ys : List Str} (h : ∀ y ∈ ys, PyData.canLay0 (.str y) = true) : SeqAt.shaped (.list (ys.map PyData.str)) = true := by
  unfold SeqAt.shaped
  rw [PyData.canLay0, canLay_strs ys h, PyData.depth, depth_strs]; rfl
end Kb
namespace Kb
open PySem PySem.Spec PyProof.Rows L2 TL
/-! ### rules with the written part named -/
def rLenQ (K : PySem.W.Frag) : List V → Hp → VK → Prop := fun xs H Q => ∃ p ys, xs = [.ref p] ∧ (SqL K H p ys ∨ SqT K H p ys) ∧ Q (.int ys.length) H
def rJoinQ (K : PySem.W.Frag) : V → List V → Hp → VK → Prop := fun x xs H Q => ∃ a p, ∃ ys : List Str, x = .str a ∧ xs = [.ref p] ∧ (SqL K H p (ys.map V.str) ∨ SqT K H p (ys.map V.str)) ∧ (ys.map (·.length)).sum + ys.length * a.length ≤ 16777216 ∧ Q (.str (Txt.join a ys)) H
end Kb
namespace Kb
open PySem PySem.Spec PyProof.Rows L2 TL
theorem DrawAt.upd {H : Hp} {d L : Addr} {n : Nat} {o : HO} (h : DrawAt H d n) (x : d ≠ L) : DrawAt (L2.upd H L o) d n := by
  obtain ⟨l, c, t, h1, h2⟩ := h
  exact ⟨l, c, t, by rw [upd_ne x]; exact h1, h2⟩
theorem DrawAt.ne {H : Hp} {d L : Addr} {n : Nat} (h : DrawAt H d n) (x : H L = none) : L ≠ d := fun e => by
  obtain ⟨_, _, _, q, _⟩ := h
  rw [e, q] at x; cases x
theorem Keep.updN {d L : Addr} {H H' : Hp} {o : HO} (k : Keep d H H') (h : H L = none) : Keep d H (L2.upd H' L o) := fun b q e n => by
  rw [upd_ne (ne_of_none e h)]
  exact k b q e n
end Kb
namespace Kb
open PySem PySem.Spec PyProof.Rows L2 TL
theorem all_at {p : Nat → Bool} {l : List Nat} {i : Nat} {c : Nat} (h : l[i]? = some c) : (l.take (i + 1)).all p = ((l.take i).all p && p c) := by
  rw [List.take_add_one, h, List.all_append]; simp
theorem allS_at {p : List Nat → Bool} {l : List Str} {i : Nat} {c : Str} (h : l[i]? = some c) : ((l.take (i + 1)).map tl).all p = (((l.take i).map tl).all p && p (tl c)) := by
  rw [List.take_add_one, h, List.map_append, List.all_append]; simp
theorem strAt {xs : List Str} {i : Nat} {v : V} (h : (xs.map V.str)[i]? = some v) : ∃ x, xs[i]? = some x ∧ v = .str x := by
  rw [List.getElem?_map] at h
  cases e : xs[i]? with
  | none => rw [e] at h; cases h
  | some x => rw [e] at h; exact ⟨x, rfl, (Option.some.inj h).symm⟩
/-- a text with f, or a value that is no text -/
def TxV (f : List Nat → Bool) (K : PySem.W.Frag) (H : Hp) (v : V) (b : Bool) : Prop :=
  (∃ x : Str, v = .str x ∧ x.length ≤ 1000000 ∧ b = f (tl x)) ∨ (∃ t : Value, TyX K H v t ∧ PySem.W.kitOne K t (.type "str") = some false ∧ b = false)
theorem kit_str (K : PySem.W.Frag) : PySem.W.kitOne K (.type "str") (.type "str") = some true := kit_ty (by decide +kernel)
theorem TxV.of {f : List Nat → Bool} {K : PySem.W.Frag} {H : Hp} {x : Str} (h : x.length ≤ 1000000) : TxV f K H (.str x) (f (tl x)) := .inl ⟨x, rfl, h, rfl⟩
end Kb

namespace Kb
open PySem PySem.Spec PyProof.Rows L2 TL
/-! ### hosts as lists of signs -/
def onlyB (g l : List Nat) : Bool := (l.all fun c => decide (c ∈ g)) && decide (l ≠ [])
def digs : List Nat := [48, 49, 50, 51, 52, 53, 54, 55, 56, 57]
def lsig : List Nat := [97, 98, 99, 100, 101, 102, 103, 104, 105, 106, 107, 108, 109, 110, 111, 112, 113, 114, 115, 116, 117, 118, 119, 120, 121, 122, 48, 49, 50, 51, 52, 53, 54, 55, 56, 57, 45]
def digB (l : List Nat) : Bool := onlyB digs l
def labB (l : List Nat) : Bool := decide (l.length ≤ 20) && (onlyB lsig l && (decide (l.head? ≠ some 45) && decide (l.getLast? ≠ some 45)))
def numB (l : List Nat) : Bool := digB l && (decide (NumText.digitsVal l ≤ 255) && (decide (l = [48]) || decide (l.head? ≠ some 48)))
def lastL (L : List (List Nat)) : List Nat := L.getLast?.getD []
def hostL (L : List (List Nat)) : Bool := decide (L.length ≤ 10) && (L.all labB && (!digB (lastL L) || (L.all numB && decide (L.length = 4))))
def hostB (l : List Nat) : Bool := decide (l.length ≤ 100) && hostL (sp1 46 l)
def addrB (l : List Nat) : Bool := hostB l && digB (lastL (sp1 46 l))
def fitB (h d : List Nat) : Bool := decide (h = d) || (!addrB h && (46 :: d).isSuffixOf h)
theorem tl_dot : tl ("." : Str) = [46] := by decide +kernel
theorem dot_eq : ("." : Str) = ⟨#[46]⟩ := ext_tl tl_dot
theorem tl_lsig : tl ("abcdefghijklmnopqrstuvwxyz0123456789-" : Str) = lsig := by decide +kernel
theorem tl_digs : tl ("0123456789" : Str) = digs := by decide +kernel
theorem hostB_len {x : Str} (h : hostB (tl x) = true) : x.length ≤ 100 := by
  unfold hostB at h
  rw [Bool.and_eq_true, decide_eq_true_eq] at h
  rw [len_tl]; exact h.1
theorem digs_iff {c : Nat} : c ∈ digs ↔ 48 ≤ c ∧ c ≤ 57 := by
  simp only [digs, List.mem_cons, List.not_mem_nil, or_false]
  omega
theorem digB_iff {l : List Nat} : digB l = true ↔ NumText.AllDigits l ∧ l ≠ [] := by
  unfold digB onlyB NumText.AllDigits
  rw [Bool.and_eq_true, List.all_eq_true, decide_eq_true_eq]
  constructor
  · rintro ⟨h, n⟩; exact ⟨fun c hc => digs_iff.mp (of_decide_eq_true (h c hc)), n⟩
  · rintro ⟨h, n⟩; exact ⟨fun c hc => decide_eq_true (digs_iff.mpr (h c hc)), n⟩
theorem int_dig {x : Str} (h : digB (tl x) = true) (hl : x.length ≤ 640) : intText? x = some ((NumText.digitsVal (tl x) : Nat) : Int) :=
  intText_digits (digB_iff.mp h).1 (digB_iff.mp h).2 (by omega)
theorem lsig_lt {c : Nat} (h : c ∈ lsig) : c < 128 ∧ 45 ≤ c := by
  simp only [lsig, List.mem_cons, List.not_mem_nil, or_false] at h
  omega
theorem dot_free {l : List Nat} (h : labB l = true) : 46 ∉ l := fun hm => by
  unfold labB onlyB at h
  simp only [Bool.and_eq_true, List.all_eq_true, decide_eq_true_eq] at h
  exact absurd (h.2.1.1 46 hm) (by decide)
theorem lab_ne {l : List Nat} (h : labB l = true) : l ≠ [] := by
  unfold labB onlyB at h
  simp only [Bool.and_eq_true, List.all_eq_true, decide_eq_true_eq] at h
  exact h.2.1.2
theorem lab_len {l : List Nat} (h : labB l = true) : l.length ≤ 20 := by
  unfold labB at h
  simp only [Bool.and_eq_true, decide_eq_true_eq] at h
  exact h.1
theorem lab_sign {l : List Nat} (h : labB l = true) {c : Nat} (hc : c ∈ l) : c ∈ lsig := by
  unfold labB onlyB at h
  simp only [Bool.and_eq_true, List.all_eq_true, decide_eq_true_eq] at h
  exact h.2.1.1 c hc
theorem lastL_snoc (L : List (List Nat)) (p : List Nat) : lastL (L ++ [p]) = p := by
  unfold lastL; rw [List.getLast?_concat]; rfl
/-- joined labels are their parts -/
theorem sp1_joinL {c : Nat} : ∀ {L : List (List Nat)}, L ≠ [] → (∀ p ∈ L, c ∉ p) → sp1 c (joinL [c] L) = L
  | [], h, _ => absurd rfl h
  | [p], _, hp => sp1_of_free (hp p (List.mem_singleton.mpr rfl))
  | p :: q :: r, _, hp => by
    show sp1 c (p ++ (c :: joinL [c] (q :: r))) = _
    rw [sp1_app, sp1_of_free (hp p (List.mem_cons_self ..)), sp1_joinL (by simp) fun z hz => hp z (List.mem_cons_of_mem _ hz)]
    rfl
theorem joinL_app {c : Nat} : ∀ {L M : List (List Nat)}, L ≠ [] → M ≠ [] → joinL [c] (L ++ M) = joinL [c] L ++ c :: joinL [c] M
  | [], _, h, _ => absurd rfl h
  | [p], m :: M, _, _ => rfl
  | [p], [], _, h => absurd rfl h
  | p :: q :: r, M, _, hM => by
    show p ++ (c :: joinL [c] (q :: r ++ M)) = _
    rw [joinL_app (L := q :: r) (by simp) hM]
    simp [joinL]
/-- d's parts are the last parts exactly if it is all, or stands behind a sign -/
theorem sp1_suffix (c : Nat) (h d : List Nat) : ((sp1 c d).length ≤ (sp1 c h).length ∧ (sp1 c h).drop ((sp1 c h).length - (sp1 c d).length) = sp1 c d) ↔ (h = d ∨ (c :: d) <:+ h) := by
  constructor
  · rintro ⟨h1, h2⟩
    have e : sp1 c h = (sp1 c h).take ((sp1 c h).length - (sp1 c d).length) ++ sp1 c d := by
      conv => lhs; rw [← List.take_append_drop ((sp1 c h).length - (sp1 c d).length) (sp1 c h), h2]
    by_cases ht : (sp1 c h).take ((sp1 c h).length - (sp1 c d).length) = []
    · rw [ht, List.nil_append] at e
      exact .inl (by rw [← joinL_sp1 c h, e, joinL_sp1])
    · refine .inr ⟨joinL [c] ((sp1 c h).take ((sp1 c h).length - (sp1 c d).length)), ?_⟩
      have e2 := joinL_sp1 c h
      rw [e, joinL_app ht (sp1_ne c d), joinL_sp1] at e2
      exact e2
  · rintro (rfl | ⟨r, e⟩)
    · simp
    · rw [← e, sp1_app, List.length_append]
      refine ⟨by omega, ?_⟩
      rw [Nat.add_sub_cancel, List.drop_left]
end Kb
namespace Kb
open PySem PySem.Spec PyProof.Rows L2 TL
/-! ### drawn hosts: small labels that are no numbers -/
def wlab (l : List Nat) : Bool := labB l && (!digB l && decide (l.length ≤ 4))
def HostW (n : Nat) (x : Str) : Prop := ∃ L : List (List Nat), L ≠ [] ∧ L.length ≤ n ∧ (∀ l ∈ L, wlab l = true) ∧ tl x = joinL [46] L
theorem wlab_lab {l : List Nat} (h : wlab l = true) : labB l = true ∧ digB l = false ∧ l.length ≤ 4 := by
  unfold wlab at h
  simp only [Bool.and_eq_true, Bool.not_eq_true', decide_eq_true_eq] at h
  exact h
theorem joinL_len {c B : Nat} : ∀ L : List (List Nat), (∀ l ∈ L, l.length ≤ B) → (joinL [c] L).length ≤ L.length * (B + 1)
  | [], _ => by simp [joinL]
  | [p], h => by have := h p (List.mem_singleton.mpr rfl); simp [joinL]; omega
  | p :: q :: r, h => by
    have h1 := h p (List.mem_cons_self ..)
    have h2 := joinL_len (c := c) (q :: r) fun l hl => h l (List.mem_cons_of_mem _ hl)
    show (p ++ (c :: joinL [c] (q :: r))).length ≤ _
    rw [List.length_append, List.length_cons, List.length_cons (a := p), Nat.succ_mul]
    omega
theorem lastL_mem {L : List (List Nat)} (h : L ≠ []) : lastL L ∈ L := by
  have e : L = L.dropLast ++ [L.getLast h] := (List.dropLast_concat_getLast h).symm
  have e2 : lastL L = L.getLast h := by
    conv => lhs; rw [e]
    exact lastL_snoc _ _
  rw [e2]
  exact List.getLast_mem h
theorem HostW.parts {n : Nat} {x : Str} (h : HostW n x) : ∃ L : List (List Nat), sp1 46 (tl x) = L ∧ L ≠ [] ∧ L.length ≤ n ∧ (∀ l ∈ L, wlab l = true) ∧ tl x = joinL [46] L := by
  obtain ⟨L, h1, h2, h3, h4⟩ := h
  exact ⟨L, by rw [h4, sp1_joinL h1 fun p hp => dot_free (wlab_lab (h3 p hp)).1], h1, h2, h3, h4⟩
theorem HostW.len {n : Nat} {x : Str} (h : HostW n x) : x.length ≤ 5 * n := by
  obtain ⟨L, h1, h2, h3, h4⟩ := h
  rw [len_tl, h4]
  have := joinL_len (c := 46) (B := 4) L fun l hl => (wlab_lab (h3 l hl)).2.2
  omega
theorem HostW.host {n : Nat} {x : Str} (h : HostW n x) (hn : n ≤ 10) : hostB (tl x) = true ∧ digB (lastL (sp1 46 (tl x))) = false := by
  have hl := h.len
  obtain ⟨L, e, h1, h2, h3, h4⟩ := h.parts
  have hz : digB (lastL L) = false := (wlab_lab (h3 _ (lastL_mem h1))).2.1
  rw [e]
  refine ⟨?_, hz⟩
  unfold hostB hostL
  rw [e, hz, decide_eq_true (by rw [← len_tl]; omega), decide_eq_true (by omega), List.all_eq_true.mpr fun l hl => (wlab_lab (h3 l hl)).1]
  rfl
theorem HostW.more {n m : Nat} {x : Str} (h : HostW n x) (e : n ≤ m) : HostW m x := by
  obtain ⟨L, h1, h2, h3, h4⟩ := h
  exact ⟨L, h1, Nat.le_trans h2 e, h3, h4⟩
theorem HostW.dot {n m : Nat} {x y : Str} (h : HostW n x) (k : HostW m y) : HostW (n + m) (x ++ "." ++ y) := by
  obtain ⟨L, h1, h2, h3, h4⟩ := h
  obtain ⟨M, k1, k2, k3, k4⟩ := k
  refine ⟨L ++ M, by simp [h1], by rw [List.length_append]; omega, fun l hl => ?_, ?_⟩
  · rcases List.mem_append.mp hl with q | q
    · exact h3 l q
    · exact k3 l q
  · rw [tl_append, tl_append, tl_dot, h4, k4, joinL_app h1 k1, List.append_assoc]; rfl
/-- address hosts: four numbers -/
def AddrW (x : Str) : Prop := ∃ L : List (List Nat), L.length = 4 ∧ (∀ l ∈ L, ∃ n : Nat, n < 256 ∧ l = numL n) ∧ tl x = joinL [46] L
theorem num_ok : ∀ n : Nat, n < 256 → (labB (numL n) && (numB (numL n) && (digB (numL n) && decide ((numL n).length ≤ 3)))) = true := by decide +kernel
theorem AddrW.parts {x : Str} (h : AddrW x) : ∃ L : List (List Nat), sp1 46 (tl x) = L ∧ L.length = 4 ∧ (∀ l ∈ L, labB l = true ∧ numB l = true ∧ digB l = true ∧ l.length ≤ 3) ∧ tl x = joinL [46] L := by
  obtain ⟨L, h1, h2, h3⟩ := h
  have h4 : ∀ l ∈ L, labB l = true ∧ numB l = true ∧ digB l = true ∧ l.length ≤ 3 := fun l hl => by
    obtain ⟨n, hn, rfl⟩ := h2 l hl
    have := num_ok n hn
    simp only [Bool.and_eq_true, decide_eq_true_eq] at this
    exact this
  refine ⟨L, ?_, h1, h4, h3⟩
  rw [h3, sp1_joinL (by intro e; rw [e] at h1; cases h1) fun p hp => dot_free (h4 p hp).1]
theorem AddrW.len {x : Str} (h : AddrW x) : x.length ≤ 16 := by
  obtain ⟨L, e, h1, h2, h3⟩ := h.parts
  rw [len_tl, h3]
  have := joinL_len (c := 46) (B := 3) L fun l hl => (h2 l hl).2.2.2
  omega
theorem AddrW.host {x : Str} (h : AddrW x) : hostB (tl x) = true ∧ digB (lastL (sp1 46 (tl x))) = true := by
  have hl := h.len
  obtain ⟨L, e, h1, h2, h3⟩ := h.parts
  have hz : digB (lastL L) = true := (h2 _ (lastL_mem (by intro e; rw [e] at h1; cases h1))).2.2.1
  rw [e]
  refine ⟨?_, hz⟩
  unfold hostB hostL
  rw [e, hz, decide_eq_true (by rw [← len_tl]; omega), decide_eq_true (by omega), List.all_eq_true.mpr fun l hl => (h2 l hl).1, List.all_eq_true.mpr fun l hl => (h2 l hl).2.1, decide_eq_true h1]
  rfl
/-- what a host is, for the law's own reckoning -/
theorem fit_due {h d : List Nat} (hh : hostB h = true) : fitB h d = (if digB (lastL (sp1 46 h)) = true then decide (sp1 46 h = sp1 46 d) else decide ((sp1 46 d).length ≤ (sp1 46 h).length) && decide ((sp1 46 h).drop ((sp1 46 h).length - (sp1 46 d).length) = sp1 46 d)) := by
  unfold fitB addrB
  rw [hh, Bool.true_and]
  cases hz : digB (lastL (sp1 46 h)) with
  | true =>
    rw [if_pos rfl, Bool.not_true, Bool.false_and, Bool.or_false, Bool.eq_iff_iff, decide_eq_true_eq, decide_eq_true_eq]
    exact ⟨fun e => by rw [e], fun e => by rw [← joinL_sp1 46 h, e, joinL_sp1]⟩
  | false =>
    rw [if_neg Bool.false_ne_true, Bool.not_false, Bool.true_and, Bool.eq_iff_iff, Bool.or_eq_true, Bool.and_eq_true, decide_eq_true_eq, decide_eq_true_eq, decide_eq_true_eq, List.isSuffixOf_iff_suffix]
    exact (sp1_suffix 46 h d).symm
end Kb
namespace Kb
open PySem PySem.Spec PyProof.Rows L2 TL
theorem digit_lsig : ∀ c ∈ lsig, Unicode.isDigit c = decide (c ∈ digs) := by decide +kernel
theorem isdigit_lab {z : Str} (h : labB (tl z) = true) : Txt.isdigit z = digB (tl z) := by
  unfold Txt.isdigit digB onlyB
  have hn := lab_ne h
  have h0 : decide (z.length > 0) = true := decide_eq_true (by rw [len_tl]; exact List.length_pos_iff.mpr hn)
  rw [h0, Bool.true_and, decide_eq_true hn, Bool.and_true, Bool.eq_iff_iff, Array.all_eq_true_iff_forall_mem, List.all_eq_true]
  constructor
  · intro q c hc
    rw [← digit_lsig c (lab_sign h hc)]
    exact q c (Array.mem_toList_iff.mp hc)
  · intro q c hc
    have hc := Array.mem_toList_iff.mpr hc
    rw [digit_lsig c (lab_sign h hc)]
    exact q c hc
theorem host_labels {x : Str} (h : hostB (tl x) = true) : ∀ l ∈ sp1 46 (tl x), labB l = true := by
  unfold hostB hostL at h
  simp only [Bool.and_eq_true, List.all_eq_true] at h
  exact h.2.2.1
theorem host_lt {x : Str} (h : hostB (tl x) = true) : ∀ s ∈ tl x, s < 1114112 := fun s hs => by
  have hl := host_labels h
  rw [← joinL_sp1 46 (tl x)] at hs
  have : ∀ L : List (List Nat), (∀ l ∈ L, labB l = true) → ∀ s ∈ joinL [46] L, s = 46 ∨ s ∈ lsig := by
    intro L
    induction L with
    | nil => intro _ s hs; cases hs
    | cons p L ih =>
      intro hL s hs
      cases L with
      | nil => exact .inr (lab_sign (hL p (List.mem_cons_self ..)) hs)
      | cons q r =>
        have hs : s ∈ p ++ (46 :: joinL [46] (q :: r)) := hs
        rcases List.mem_append.mp hs with a | a
        · exact .inr (lab_sign (hL p (List.mem_cons_self ..)) a)
        · rcases List.mem_cons.mp a with a | a
          · exact .inl a
          · exact ih (fun l hl => hL l (List.mem_cons_of_mem _ hl)) s a
  rcases this _ hl s hs with rfl | q
  · decide
  · have := lsig_lt q; omega
end Kb

namespace Kb
open PySem PySem.Spec PyProof.Rows L2 TL PySem.Builtin PySem.Builtin.Str
/-! ### what is stripped away of a text at both ends -/
theorem strip_none (x g : Str) : (Txt.stripChars x g = ("" : Str)) ↔ ∀ c ∈ tl x, c ∈ tl g := by
  unfold Txt.stripChars
  rw [stripBy_eq]
  have hc : ∀ c, g.cps.contains c = true ↔ c ∈ tl g := fun c => by
    unfold tl
    rw [← Array.contains_toList, List.contains_iff_mem]
  obtain ⟨l1, l2, l3⟩ := lo_facts g.cps.contains x
  obtain ⟨h1, h2, h3, h4⟩ := hi_facts g.cps.contains x _ l1
  generalize stripLo g.cps.contains true x = lo at *
  generalize stripHi g.cps.contains true x lo = hi at *
  have hx : x.length = (tl x).length := len_tl x
  have e0 : (strSub x lo hi = ("" : Str)) ↔ hi = lo := by
    constructor
    · intro e
      have : (strSub x lo hi).length = 0 := by rw [e]; decide +kernel
      simp [strSub, Str.length] at this
      have hx' : x.length = x.cps.size := rfl
      omega
    · intro e
      subst e
      apply ext_tl
      simp [strSub, tl]
      decide +kernel
  rw [e0]
  have gd : ∀ k, k < x.length → ∃ c, (tl x)[k]? = some c ∧ x.cps.getD k 0 = c := fun k hk => by
    refine ⟨x.cps.getD k 0, ?_, rfl⟩
    have hk' : k < x.cps.size := hk
    simp [tl, Array.getD, hk']
  constructor
  · intro e c hm
    obtain ⟨k, hk⟩ := List.mem_iff_getElem?.mp hm
    have hl : k < (tl x).length := by
      rw [List.getElem?_eq_some_iff] at hk
      exact hk.1
    rw [← hx] at hl
    obtain ⟨c', e1, e2⟩ := gd k hl
    rw [hk] at e1
    cases e1
    rw [← hc]
    by_cases q : k < lo
    · have := l2 k q; rw [e2] at this; exact this
    · have := h3 k (by omega) hl; rw [e2] at this; exact this
  · intro al
    have al' : ∀ k, k < x.length → g.cps.contains (x.cps.getD k 0) = true := fun k hk => by
      obtain ⟨c, e1, e2⟩ := gd k hk
      rw [e2, hc]
      exact al c (List.mem_of_getElem? e1)
    by_cases q : lo = x.length
    · omega
    · have := l3.resolve_left q
      rw [al' lo (by omega)] at this
      cases this
theorem strip_only (x g : Str) : (!decide (V.str x = V.str ("" : Str)) && decide (V.str (Txt.stripChars x g) = V.str ("" : Str))) = onlyB (tl g) (tl x) := by
  unfold onlyB
  rw [Bool.eq_iff_iff, Bool.and_eq_true, Bool.and_eq_true, Bool.not_eq_true', decide_eq_true_eq, decide_eq_true_eq, decide_eq_false_iff_not, List.all_eq_true]
  have e1 : (V.str x = V.str ("" : Str)) ↔ tl x = [] := ⟨fun q => by rw [V.str.inj q]; decide +kernel, fun q => by rw [show x = ("" : Str) from ext_tl (by rw [q]; decide +kernel)]⟩
  have e2 : (V.str (Txt.stripChars x g) = V.str ("" : Str)) ↔ ∀ c ∈ tl x, c ∈ tl g := by
    rw [← strip_none]
    exact ⟨fun q => V.str.inj q, fun q => by rw [q]⟩
  rw [e1, e2]
  constructor
  · rintro ⟨a, b⟩; exact ⟨fun c hc => decide_eq_true (b c hc), a⟩
  · rintro ⟨a, b⟩; exact ⟨b, fun c hc => of_decide_eq_true (a c hc)⟩
end Kb

namespace Kb
open PySem PySem.Spec PyProof.Rows L2 TL
/-! ### paths as lists of signs -/
/-- a sign that a path may have -/
def psign (c : Nat) : Bool := decide (33 ≤ c) && decide (c ≤ 126) && (decide (c ≠ 59) && decide (c ≠ 63) && decide (c ≠ 35)) && decide (c ≠ 37)
def pathB (l : List Nat) : Bool := decide (l.length ≤ 200) && ([47].isPrefixOf l && l.all psign)
def pfB (p q : List Nat) : Bool := decide (p = q) || (q.isPrefixOf p && ([47].isSuffixOf q || p[q.length]? == some 47))
/-- all in front of the last slash, or a slash -/
def dflt (l : List Nat) : List Nat := if joinL [47] (sp1 47 l).dropLast = [] then [47] else joinL [47] (sp1 47 l).dropLast
theorem tl_slash : tl ("/" : Str) = [47] := by decide +kernel
theorem slash_eq : ("/" : Str) = ⟨#[47]⟩ := ext_tl tl_slash
theorem dflt_cut {l a b : List Nat} (e : l = a ++ 47 :: b) (hb : 47 ∉ b) : dflt l = if a = [] then [47] else a := by
  unfold dflt
  have : (sp1 47 l).dropLast = sp1 47 a := by
    rw [e, sp1_app, sp1_of_free hb, List.dropLast_concat]
  rw [this, joinL_sp1]
theorem pathB_len {x : Str} (h : pathB (tl x) = true) : x.length ≤ 200 := by
  unfold pathB at h
  rw [Bool.and_eq_true, decide_eq_true_eq] at h
  rw [len_tl]; exact h.1
theorem pathB_head {x : Str} (h : pathB (tl x) = true) : ∃ r, tl x = 47 :: r := by
  unfold pathB at h
  rw [Bool.and_eq_true, Bool.and_eq_true, List.isPrefixOf_iff_prefix] at h
  obtain ⟨r, e⟩ := h.2.1
  exact ⟨r, e.symm⟩
/-- the signs a, b, the dot and the slash -/
def sgn4 (z : Str) : Bool := (tl z).all fun c => c == 47 || c == 97 || c == 98 || c == 46
def PathQ (m : Nat) (x : Str) : Prop := (∃ r, tl x = 47 :: r) ∧ sgn4 x = true ∧ x.length ≤ m
theorem sgn4_app {x y : Str} (h1 : sgn4 x = true) (h2 : sgn4 y = true) : sgn4 (x ++ y) = true := by
  unfold sgn4 at *
  rw [tl_append, List.all_append, h1, h2]; rfl
theorem PathQ.app {m k : Nat} {x y : Str} (h : PathQ m x) (h2 : sgn4 y = true) (h3 : y.length ≤ k) : PathQ (m + k) (x ++ y) := by
  obtain ⟨⟨r, e⟩, h1, h4⟩ := h
  refine ⟨⟨r ++ tl y, by rw [tl_append, e]; rfl⟩, sgn4_app h1 h2, ?_⟩
  rw [Str.length_append]; omega
theorem PathQ.more {m k : Nat} {x : Str} (h : PathQ m x) (e : m ≤ k) : PathQ k x := ⟨h.1, h.2.1, Nat.le_trans h.2.2 e⟩
theorem PathQ.path {m : Nat} {x : Str} (h : PathQ m x) (e : m ≤ 200) : pathB (tl x) = true := by
  obtain ⟨⟨r, e1⟩, h2, h3⟩ := h
  unfold pathB
  rw [decide_eq_true (by rw [len_tl] at h3; omega), Bool.true_and]
  have a : [47].isPrefixOf (tl x) = true := List.isPrefixOf_iff_prefix.mpr ⟨r, e1.symm⟩
  rw [a, Bool.true_and, List.all_eq_true]
  intro s hs
  unfold sgn4 at h2
  rw [List.all_eq_true] at h2
  have := h2 s hs
  simp only [Bool.or_eq_true, beq_iff_eq] at this
  rcases this with ((rfl | rfl) | rfl) | rfl <;> decide
/-- the default path: a part of it -/
theorem dflt_cases {l r : List Nat} (e : l = 47 :: r) : ∃ a b, l = a ++ 47 :: b ∧ 47 ∉ b ∧ ((a = [] ∧ dflt l = [47]) ∨ (a ≠ [] ∧ dflt l = a)) := by
  obtain ⟨a, b, e2, hb⟩ := last_cut (c := 47) (l := l) (by rw [e]; exact List.mem_cons_self ..)
  refine ⟨a, b, e2, hb, ?_⟩
  by_cases ha : a = []
  · exact .inl ⟨ha, by rw [dflt_cut e2 hb, if_pos ha]⟩
  · exact .inr ⟨ha, by rw [dflt_cut e2 hb, if_neg ha]⟩
theorem dflt_head {l r : List Nat} (e : l = 47 :: r) : ∃ r2, dflt l = 47 :: r2 := by
  obtain ⟨a, b, e2, hb, (⟨ha, h⟩ | ⟨ha, h⟩)⟩ := dflt_cases e
  · exact ⟨[], h⟩
  · rw [h]
    obtain ⟨x, a2, rfl⟩ := List.exists_cons_of_ne_nil ha
    rw [e] at e2
    simp only [List.cons_append, List.cons.injEq] at e2
    exact ⟨a2, by rw [← e2.1]⟩
theorem dflt_sub {l r : List Nat} (e : l = 47 :: r) : (dflt l).length ≤ l.length ∧ ∀ c ∈ dflt l, c ∈ l := by
  obtain ⟨a, b, e2, hb, (⟨ha, h⟩ | ⟨ha, h⟩)⟩ := dflt_cases e
  · rw [h, e]
    exact ⟨by simp, fun c hc => by rw [List.mem_singleton.mp hc]; exact List.mem_cons_self ..⟩
  · rw [h, e2]
    exact ⟨by simp, fun c hc => List.mem_append_left _ hc⟩
theorem dflt_less {l r : List Nat} (e : l = 47 :: r) (h0 : l ≠ [47]) : (dflt l).length < l.length := by
  obtain ⟨a, b, e2, hb, (⟨ha, h⟩ | ⟨ha, h⟩)⟩ := dflt_cases e
  · rw [h, e2, ha]
    cases b with
    | nil => exact absurd (by rw [e2, ha]; rfl) h0
    | cons x b => simp
  · rw [h, e2]; simp
theorem PathQ.dflt {m : Nat} {x y : Str} (h : PathQ m x) (e : tl y = dflt (tl x)) : PathQ m y := by
  obtain ⟨⟨r, e1⟩, h2, h3⟩ := h
  obtain ⟨h4, h5⟩ := dflt_sub e1
  obtain ⟨r2, e2⟩ := dflt_head e1
  refine ⟨⟨r2, by rw [e, e2]⟩, ?_, ?_⟩
  · unfold sgn4 at *
    rw [List.all_eq_true] at *
    intro c hc
    rw [e] at hc
    exact h2 c (h5 c hc)
  · rw [len_tl, e]
    rw [len_tl] at h3
    omega
/-! ### to fit is an order -/
theorem pf_iff {p q : List Nat} : pfB p q = true ↔ p = q ∨ (q <+: p ∧ ((∃ r, q = r ++ [47]) ∨ p[q.length]? = some 47)) := by
  unfold pfB
  rw [Bool.or_eq_true, Bool.and_eq_true, Bool.or_eq_true, decide_eq_true_eq, List.isPrefixOf_iff_prefix, List.isSuffixOf_iff_suffix, beq_iff_eq]
  constructor
  · rintro (h | ⟨h, (⟨r, e⟩ | h2)⟩)
    · exact .inl h
    · exact .inr ⟨h, .inl ⟨r, e.symm⟩⟩
    · exact .inr ⟨h, .inr h2⟩
  · rintro (h | ⟨h, (⟨r, e⟩ | h2)⟩)
    · exact .inl h
    · exact .inr ⟨h, .inl ⟨r, e.symm⟩⟩
    · exact .inr ⟨h, .inr h2⟩
theorem pf_self (p : List Nat) : pfB p p = true := pf_iff.mpr (.inl rfl)
theorem pf_slash {p r : List Nat} (e : p = 47 :: r) : pfB p [47] = true := pf_iff.mpr (.inr ⟨⟨r, e.symm⟩, .inl ⟨[], rfl⟩⟩)
theorem pf_pre {p q : List Nat} (h : pfB p q = true) : q <+: p := by
  rcases pf_iff.mp h with rfl | h
  · exact List.prefix_refl _
  · exact h.1
theorem pf_anti {p q : List Nat} (h : pfB p q = true) (k : pfB q p = true) : p = q := by
  have a := pf_pre h
  have b := pf_pre k
  exact b.eq_of_length (Nat.le_antisymm b.length_le a.length_le)
theorem pre_at {p q : List Nat} (h : q <+: p) {i : Nat} (hi : i < q.length) : p[i]? = q[i]? := by
  obtain ⟨r, rfl⟩ := h
  rw [List.getElem?_append_left hi]
theorem pf_trans {p q r : List Nat} (h : pfB p q = true) (k : pfB q r = true) : pfB p r = true := by
  rcases pf_iff.mp k with rfl | ⟨k1, k2⟩
  · exact h
  have a := pf_pre h
  refine pf_iff.mpr (.inr ⟨k1.trans a, ?_⟩)
  rcases k2 with k2 | k2
  · exact .inl k2
  · have : r.length < q.length := by
      have := (List.getElem?_eq_some_iff.mp k2).1
      exact this
    exact .inr (by rw [pre_at a this]; exact k2)
theorem pf_comp {p q r : List Nat} (h : pfB p q = true) (k : pfB p r = true) (hl : q.length ≤ r.length) : pfB r q = true := by
  have a := pf_pre h
  have b := pf_pre k
  have c : q <+: r := List.prefix_of_prefix_length_le a b hl
  rcases Nat.lt_or_ge q.length r.length with g | g
  · rcases pf_iff.mp h with rfl | ⟨_, h2⟩
    · have := b.length_le
      omega
    · refine pf_iff.mpr (.inr ⟨c, ?_⟩)
      rcases h2 with h2 | h2
      · exact .inl h2
      · exact .inr (by rw [← pre_at b g]; exact h2)
  · exact pf_iff.mpr (.inl (c.eq_of_length (Nat.le_antisymm hl g)).symm)
theorem pf_dflt {p r : List Nat} (e : p = 47 :: r) : pfB p (dflt p) = true := by
  obtain ⟨a, b, e2, hb, (⟨ha, h⟩ | ⟨ha, h⟩)⟩ := dflt_cases e
  · rw [h]; exact pf_slash e
  · rw [h]
    exact pf_iff.mpr (.inr ⟨⟨47 :: b, e2.symm⟩, .inr (by rw [e2]; simp)⟩)
end Kb

namespace Kb
open PySem PySem.Spec PyProof.Rows L2
/-! ### a tuple times one -/
theorem tuple_mul1 (l : Addr) (items : Array Value) (n : Nat) (dd : Option Addr) (sl : Array (Option Value)) (u : Tok) :
    Meets (Builtin.«tuple.__mul__» ⟨[.ref l, .int 1 u], []⟩) (fun _ R s => s.heap.get? l = some { cls := .type "tuple", dict := dd, data := .seq items n, slots := sl } ∧
      R (.ok (.ret (Value.ref l))) s) :=
  .of_wp fun prog w A R s h => by
    obtain ⟨hp, g, d, tk, os⟩ := s
    obtain ⟨hl, h⟩ := h
    have f1 := AutoSeq1.idx_int
    have c1 : (items.isEmpty || (1 : Int) == 1) = true := by simp
    wp_walk using wpAny_loadPart' hl
    repeat (first
      | (refine wpAny_ite_false (decide_eq_false (by decide)) ?_; wp_walk using wpAny_loadPart' hl)
      | (refine wpAny_ite_true (decide_eq_true (by exact c1)) ?_; wp_walk using wpAny_loadPart' hl))
    all_goals first | exact ⟨_, rfl, h⟩ | skip
def rRep1 (K : PySem.W.Frag) : R2 := fun x y H Q => ∃ l xs, x = .ref l ∧ y = .int 1 ∧ SqT K H l xs ∧ Q (.ref l) H
section
variable {X : Cx}
theorem op_rep1 : OpR X (binaryOp .Mult) (rRep1 X.K) := by
  intro pins s σ H x y v u Q I rx ry h
  obtain ⟨l, xs, rfl, rfl, hT, q⟩ := h
  cases rx
  obtain ⟨t, rfl⟩ := ry
  obtain ⟨its, r, ⟨⟨cls, dd, data, sl⟩, ho, hc, n, hd⟩, hs⟩ := I.tuple hT
  simp only at hc hd
  subst hc hd
  refine wpAny_binaryOp_repeat_ref (T := "tuple") (U := "int") (by decide) ⟨_, ho, rfl⟩ (fun s' => typeIs_int s' 1 t) noFill_tuple_mul F.fills_int_mul F.slot_int_rmul repeat_tuple F.slot_int_index.lookup
    (call_meets F.slot_int_rmul (typeIs_int s 1 t) F.entry_int_rmul (F.args_int_rmul_2 _ _) (int_rmul_tuple 1 t l its.toArray n dd sl)
      ⟨ho, rfl, ⟨_, ho, rfl⟩, call_meets F.slot_tuple_mul ⟨_, ho, rfl⟩ F.entry_tuple_mul (F.args_tuple_mul_2 _ _) (tuple_mul1 l its.toArray n dd sl t) ⟨ho, ?_⟩⟩)
  exact ⟨.ref l, H, I, rfl, q⟩
end
end Kb

namespace Kb
open PySem PySem.Spec PyProof.Rows L2 TL PySem.StrLaws Builtin.Str
/-! ### partition, removeprefix, count -/
theorem partition_behind {x : Str} {c : Nat} {a b : List Nat} (e : tl x = a ++ c :: b) (ha : c ∉ a) : tl (Txt.partition x ⟨#[c]⟩).2.2 = b := by
  have hy : tl (⟨#[c]⟩ : Str) ≠ [] := by simp [tl]
  have at' : ∀ i, At x ⟨#[c]⟩ x.length i ↔ (tl x)[i]? = some c := fun i => by
    rw [at_iff hy]
    show (((tl x).drop i).take 1 == [c]) = true ↔ _
    exact take1_drop
  have hit : At x ⟨#[c]⟩ x.length a.length := (at' _).mpr (by rw [e]; simp)
  have key : ∀ i, At x ⟨#[c]⟩ x.length i → (∀ k, k < i → ¬ At x ⟨#[c]⟩ x.length k) → i = a.length := fun i h1 h2 => by
    rcases Nat.lt_trichotomy i a.length with q | q | q
    · have g := (at' i).mp h1
      rw [e, List.getElem?_append_left q] at g
      exact absurd (List.mem_of_getElem? g) ha
    · exact q
    · exact absurd hit (h2 _ q)
  have fw := find_whole x ⟨#[c]⟩
  unfold Txt.find at fw
  unfold Txt.partition
  cases ho : occurrences x ⟨#[c]⟩ 0 x.length 1 with
  | nil =>
    rw [ho] at fw
    rcases fw with ⟨_, h⟩ | ⟨i, e1, _⟩
    · exact absurd hit (h _)
    · simp only at e1; omega
  | cons j r =>
    rw [ho] at fw
    rcases fw with ⟨e1, _⟩ | ⟨i, e1, h1, h2⟩
    · simp only at e1; omega
    · simp only at e1
      have hj : j = a.length := (Int.ofNat_inj.mp e1) ▸ key i h1 h2
      show tl (strSub x (j + 1) x.length) = b
      rw [tl_strSub, hj, e, len_tl, e]
      rw [show a ++ c :: b = (a ++ [c]) ++ b by simp, List.drop_left' (by simp)]
      rw [List.take_of_length_le (by simp; omega)]
theorem partition_none {x : Str} {c : Nat} (h : c ∉ tl x) : tl (Txt.partition x ⟨#[c]⟩).2.2 = [] := by
  have hy : tl (⟨#[c]⟩ : Str) ≠ [] := by simp [tl]
  have at' : ∀ i, At x ⟨#[c]⟩ x.length i ↔ (tl x)[i]? = some c := fun i => by
    rw [at_iff hy]
    show (((tl x).drop i).take 1 == [c]) = true ↔ _
    exact take1_drop
  have fw := find_whole x ⟨#[c]⟩
  unfold Txt.find at fw
  unfold Txt.partition
  cases ho : occurrences x ⟨#[c]⟩ 0 x.length 1 with
  | nil => rfl
  | cons j r =>
    rw [ho] at fw
    rcases fw with ⟨e1, _⟩ | ⟨i, e1, h1, h2⟩
    · simp only at e1; omega
    · exact absurd (List.mem_of_getElem? ((at' i).mp h1)) h
theorem removeprefix_hit {x y : Str} {b : List Nat} (e : tl x = tl y ++ b) : tl (Txt.removeprefix x y) = b := by
  unfold Txt.removeprefix
  have hs : subAt x y 0 = true := by
    rw [subAt_eq, List.drop_zero]
    show (List.take y.length (tl x) == tl y) = true
    rw [e, len_tl, List.take_left, beq_iff_eq]
  rw [if_pos hs]
  show tl (if x.length - y.length == x.length then x else strSub x y.length x.length) = b
  by_cases h0 : y.length = 0
  · rw [if_pos (by simp [h0])]
    rw [len_tl] at h0
    rw [e, List.eq_nil_of_length_eq_zero h0, List.nil_append]
  · have hx : x.length = y.length + b.length := by rw [len_tl, e, List.length_append, ← len_tl]
    rw [if_neg (by simp; omega), tl_strSub_end, e, len_tl, List.drop_left]
theorem removeprefix_miss {x y : Str} (h : ¬ tl y <+: tl x) : Txt.removeprefix x y = x := by
  unfold Txt.removeprefix
  rw [if_neg]
  · rfl
  · intro hs
    rw [subAt_eq, List.drop_zero] at hs
    have hs : (List.take y.length (tl x) == tl y) = true := hs
    exact h ((beq_iff_eq.mp hs) ▸ List.take_prefix _ _)
theorem count_sp1 (x : Str) (c : Nat) : Txt.count x ⟨#[c]⟩ + 1 = ((sp1 c (tl x)).length : Int) := by
  rw [count_cnt]
  show cnt c (tl x) + 1 = _
  generalize tl x = l
  induction l with
  | nil => rfl
  | cons y l ih =>
    rw [cnt_cons]
    by_cases h : y = c
    · subst h
      rw [sp1_hit, if_pos rfl, List.length_cons]
      push_cast
      omega
    · obtain ⟨p, r, e⟩ := sp1_cons c l
      rw [sp1_miss h e, if_neg h]
      rw [e] at ih
      rw [List.length_cons] at ih ⊢
      omega
end Kb
namespace Kb
open PySem PySem.Spec PyProof.Rows L2 TL
/-! ### rules, and the suffixes that they give, by labels -/
def excT (t : List Nat) : Bool := decide (t.head? = some 33)
def patT (t : List Nat) : List Nat := if excT t then t.tail else t
def ruleB (t : List Nat) : Bool :=
  if excT t then decide (1 < (sp1 46 t.tail).length) && (sp1 46 t.tail).all labB
  else (sp1 46 (if [42, 46].isPrefixOf t then t.drop 2 else t)).all labB
def patL (t : List Nat) : List (List Nat) := sp1 46 (patT t)
def lastN {α : Type} (n : Nat) (w : List α) : List α := w.drop (w.length - n)
def mtL (P w : List (List Nat)) : Bool := decide (P.length ≤ w.length) && (if P.head? = some [42] then decide ((lastN P.length w).tail = P.tail) else decide (lastN P.length w = P))
def bigN (b : Nat) (q : List Nat → Bool) : List (List Nat) → Nat
  | [] => b
  | t :: rs => bigN (if q t then max b (patL t).length else b) q rs
def excN (rs w : List (List Nat)) : Nat := bigN 0 (fun t => excT t && mtL (patL t) w) rs
def lonN (rs w : List (List Nat)) : Nat := bigN 1 (fun t => !excT t && mtL (patL t) w) rs
def sufN (rs w : List (List Nat)) : Nat := if 0 < excN rs w then excN rs w - 1 else lonN rs w
def famL (rs w : List (List Nat)) : List (List Nat) := lastN ((lastN (sufN rs w) w).length + 1) w
section
variable {α : Type}
theorem lastN_len (n : Nat) (w : List α) : (lastN n w).length = min n w.length := by
  unfold lastN; rw [List.length_drop]; omega
theorem lastN_all {n : Nat} {w : List α} (h : w.length ≤ n) : lastN n w = w := by
  unfold lastN; rw [show w.length - n = 0 by omega, List.drop_zero]
theorem lastN_lastN {n m : Nat} {w : List α} (h : n ≤ m) : lastN n (lastN m w) = lastN n w := by
  unfold lastN; rw [List.drop_drop, List.length_drop]; congr 1; omega
theorem lastN_cons {n : Nat} {x : α} {w : List α} (h : n ≤ w.length) : lastN n (x :: w) = lastN n w := by
  unfold lastN
  rw [List.length_cons, show w.length + 1 - n = (w.length - n) + 1 by omega, List.drop_succ_cons]
theorem lastN_mem {n : Nat} {w : List α} {x : α} (h : x ∈ lastN n w) : x ∈ w := List.mem_of_mem_drop h
theorem lastN_min {n : Nat} {w : List α} : lastN (min n w.length) w = lastN n w := by
  unfold lastN; congr 1; omega
end
theorem cutV_last (xs : List V) {n : Nat} (h : 1 ≤ n) : cutV xs (some (-(n : Int))) none = lastN n xs := by
  show (xs.drop (HT.sIx xs.length 0 (some (-(n : Int))))).take (HT.sIx xs.length xs.length none - HT.sIx xs.length 0 (some (-(n : Int)))) = _
  have e : HT.sIx xs.length 0 (some (-(n : Int))) = xs.length - n := by
    show (if (-(n : Int)) < 0 then ((-(n : Int)) + (xs.length : Int)).toNat else min (-(n : Int)).toNat xs.length) = _
    rw [if_pos (by omega)]
    omega
  rw [e, HT.sIx_none]
  exact List.take_of_length_le (by rw [List.length_drop] <;> omega)
/-! #### the greatest of sizes -/
theorem bigN_ge (q : List Nat → Bool) : ∀ (rs : List (List Nat)) (b : Nat), b ≤ bigN b q rs
  | [], b => Nat.le_refl _
  | t :: rs, b => by
    show b ≤ bigN _ q rs
    refine Nat.le_trans ?_ (bigN_ge q rs _)
    split <;> omega
theorem bigN_mem (q : List Nat → Bool) : ∀ (rs : List (List Nat)) (b : Nat) (t : List Nat), t ∈ rs → q t = true → (patL t).length ≤ bigN b q rs
  | r :: rs, b, t, h, hq => by
    show _ ≤ bigN _ q rs
    rcases List.mem_cons.mp h with e | e
    · subst e
      have := bigN_ge q rs (if q t then max b (patL t).length else b)
      rw [if_pos hq] at this ⊢
      omega
    · exact bigN_mem q rs _ t e hq
theorem bigN_cases (q : List Nat → Bool) : ∀ (rs : List (List Nat)) (b : Nat), bigN b q rs = b ∨ ∃ t ∈ rs, q t = true ∧ bigN b q rs = (patL t).length
  | [], b => .inl rfl
  | r :: rs, b => by
    show bigN _ q rs = b ∨ _
    by_cases hq : q r = true
    · rcases bigN_cases q rs (max b (patL r).length) with e | ⟨t, h1, h2, h3⟩
      · rcases Nat.le_total (patL r).length b with g | g
        · left; rw [if_pos hq, e]; omega
        · right; exact ⟨r, List.mem_cons_self .., hq, by show bigN _ q rs = _; rw [if_pos hq, e]; omega⟩
      · right; exact ⟨t, List.mem_cons_of_mem _ h1, h2, by show bigN _ q rs = _; rw [if_pos hq, h3]⟩
    · rw [if_neg hq]
      rcases bigN_cases q rs b with e | ⟨t, h1, h2, h3⟩
      · exact .inl e
      · right; exact ⟨t, List.mem_cons_of_mem _ h1, h2, by show bigN _ q rs = _; rw [if_neg hq, h3]⟩
theorem bigN_congr {q q' : List Nat → Bool} : ∀ {rs : List (List Nat)} {b : Nat}, (∀ t ∈ rs, q t = q' t) → bigN b q rs = bigN b q' rs
  | [], b, _ => rfl
  | r :: rs, b, h => by
    show bigN _ q rs = bigN _ q' rs
    rw [h r (List.mem_cons_self ..)]
    exact bigN_congr fun t ht => h t (List.mem_cons_of_mem _ ht)
theorem bigN_snoc (q : List Nat → Bool) : ∀ (rs : List (List Nat)) (b : Nat) (t : List Nat), bigN b q (rs ++ [t]) = if q t then max (bigN b q rs) (patL t).length else bigN b q rs
  | [], b, t => rfl
  | r :: rs, b, t => by
    show bigN _ q (rs ++ [t]) = _
    rw [bigN_snoc q rs]
    rfl
/-! #### what a match tells -/
theorem mtL_len {P w : List (List Nat)} (h : mtL P w = true) : P.length ≤ w.length := by
  unfold mtL at h
  rw [Bool.and_eq_true, decide_eq_true_eq] at h
  exact h.1
theorem mtL_lastN {P w : List (List Nat)} {k : Nat} (hk : k ≤ w.length) : mtL P (lastN k w) = (decide (P.length ≤ k) && mtL P w) := by
  unfold mtL
  rw [lastN_len, Nat.min_eq_left hk]
  by_cases h : P.length ≤ k
  · rw [lastN_lastN h, decide_eq_true h, decide_eq_true (Nat.le_trans h hk)]
    rfl
  · rw [decide_eq_false h]; rfl
theorem excT_len {t : List Nat} (hr : ruleB t = true) (h : excT t = true) : 2 ≤ (patL t).length := by
  unfold ruleB at hr
  rw [if_pos h, Bool.and_eq_true, decide_eq_true_eq] at hr
  unfold patL patT
  rw [if_pos h]
  exact hr.1
theorem excN_ge {rs w : List (List Nat)} (hr : ∀ t ∈ rs, ruleB t = true) (h : 0 < excN rs w) : 2 ≤ excN rs w ∧ excN rs w ≤ w.length := by
  unfold excN at h ⊢
  rcases bigN_cases (fun t => excT t && mtL (patL t) w) rs 0 with e | ⟨t, h1, h2, h3⟩
  · omega
  · rw [h3]
    simp only [Bool.and_eq_true] at h2
    exact ⟨excT_len (hr t h1) h2.1, mtL_len h2.2⟩
theorem lonN_ge {rs w : List (List Nat)} (hw : w ≠ []) : 1 ≤ lonN rs w ∧ lonN rs w ≤ w.length := by
  have h0 : 0 < w.length := List.length_pos_iff.mpr hw
  unfold lonN
  refine ⟨bigN_ge _ _ _, ?_⟩
  rcases bigN_cases (fun t => !excT t && mtL (patL t) w) rs 1 with e | ⟨t, h1, h2, h3⟩
  · omega
  · rw [h3]
    simp only [Bool.and_eq_true] at h2
    exact mtL_len h2.2
theorem sufN_ge {rs w : List (List Nat)} (hr : ∀ t ∈ rs, ruleB t = true) (hw : w ≠ []) : 1 ≤ sufN rs w ∧ sufN rs w ≤ w.length := by
  unfold sufN
  split
  · next h => have := excN_ge hr h; omega
  · exact lonN_ge hw
theorem famL_eq {rs w : List (List Nat)} (hr : ∀ t ∈ rs, ruleB t = true) (hw : w ≠ []) : famL rs w = lastN (sufN rs w + 1) w := by
  unfold famL
  have := sufN_ge hr hw
  rw [lastN_len, Nat.min_eq_left this.2]
/-- the last labels, if they are no fewer than the family's, have the same suffix -/
theorem sufN_lastN {rs w : List (List Nat)} {k : Nat} (hr : ∀ t ∈ rs, ruleB t = true) (hw : w ≠ []) (hk : k ≤ w.length) (h : min (sufN rs w + 1) w.length ≤ k) : sufN rs (lastN k w) = sufN rs w := by
  have e1 : excN rs (lastN k w) = excN rs w := by
    unfold excN
    refine bigN_congr fun t ht => ?_
    rw [mtL_lastN hk]
    cases hx : excT t <;> cases hm : mtL (patL t) w
    · rfl
    · rfl
    · rw [Bool.and_false]
    · have g : (patL t).length ≤ excN rs w := bigN_mem _ rs 0 t ht (by simp [hx, hm])
      have g0 := excT_len (hr t ht) hx
      have g1 := excN_ge hr (w := w) (rs := rs) (by omega)
      have g2 : sufN rs w = excN rs w - 1 := by unfold sufN; rw [if_pos (by omega)]
      rw [decide_eq_true (by omega)]; rfl
  unfold sufN
  rw [e1]
  by_cases h0 : 0 < excN rs w
  · rw [if_pos h0, if_pos h0]
  · rw [if_neg h0, if_neg h0]
    unfold lonN
    refine bigN_congr fun t ht => ?_
    rw [mtL_lastN hk]
    cases hx : excT t <;> cases hm : mtL (patL t) w
    · rw [Bool.and_false]
    · have g : (patL t).length ≤ lonN rs w := bigN_mem _ rs 1 t ht (by simp [hx, hm])
      have g2 : sufN rs w = lonN rs w := by unfold sufN; rw [if_neg h0]
      have := mtL_len hm
      rw [decide_eq_true (by omega)]; rfl
    · rfl
    · rfl
/-- hosts that hold the family have this family, others have another one -/
theorem famL_part {rs w : List (List Nat)} {k : Nat} (hr : ∀ t ∈ rs, ruleB t = true) (hw : w ≠ []) (hk0 : 1 ≤ k) (hk : k ≤ w.length) : decide (famL rs (lastN k w) = famL rs w) = decide ((famL rs w).length ≤ k) := by
  have hn : lastN k w ≠ [] := fun e => by have := lastN_len k w; rw [e] at this; simp at this; omega
  rw [famL_eq hr hn, famL_eq hr hw, lastN_len]
  rw [Bool.eq_iff_iff, decide_eq_true_eq, decide_eq_true_eq]
  constructor
  · intro e
    have := congrArg List.length e
    rw [lastN_len, lastN_len, lastN_len] at this
    omega
  · intro h
    rw [sufN_lastN hr hw hk h]
    by_cases g : sufN rs w + 1 ≤ k
    · exact lastN_lastN g
    · rw [lastN_all (n := k) (by omega)]
theorem famL_idem {rs w : List (List Nat)} (hr : ∀ t ∈ rs, ruleB t = true) (hw : w ≠ []) : famL rs (famL rs w) = famL rs w := by
  have h1 := sufN_ge hr hw
  have h0 : 0 < w.length := List.length_pos_iff.mpr hw
  have e : famL rs w = lastN (min (sufN rs w + 1) w.length) w := by rw [lastN_min]; exact famL_eq hr hw
  have := famL_part (k := min (sufN rs w + 1) w.length) hr hw (by omega) (by omega)
  rw [← e] at this
  rw [← decide_eq_true_iff (p := famL rs (famL rs w) = famL rs w), this, decide_eq_true_iff, e, lastN_len]
  omega
/-- a rule that does not match changes nothing -/
theorem sufN_snoc {rs w : List (List Nat)} {t : List Nat} (h : mtL (patL t) w = false) : sufN (rs ++ [t]) w = sufN rs w := by
  unfold sufN excN lonN
  rw [bigN_snoc, bigN_snoc]
  simp only [h, Bool.and_false, Bool.false_eq_true, if_false]
end Kb
namespace Kb
open PySem PySem.Spec PyProof.Rows L2 TL
/-! #### a label in front -/
theorem mtL_cons {P w : List (List Nat)} {y : List Nat} (h : P.length ≤ w.length) : mtL P (y :: w) = mtL P w := by
  unfold mtL
  rw [lastN_cons h, decide_eq_true h, List.length_cons, decide_eq_true (by omega)]
theorem lonN_below (rs w : List (List Nat)) (y : List Nat) : lonN rs (y :: w) = lonN rs w ∨ lonN rs (y :: w) = w.length + 1 := by
  have up : lonN rs w ≤ lonN rs (y :: w) := by
    unfold lonN
    rcases bigN_cases (fun t => !excT t && mtL (patL t) w) rs 1 with e | ⟨t, h1, h2, h3⟩
    · rw [e]; exact bigN_ge _ _ _
    · rw [h3]
      simp only [Bool.and_eq_true] at h2
      exact bigN_mem _ rs 1 t h1 (by simp only [Bool.and_eq_true]; exact ⟨h2.1, by rw [mtL_cons (mtL_len h2.2)]; exact h2.2⟩)
  have lo : 1 ≤ lonN rs w := bigN_ge _ _ _
  rcases bigN_cases (fun t => !excT t && mtL (patL t) (y :: w)) rs 1 with e | ⟨t, h1, h2, h3⟩
  · left
    have e : lonN rs (y :: w) = 1 := e
    omega
  · simp only [Bool.and_eq_true] at h2
    have h3 : lonN rs (y :: w) = (patL t).length := h3
    have hl := mtL_len h2.2
    rw [List.length_cons] at hl
    by_cases g : (patL t).length ≤ w.length
    · left
      have : (patL t).length ≤ lonN rs w := bigN_mem _ rs 1 t h1 (by simp only [Bool.and_eq_true]; exact ⟨h2.1, by rw [← mtL_cons (y := y) g]; exact h2.2⟩)
      omega
    · right; omega
theorem excN_below {rs w : List (List Nat)} {y : List Nat} (h : ∀ t ∈ rs, excT t = true → (patL t).head? ≠ some [42] ∧ y ∉ patL t) : excN rs (y :: w) = excN rs w := by
  unfold excN
  refine bigN_congr fun t ht => ?_
  cases hx : excT t
  · rfl
  · obtain ⟨h1, h2⟩ := h t ht hx
    by_cases g : (patL t).length ≤ w.length
    · rw [mtL_cons g]
    · have e : mtL (patL t) w = false := by unfold mtL; rw [decide_eq_false g]; rfl
      rw [e]
      unfold mtL
      rw [if_neg h1]
      by_cases g2 : (patL t).length ≤ (y :: w).length
      · rw [List.length_cons] at g2
        rw [lastN_all (by rw [List.length_cons]; omega), decide_eq_false (p := y :: w = patL t) fun e => h2 (e ▸ List.mem_cons_self ..), Bool.and_false]
      · rw [decide_eq_false g2]; rfl
theorem famL_below {rs w : List (List Nat)} {y : List Nat} (hr : ∀ t ∈ rs, ruleB t = true) (hw : w ≠ []) (h : ∀ t ∈ rs, excT t = true → (patL t).head? ≠ some [42] ∧ y ∉ patL t) :
    (famL rs (y :: w) = famL rs w ∨ famL rs (y :: w) = y :: w) ∧ (sufN rs w = w.length → famL rs (y :: w) = y :: w) := by
  have e1 := excN_below (w := w) h
  have n1 := sufN_ge hr hw
  rw [famL_eq hr hw, famL_eq hr (List.cons_ne_nil y w)]
  by_cases h0 : 0 < excN rs w
  · have g := excN_ge hr h0
    have e2 : sufN rs w = excN rs w - 1 := by unfold sufN; rw [if_pos h0]
    have e3 : sufN rs (y :: w) = excN rs w - 1 := by unfold sufN; rw [e1, if_pos h0]
    rw [e2, e3, lastN_cons (by omega)]
    exact ⟨.inl rfl, fun q => by omega⟩
  · have e2 : sufN rs w = lonN rs w := by unfold sufN; rw [if_neg h0]
    have e3 : sufN rs (y :: w) = lonN rs (y :: w) := by unfold sufN; rw [e1, if_neg h0]
    rw [e3]
    rcases lonN_below rs w y with e | e
    · rw [e, ← e2]
      by_cases g : sufN rs w + 1 ≤ w.length
      · rw [lastN_cons g]
        exact ⟨.inl rfl, fun q => by omega⟩
      · rw [lastN_all (w := y :: w) (by rw [List.length_cons]; omega)]
        exact ⟨.inr rfl, fun _ => rfl⟩
    · rw [e, lastN_all (w := y :: w) (by rw [List.length_cons]; omega)]
      exact ⟨.inr rfl, fun _ => rfl⟩
end Kb
namespace Kb
open PySem PySem.Spec PyProof.Rows L2 TL
/-! ### drawn rules over a, b and c -/
def abc (l : List Nat) : Prop := l = [97] ∨ l = [98] ∨ l = [99]
def GenR (t : List Nat) : Prop := ∃ L : List (List Nat), L ≠ [] ∧ L.length ≤ 4 ∧ (∀ l ∈ L, abc l) ∧ (t = joinL [46] L ∨ t = 42 :: 46 :: joinL [46] L ∨ (2 ≤ L.length ∧ t = 33 :: joinL [46] L))
theorem abc_wlab {l : List Nat} (h : abc l) : wlab l = true := by rcases h with rfl | rfl | rfl <;> decide
theorem abc_lab {l : List Nat} (h : abc l) : labB l = true := (wlab_lab (abc_wlab h)).1
theorem abc_len {l : List Nat} (h : abc l) : l.length ≤ 1 := by rcases h with rfl | rfl | rfl <;> decide
theorem abc_head {L : List (List Nat)} (hL : L ≠ []) (h : ∀ l ∈ L, abc l) : ∃ a r, joinL [46] L = a :: r ∧ a ≠ 33 ∧ a ≠ 42 := by
  obtain ⟨l, r, rfl⟩ := List.exists_cons_of_ne_nil hL
  have h1 := h l (List.mem_cons_self ..)
  have e : ∀ z, ∃ s, joinL [46] ([z] :: r) = z :: s := fun z => by
    cases r with
    | nil => exact ⟨[], rfl⟩
    | cons q r => exact ⟨_, rfl⟩
  rcases h1 with rfl | rfl | rfl
  · obtain ⟨s, e⟩ := e 97; exact ⟨97, s, e, by decide, by decide⟩
  · obtain ⟨s, e⟩ := e 98; exact ⟨98, s, e, by decide, by decide⟩
  · obtain ⟨s, e⟩ := e 99; exact ⟨99, s, e, by decide, by decide⟩
theorem abc_sp1 {L : List (List Nat)} (hL : L ≠ []) (h : ∀ l ∈ L, abc l) : sp1 46 (joinL [46] L) = L := sp1_joinL hL fun l hl => dot_free (abc_lab (h l hl))
theorem GenR.cases {t : List Nat} (h : GenR t) : ∃ L : List (List Nat), L ≠ [] ∧ L.length ≤ 4 ∧ (∀ l ∈ L, abc l) ∧ ((excT t = false ∧ t = joinL [46] L ∧ patL t = L) ∨ (excT t = false ∧ t = 42 :: 46 :: joinL [46] L ∧ patL t = [42] :: L) ∨ (excT t = true ∧ 2 ≤ L.length ∧ t = 33 :: joinL [46] L ∧ patL t = L)) := by
  obtain ⟨L, h1, h2, h3, h4⟩ := h
  refine ⟨L, h1, h2, h3, ?_⟩
  rcases h4 with rfl | rfl | ⟨h4, rfl⟩
  · left
    obtain ⟨a, r, e, e1, e2⟩ := abc_head h1 h3
    have hx : excT (joinL [46] L) = false := by unfold excT; rw [e]; exact decide_eq_false (by simpa using e1)
    refine ⟨hx, rfl, ?_⟩
    unfold patL patT
    rw [hx]
    exact abc_sp1 h1 h3
  · right; left
    refine ⟨rfl, rfl, ?_⟩
    show sp1 46 ([42] ++ 46 :: joinL [46] L) = _
    rw [sp1_app, abc_sp1 h1 h3]
    rfl
  · right; right
    refine ⟨rfl, h4, rfl, ?_⟩
    exact abc_sp1 h1 h3
theorem GenR.rule {t : List Nat} (h : GenR t) : ruleB t = true := by
  obtain ⟨L, h1, h2, h3, h4⟩ := h.cases
  have all : L.all labB = true := List.all_eq_true.mpr fun l hl => abc_lab (h3 l hl)
  unfold ruleB
  rcases h4 with ⟨hx, e, hp⟩ | ⟨hx, e, hp⟩ | ⟨hx, h5, e, hp⟩
  · rw [hx, e]
    obtain ⟨a, r, ea, e1, e2⟩ := abc_head h1 h3
    have : [42, 46].isPrefixOf (joinL [46] L) = false := by
      rw [ea]
      show ((42 == a) && _) = false
      rw [beq_eq_false_iff_ne.mpr (Ne.symm e2), Bool.false_and]
    rw [this]
    simp only [Bool.false_eq_true, if_false]
    rw [abc_sp1 h1 h3]
    exact all
  · rw [hx, e]
    have : [42, 46].isPrefixOf (42 :: 46 :: joinL [46] L) = true := by simp [List.isPrefixOf]
    rw [this]
    simp only [Bool.false_eq_true, if_false, if_true, List.drop_succ_cons, List.drop_zero]
    rw [abc_sp1 h1 h3]
    exact all
  · rw [hx, e, if_pos rfl]
    show (decide (1 < (sp1 46 (joinL [46] L)).length) && (sp1 46 (joinL [46] L)).all labB) = true
    rw [abc_sp1 h1 h3, all, decide_eq_true (by omega)]
    rfl
theorem GenR.exc {t : List Nat} (h : GenR t) (hx : excT t = true) : (patL t).head? ≠ some [42] ∧ ∀ l ∈ patL t, abc l := by
  obtain ⟨L, h1, h2, h3, h4⟩ := h.cases
  rcases h4 with ⟨e0, e, hp⟩ | ⟨e0, e, hp⟩ | ⟨e0, h5, e, hp⟩
  · rw [e0] at hx; cases hx
  · rw [e0] at hx; cases hx
  · rw [hp]
    refine ⟨fun q => ?_, h3⟩
    have := h3 [42] (List.mem_of_mem_head? q)
    rcases this with q | q | q <;> simp at q
theorem GenR.head {t : List Nat} (h : GenR t) : t.head? ≠ some 122 := by
  obtain ⟨L, h1, h2, h3, rfl | rfl | ⟨_, rfl⟩⟩ := h
  · obtain ⟨l, r, rfl⟩ := List.exists_cons_of_ne_nil h1
    have hq := h3 l (List.mem_cons_self ..)
    have e : ∀ z, (joinL [46] ([z] :: r)).head? = some z := fun z => by cases r <;> rfl
    rcases hq with rfl | rfl | rfl <;> rw [e] <;> decide
  · simp
  · simp
theorem GenR.len {t : List Nat} (h : GenR t) : t.length ≤ 12 := by
  obtain ⟨L, h1, h2, h3, h4⟩ := h
  have := joinL_len (c := 46) (B := 1) L fun l hl => abc_len (h3 l hl)
  rcases h4 with rfl | rfl | ⟨_, rfl⟩
  · omega
  · simp only [List.length_cons]; omega
  · simp only [List.length_cons]; omega
end Kb
namespace Kb
open PySem PySem.Spec PyProof.Rows L2
theorem Same.seqT {K : PySem.W.Frag} {a : Addr} {H H' : Hp} {xs : List V} (k : Same H H') (h : SqT K H a xs) : SqT K H' a xs := by
  rcases h with (h | ⟨o, h⟩) | h
  · exact .inl (.inl (k _ _ h))
  · exact .inl (.inr ⟨o, k _ _ h⟩)
  · exact .inr h
theorem Keep.seqT {K : PySem.W.Frag} {d a : Addr} {H H' : Hp} {xs : List V} (k : Keep d H H') (n : a ≠ d) (h : SqT K H a xs) : SqT K H' a xs := by
  rcases h with (h | ⟨o, h⟩) | h
  · exact .inl (.inl (k _ _ h n))
  · exact .inl (.inr ⟨o, k _ _ h n⟩)
  · exact .inr h
end Kb
namespace Kb
open PySem PySem.Spec PyProof.Rows L2 TL PySem.StrLaws Builtin.Str
theorem cutS_from (z : Str) {i : Int} (h : 0 ≤ i) : tl (cutS z (some i) none) = (tl z).drop i.toNat := by
  obtain ⟨k, rfl⟩ : ∃ k : Nat, i = (k : Int) := ⟨i.toNat, by omega⟩
  show ((tl z).drop (HT.sIx z.length 0 (some (k : Int)))).take (HT.sIx z.length z.length none - HT.sIx z.length 0 (some (k : Int))) = _
  rw [HT.sIx_none, HT.sIx_nat, Int.toNat_natCast, len_tl]
  rw [List.take_of_length_le (by rw [List.length_drop] <;> omega)]
  rcases Nat.le_total k (tl z).length with g | g
  · rw [Nat.min_eq_left g]
  · rw [Nat.min_eq_right g, List.drop_of_length_le (Nat.le_refl _), List.drop_of_length_le g]
end Kb
namespace Kb
open PySem PySem.Spec PyProof.Rows L2 TL
def RulesOK (rs : List Str) : Prop := rs.Nodup ∧ ∀ r ∈ rs, ruleB (tl r) = true ∧ r.length ≤ 1000
end Kb
namespace Kb
open PySem PySem.Spec PyProof.Rows L2 TL
theorem abc_at {r : Int} (h0 : 0 ≤ r) (h1 : r < 3) : ∃ c : Nat, atI ("abc" : Str).cps.toList r = some c ∧ abc (tl (⟨#[c]⟩ : Str)) := by
  rcases (by omega : r = 0 ∨ r = 1 ∨ r = 2) with rfl | rfl | rfl
  · exact ⟨97, by decide +kernel, .inl rfl⟩
  · exact ⟨98, by decide +kernel, .inr (.inl rfl)⟩
  · exact ⟨99, by decide +kernel, .inr (.inr rfl)⟩
theorem words_join (W : List Str) : tl (Txt.join ("." : Str) W) = joinL [46] (W.map tl) := by rw [join_tl, tl_dot]
theorem words_len {W : List Str} {B : Nat} (h : ∀ x ∈ W, (tl x).length ≤ B) : (W.map (·.length)).sum ≤ W.length * B :=
  PySem.StrLaws.sumLen_le (B := B) W fun w hw => by rw [len_tl]; exact h w hw
end Kb
namespace Kb
open PySem PySem.Spec PyProof.Rows L2 TL
theorem Keep.newer {d L : Addr} {H H' : Hp} (k : Keep d H H') (n : L ≠ d) (h : H' L = none) : H L = none := by
  cases e : H L with
  | none => rfl
  | some o => rw [k _ _ e n] at h; cases h
theorem Same.newer {L : Addr} {H H' : Hp} (k : Same H H') (h : H' L = none) : H L = none := by
  cases e : H L with
  | none => rfl
  | some o => rw [k _ _ e] at h; cases h
theorem in_strs {r : Str} {L : List Str} : inV (.str r) (L.map V.str) = decide (r ∈ L) := by
  unfold inV
  rw [Bool.eq_iff_iff, List.any_eq_true, decide_eq_true_eq]
  constructor
  · rintro ⟨v, hv, q⟩
    obtain ⟨x, hx, rfl⟩ := List.mem_map.mp hv
    have : x = r := by simpa [eqV] using q
    exact this ▸ hx
  · intro h
    exact ⟨.str r, List.mem_map.mpr ⟨r, h, rfl⟩, by simp [eqV]⟩
theorem flat_strs (L : List Str) : (L.map V.str).all flatV = true := by
  rw [List.all_eq_true]
  intro v hv
  obtain ⟨x, _, rfl⟩ := List.mem_map.mp hv
  rfl
end Kb
namespace Kb
open PySem PySem.Spec PyProof.Rows L2 TL
/-! ### hosts of small labels -/
theorem host_facts {w : List (List Nat)} {t : Str} (hw : w ≠ []) (hl : w.length ≤ 10) (ha : ∀ l ∈ w, wlab l = true) (e : tl t = joinL [46] w) :
    hostB (tl t) = true ∧ addrB (tl t) = false ∧ sp1 46 (tl t) = w ∧ t.length ≤ 50 := by
  have h : HostW 10 t := ⟨w, hw, hl, ha, e⟩
  have h1 := h.host (Nat.le_refl 10)
  have h2 := h.len
  refine ⟨h1.1, ?_, by rw [e, sp1_joinL hw fun p hp => dot_free (wlab_lab (ha p hp)).1], by omega⟩
  unfold addrB
  rw [h1.2, Bool.and_false]
theorem fit_last {w : List (List Nat)} {k : Nat} {h d : List Nat} (e1 : sp1 46 h = w) (e2 : sp1 46 d = lastN k w) (hk : k ≤ w.length) (ha : addrB h = false) : fitB h d = true := by
  have hd : (sp1 46 d).length = k := by rw [e2, lastN_len, Nat.min_eq_left hk]
  have := (sp1_suffix 46 h d).mp ⟨by rw [hd, e1]; exact hk, by rw [e1, hd, e2]; rfl⟩
  unfold fitB
  rw [ha]
  rcases this with q | q
  · rw [decide_eq_true q]; rfl
  · rw [List.isSuffixOf_iff_suffix.mpr q]; simp
theorem famL_len {rs w : List (List Nat)} (hr : ∀ t ∈ rs, ruleB t = true) (hw : w ≠ []) : famL rs w = lastN (famL rs w).length w ∧ 1 ≤ (famL rs w).length ∧ (famL rs w).length ≤ w.length := by
  have h0 : 0 < w.length := List.length_pos_iff.mpr hw
  have := sufN_ge hr hw
  have e := famL_eq hr hw
  have el : (famL rs w).length = min (sufN rs w + 1) w.length := by rw [e, lastN_len]
  refine ⟨?_, by omega, by omega⟩
  rw [el, lastN_min]; exact e
theorem lastN_ne {α : Type} {k : Nat} {w : List α} (h1 : 1 ≤ k) (h2 : w ≠ []) : lastN k w ≠ [] := fun q => by
  have := lastN_len k w
  have h0 : 0 < w.length := List.length_pos_iff.mpr h2
  rw [q, List.length_nil] at this
  omega
theorem lastN_map {α β : Type} (f : α → β) (k : Nat) (w : List α) : (lastN k w).map f = lastN k (w.map f) := by
  unfold lastN; rw [List.map_drop, List.length_map]
/-- a rule that asks a label before the host -/
theorem zrule {w : List (List Nat)} {t : List Nat} {rs : List (List Nat)} (hw : w ≠ []) (ha : ∀ l ∈ w, abc l) (e : t = 122 :: 46 :: joinL [46] w) (u : List (List Nat)) (hu : u.length ≤ w.length) :
    ruleB t = true ∧ sufN (rs ++ [t]) u = sufN rs u := by
  have hx : excT t = false := by rw [e]; rfl
  have hp : patL t = [122] :: w := by
    unfold patL patT
    rw [hx, e]
    show sp1 46 ([122] ++ 46 :: joinL [46] w) = _
    rw [sp1_app, abc_sp1 hw ha]; rfl
  constructor
  · unfold ruleB
    rw [hx, e]
    have : [42, 46].isPrefixOf (122 :: 46 :: joinL [46] w) = false := rfl
    rw [this]
    simp only [Bool.false_eq_true, if_false]
    show (sp1 46 ([122] ++ 46 :: joinL [46] w)).all labB = true
    rw [sp1_app, abc_sp1 hw ha, List.all_append, Bool.and_eq_true]
    exact ⟨by decide +kernel, List.all_eq_true.mpr fun l hl => abc_lab (ha l hl)⟩
  · refine sufN_snoc ?_
    rw [hp]
    unfold mtL
    rw [decide_eq_false (by rw [List.length_cons]; omega)]; rfl
theorem below_ok {rs : List (List Nat)} (h : ∀ t ∈ rs, GenR t) : ∀ t ∈ rs, excT t = true → (patL t).head? ≠ some [42] ∧ [121] ∉ patL t := fun t ht hx => by
  obtain ⟨h1, h2⟩ := (h t ht).exc hx
  exact ⟨h1, fun q => by rcases h2 _ q with r | r | r <;> simp at r⟩
end Kb

namespace Kb
open PySem PySem.Spec PyProof.Rows L2
/-! ### enumerate(tuple) -/
theorem enum_newB {v : Value} {o : Obj} {H : Heap → Prop} (B : Begins v o H) :
    Meets (Builtin.«enumerate.__new__» ⟨[.type "enumerate", v], []⟩) (fun _ R s => H s.heap ∧
      R (.ok (.ret (.ref (s.heap.push o).objs.size))) { s with heap := (s.heap.push o).push { cls := .type "enumerate", data := .fields #[.none, .bool false, .ref s.heap.objs.size, rawInt 0, .none, .none] } }) :=
  .of_wp fun prog w A R s h => by
    obtain ⟨hp, g, d, tk, os⟩ := s; obtain ⟨h1, h⟩ := h
    have hsub := sub_enumerate
    have q1 : ∀ {A' : Around} {E : Value → Shared → Prop} {Q : Value → Shared → Prop}, Q (.ref hp.objs.size) ⟨hp.push o, g, d, tk, os⟩ → wpAny (model prog w) A' (pyIter v) Q E ⟨hp, g, d, tk, os⟩ :=
      fun q => B.iter prog w _ _ ⟨hp, g, d, tk, os⟩ _ h1 q
    wp_walk using q1
    refine wpAny_stack_any fun st => wpAny_pure ?_
    split
    · rename_i c _ _ _ _ _
      cases (c == Value.type "enumerate")
      · wp_walk using q1
        exact ⟨_, rfl, h⟩
      · wp_walk using q1
        exact ⟨_, rfl, h⟩
    · wp_walk using q1
      exact ⟨_, rfl, h⟩
section
variable {prog : Program} {w : World} {A : Around} {E : Value → Shared → Prop} {s : Shared}
theorem call_enum1 {v : Value} {o : Obj} {H : Heap → Prop} {Q : Value → Shared → Prop} (B : Begins v o H) (h1 : H s.heap)
    (h : ∀ h', IsEnum h' (s.heap.objs.size + 1) s.heap.objs.size 0 .none → h'.get? s.heap.objs.size = some o → h'.objs.size = s.heap.objs.size + 2 →
      (∀ b o, s.heap.get? b = some o → h'.get? b = some o) → Q (.ref (s.heap.objs.size + 1)) { s with heap := h' }) :
    wpAny (model prog w) A (call (.type "enumerate") [v]) Q E s := by
  refine callType_new F.called_enumerate (by decide) (F.typeCall_enumerate_1 _) (F.newCall_enumerate_1 _) (fun obj => F.args_object_init_2 obj _) F.entry_enumerate_new
    (enum_newB B) ⟨h1, ?_⟩
  have hz : (s.heap.push o).objs.size = s.heap.objs.size + 1 := Heap.size_push ..
  show _ ∧ _
  rw [hz]
  have he : IsEnum ((s.heap.push o).push { cls := .type "enumerate", data := .fields #[.none, .bool false, .ref s.heap.objs.size, rawInt 0, .none, .none] }) (s.heap.objs.size + 1) s.heap.objs.size 0 .none := by
    have := Heap.get?_push_size (s.heap.push o) (o := { cls := .type "enumerate", data := .fields #[.none, .bool false, .ref s.heap.objs.size, rawInt 0, .none, .none] }) rfl
    rw [hz] at this; exact this
  refine ⟨⟨_, he, rfl⟩, h _ he (Heap.get?_push_of_some _ (Heap.get?_push_size _ B.free)) (by rw [Heap.size_push, hz]) fun b o x => Heap.get?_push_of_some _ (Heap.get?_push_of_some _ x)⟩
end
def Itet (K : PySem.W.Frag) (a : Addr) : It :=
  ⟨fun i H => ∃ (xs : List V) (x : V), SqT K H a xs ∧ xs[i]? = some x, fun i H v H' => ∃ T x, v = .ref T ∧ H T = none ∧ H' = L2.upd H T (.tup [.int (i : Nat), x]) ∧ ∀ xs, SqT K H a xs → xs[i]? = some x, fun i H => ∃ xs : List V, SqT K H a xs ∧ xs.length ≤ i⟩
theorem turn_enumT {P : Program} {w : World} {K : PySem.W.Frag} {elts : List Expr} {kk : Nat} {tpos : Pos} (a e it : Addr) :
    Turn P w K (.Tuple elts kk tpos) (Itet K a) [e, it] e (fun i h => (∃ old, IsEnum h e it ((i : Nat) : Int) old) ∧ h.IsTupleIter it a i ∧ e ≠ it ∧ e ≠ a ∧ a ≠ it) where
  mem := by simp
  obj := fun i h st b hb => by
    obtain ⟨⟨old, he⟩, ⟨o, ho, hc, hd⟩, _⟩ := st
    have e' : b = e ∨ b = it := by simpa using hb
    rcases e' with z | z
    · rw [z]; exact ⟨_, he, fun v q => nomatch q⟩
    · rw [z]; exact ⟨o, ho, fun v q => by rw [hd] at q; cases q⟩
  keep := fun i h h' st k => let ⟨⟨old, he⟩, hi, hne⟩ := st; ⟨⟨old, k e (by simp) _ he⟩, hi.at fun o q => k it (by simp) o q, hne⟩
  item := by
    intro X hP hw hK hc i pins s σ H E I hf st hg
    subst hP hw hK
    obtain ⟨⟨old, he⟩, hit, hne, hea, hai⟩ := st
    obtain ⟨xs, x, hq, hx⟩ := hg
    obtain ⟨its, rv, p, hz⟩ := I.tuple hq
    obtain ⟨u, hu, ru⟩ := rv.get hx
    have hel : e < s.heap.objs.size := Heap.lt_size he
    have hil : it < s.heap.objs.size := by obtain ⟨_, q, _⟩ := hit; exact Heap.lt_size q
    have hlt : i < its.toArray.size := by
      have := (List.getElem?_eq_some_iff.mp hu).1
      simpa using this
    have hhd : X.A.in1.handled = none := I.ok.hd hc
    refine wpAny_pyNext_enum_itemD (Draws.tuple hhd it a hai its.toArray) he ⟨hit, show s.heap.IsTuple a its.toArray from p⟩ hlt hne (by simp [hne, hea]) fun x' h' tk hP ho hst' hT hsz hk => ?_
    have ex : x' = u := by
      have e1 : its[i]? = some x' := by simpa using hP
      rw [e1] at hu
      exact Option.some.inj hu
    subst ex
    obtain ⟨hit', _⟩ := hst'
    refine ⟨_, rfl, wpAny_letOwnedTupleGo_enum (s := { s with heap := h', toks := tk + 1 }) ho fun h'' he' sb => ?_⟩
    have hT2 : h''.get? s.heap.objs.size = some { cls := .type "tuple", data := .seq #[.int i tk, x'] } := (sb.2 _ (Nat.ne_of_gt hel)).trans hT
    have new : ObjOk X.prog X.w (L2.upd H s.heap.objs.size (.tup [.int (i : Nat), x])) h'' s.heap.objs.size (.tup [.int (i : Nat), x]) :=
      ⟨by show 2 ≤ sizeLine; decide, [.int i tk, x'], .cons ⟨_, rfl⟩ (.cons ru .nil), ⟨_, hT2, rfl, _, rfl⟩⟩
    have I1 : Inv X pins σ (L2.upd H s.heap.objs.size (.tup [.int (i : Nat), x])) { s with heap := h'', toks := tk + 1 } :=
      I.turnedNew (ch := [e, it]) (fun b ob hb q => (sb.2 b (fun z => hb (by simp [z]))).trans (hk b ob (fun z => hb (by simp [z])) (fun z => hb (by simp [z])) q)) hf (Nat.le_refl _) new
    refine ⟨.ref s.heap.objs.size, _, I1, rfl, ⟨_, x, rfl, I.hok.fresh (Nat.le_refl _), rfl, fun ys hy => by rw [I.tuple_inj hy hq]; exact hx⟩, ⟨⟨x', ?_⟩, hit'.at fun o q => (sb.2 it (Ne.symm hne)).trans q, hne, hea, hai⟩, fun b hb => ?_⟩
    · have e1 : ((i + 1 : Nat) : Int) = (i : Int) + 1 := by omega
      rw [e1]; exact he'
    · have hb' : b < s.heap.objs.size := by
        have e' : b = e ∨ b = it := by simpa using hb
        rcases e' with z | z
        · rw [z]; exact hel
        · rw [z]; exact hil
      rw [upd_ne (Nat.ne_of_lt hb')]
      exact (hf b hb).1
  done := by
    intro X hP hw hK hc i pins s σ H E I hf st hg
    subst hP hw hK
    obtain ⟨⟨old, he⟩, hit, hne, hea, hai⟩ := st
    obtain ⟨xs, hq, hx⟩ := hg
    obtain ⟨its, rv, p, hz⟩ := I.tuple hq
    obtain ⟨f0, f1, f2, f3, f4, f5⟩ := hf it (by simp)
    have hl := rv.length
    have hT : s.TypeIs (.ref e) "enumerate" := ⟨_, he, rfl⟩
    unfold pyNext
    refine wpAny_bind (wpAny_attempt (wpAny_callSpecial?_slot (name := Str.ofString "__next__") hT F.slot_enumerate_next
      (wpAny_call_entry F.slot_enumerate_next hT F.entry_enumerate_next ?_ (F.args_enumerate_next_1 _))))
    show wpAny _ _ (field (.ref e) 2 >>= _) _ _ _
    refine wpAny_bind (wpAny_field he rfl (x := .ref it) rfl ?_)
    refine wpAny_bind (wpAny_nextOf_tuple_end (show X.A.in1.handled = none from I.ok.hd hc) hit (show s.heap.IsTuple a its.toArray from p) (by simp; omega) fun h' x he' hx' => ?_)
    obtain ⟨o, ho, hcc⟩ := hx'
    refine wpAny_bind (wpAny_isInstance (T := "StopIteration") (b := true) ⟨o, ho, hcc⟩ isSubtype_stop ?_)
    exact wpAny_pure ⟨rfl, I.turned (t' := s.toks) (fun b o hb q => he' b o hb q) f0 f1 f3 f4 f5⟩
  self := fun A i s Q E st h => let ⟨⟨_, he⟩, _⟩ := st; wpAny_pyIter_enum he h
def iEnumT (K : PySem.W.Frag) (ta : TA) : TI := fun σ H R => ta σ H fun vs H1 => ∃ a xs, vs = [.ref a] ∧ SqT K H1 a xs ∧ R (Itet K a) H1
theorem pi_enumT {X : Cx} {e : Expr} {ta : TA} {p pos tpos : Pos} {elts : List Expr} {kk : Nat} (hg : Gl X "enumerate") (hm : X.mg "enumerate" = none) (ha : PA X [e] ta) (hs : starEach [e] X.env = [(false, eval e X.env)] := by rfl) :
    PI X (.Tuple elts kk tpos) (.Call (.Name "enumerate" p) [e] [] pos) (iEnumT X.K ta) := by
  refine ⟨fun pins s σ H R I h => ?_⟩
  refine Call_ (ld_blt I hg hm boot_enumerate (PyProof.Rows.callWith_type1 (thn (ha.run pos pins s σ H _ I h) fun us s1 ⟨vs, H1, I1, r1, q1⟩ => ?_) hs rfl))
  obtain ⟨a, xs, ex, hq, q⟩ := q1
  subst ex
  cases r1 with
  | cons r rr =>
    cases rr
    cases r
    obtain ⟨its, rv, p', hz⟩ := I1.tuple hq
    have p'' : s1.heap.IsTuple a its.toArray := p'
    have hal : a < s1.heap.objs.size := by obtain ⟨_, q, _⟩ := id p''; exact Heap.lt_size q
    refine call_enum1 (begins_tuple a its.toArray) p'' fun h' he hit hsz hk => wpAny_pyIter_enum he ?_
    have I2 : Inv X pins σ H1 { s1 with heap := h' } := I1.kept (t' := s1.toks) hk
    refine ⟨s1.heap.objs.size + 1, [s1.heap.objs.size + 1, s1.heap.objs.size], _, _, H1, rfl, I2, turn_enumT a (s1.heap.objs.size + 1) s1.heap.objs.size, ⟨⟨.none, he⟩, ⟨_, hit, rfl, rfl⟩, Nat.succ_ne_self _, Nat.ne_of_gt (Nat.lt_succ_of_lt hal), Nat.ne_of_lt hal⟩, fun b hb => ?_, q⟩
    have e' : b = s1.heap.objs.size + 1 ∨ b = s1.heap.objs.size := by simpa using hb
    have hle : s1.heap.objs.size ≤ b := by
      rcases e' with z | z
      · rw [z]; exact Nat.le_add_right _ _
      · rw [z]; exact Nat.le_refl _
    exact I1.fpOk hle (I1.hok.fresh hle)
theorem walk_enumT {K : PySem.W.Frag} {a : Addr} {xs : List V} : Walk (Itet K a) xs.length (fun H => SqT K H a xs) (YPair (fun i => some (.int (i : Nat))) (fun i => xs[i]?)) := by
  refine ⟨fun i _ hi q => ⟨xs, xs[i], q, by simp [hi]⟩, fun _ q => ⟨xs, q, Nat.le_refl _⟩, fun i H v H' _ q y => ?_⟩
  obtain ⟨T, x, h1, h2, h3, h4⟩ := y
  exact ⟨T, .int (i : Nat), x, h1, h2, h3, rfl, h4 xs q⟩
section
variable {K : PySem.W.Frag} {a : Addr} {xs : List V} {g : TG} {tb : TS} {D : Ends} {σ : L2.St} {H : Hp}
theorem for_enumT (Pv : Nat → L2.St → Hp → Prop) (h0 : Pv 0 σ H) (hG : ∀ i σ H, i ≤ xs.length → Pv i σ H → SqT K H a xs)
    (hs : ∀ i x T σ H, xs[i]? = some x → Pv i σ H → H T = none → g (.ref T) σ (L2.upd H T (.tup [.int (i : Nat), x])) fun σ2 H2 => tb { D with nx := Pv (i + 1), ct := Pv (i + 1), bk := D.nx } σ2 H2) (hd : ∀ σ H, Pv xs.length σ H → D.nx σ H) :
    ∃ W : Nat → Nat → L2.St → Hp → Prop, (∃ m, W 0 m σ H) ∧ ∀ i m σ H, W i m σ H →
      ((Itet K a).stop i H ∧ D.nx σ H) ∨ ((Itet K a).go i H ∧ ∃ N : L2.St → Hp → Prop, (∀ σ' H', N σ' H' → ∃ m', m' < m ∧ W (i + 1) m' σ' H') ∧ ∀ x H', (Itet K a).yld i H x H' → g x σ H' fun σ2 H2 => tb { D with nx := N, ct := N, bk := D.nx } σ2 H2) := by
  refine for_it walk_enumT Pv h0 hG (fun i x σ H H' hi p y => ?_) hd
  obtain ⟨T, x, y, rfl, hT, rfl, h1, h2⟩ := y
  cases h1
  exact hs i y T σ H h2 p hT
end
end Kb

namespace Kb
open PySem PySem.Spec PyProof.Rows L2
/-! ### own errors with one field -/
def spInit (K : PySem.W.Frag) (C : Addr) (f : Str) : Sp := fun vs H Q _ => ∃ (a : Addr) (v : V), vs = [.ref a, v] ∧ H a = some (exo a C none) ∧ OexC K C ∧ PySem.W.findIn K (.ref C) f = some none ∧
  ∀ dx, H dx = none → dx ≠ a → Q .non (L2.upd (L2.upd H dx (exd dx [(f, v)])) a (exo a C (some dx)))
/-- what the top has written of such a class -/
structure Err (K : PySem.W.Frag) (mg : Str → Option Value) (cn f : Str) (C : Addr) : Prop where
  T : OexC K C
  X : XfC K C
  g : mg cn = some (.ref C)
  no : PySem.W.findIn K (.ref C) f = some none
  te : PySem.W.exmOne K (.ref C) (.ref C) = some true
  ini : ∃ (fI : Addr) (fd : FuncData), PySem.W.findIn K (.ref C) "__init__" = some (some (.ref fI)) ∧ PySem.W.typeIn K (.ref fI) = some (.type "function") ∧ Binds K fd ["self", f] [] ∧
    ∀ (P : Program) (w : World) (base : Heap), FnOk P w K mg base CX0 1 fI fd ["self", f] (spInit K C f)
/-- C(e) -/
def tErr (C : Addr) (f : Str) (ta : TA) : L2.St → Hp → XK → Prop := fun σ H Q => ta σ H fun vs H1 => ∃ v, vs = [v] ∧ ∀ d, H1 d = none → Q (.ref C) (some d) (L2.upd H1 d (.xd [(f, v)]))
def taMono (t : TA) : TA := fun σ H Q => ∃ Q0 : List V → Hp → Prop, t σ H Q0 ∧ ∀ x H1, Q0 x H1 → Q x H1
theorem pa_mono {X : Cx} {es : List Expr} {t : TA} (h : PA X es t) : PA X es (taMono t) :=
  ⟨fun pos pins s σ H Q I ⟨Q0, h0, m⟩ => thn (h.run pos pins s σ H Q0 I h0) fun us s1 ⟨vs, H1, I1, r1, q1⟩ => ⟨vs, H1, I1, r1, m _ _ q1⟩⟩
theorem upd_del {H : Hp} {a d : Addr} {o1 o2 o3 o4 : HO} (ha : H a = none) (hd : d ≠ a) : L2.upd (del (L2.upd (L2.upd (L2.upd H a o1) d o2) a o3) a) d o4 = L2.upd H d o4 := by
  funext b
  by_cases h1 : b = d
  · subst h1; rw [upd_same, upd_same]
  · rw [upd_ne h1, upd_ne h1]
    by_cases h2 : b = a
    · subst h2; rw [del_same, ha]
    · rw [del_ne h2, upd_ne h2, upd_ne h1, upd_ne h2]
section
variable {X : Cx}
theorem pmk_err {cn f : Str} {C : Addr} {e : Expr} {ta : TA} {p pos : Pos} {k : Nat} (T : Err X.K X.mg cn f C) (hr : Room k X.A) (hk : 2 ≤ k) (hx : Passes CX0 X (fun _ _ _ => False)) (ha : PA X [e] ta) (hg : Gl X cn)
    (hdb : (cn == ("__debug__" : Str)) = false := by decide) (he : starEach (e :: []) X.env = (false, eval e X.env) :: starEach [] X.env := by rfl) (hpl : (backTo pos (starEach [] X.env)).any (·.1) = false := by rfl) :
    PMk X (.Call (.Name cn p) [e] [] pos) (tErr C f ta) := by
  intro pins s σ H Q I h
  obtain ⟨fI, fd, iC, tI, hb, F⟩ := T.ini
  refine pmk_oex (dvs := []) (ds := []) T.T iC tI (F X.prog X.w X.base) (hr.mono hk) hb .nil hx hg T.g (pa_mono ha) hdb he hpl pins s σ H Q I ?_
  refine ⟨_, h, ?_⟩
  rintro vs H1 ⟨v, rfl, hq⟩
  refine ⟨by show 1 ≤ 1000; decide, fun a hn => ⟨a, v, rfl, upd_same, T.T, T.no, fun dx hdx hne => ⟨rfl, dx, [(f, v)], upd_same, ?_, ?_, ?_⟩⟩⟩
  · rw [upd_ne hne, upd_same]
  · rw [upd_ne hne] at hdx; exact hdx
  · rw [upd_ne hne] at hdx
    rw [upd_del hn hne]
    exact hq dx hdx
/-- raise C(e) -/
def tRaise (C : Addr) (f : Str) (W : WX) (ta : TA) : TS := fun _ σ H => tErr C f ta σ H fun cls d H' => W cls d σ H'
theorem ps_raiseE {cn f : Str} {C : Addr} {e : Expr} {ta : TA} {W : WX} {p pos pos2 : Pos} {k : Nat} (hc : X.calm = true) (T : Err X.K X.mg cn f C) (hr : Room k X.A) (hk : 2 ≤ k) (hx : Passes CX0 X (fun _ _ _ => False)) (tk : Takes X W) (ha : PA X [e] ta) (hg : Gl X cn)
    (hdb : (cn == ("__debug__" : Str)) = false := by decide) (he : starEach (e :: []) X.env = (false, eval e X.env) :: starEach [] X.env := by rfl) (hpl : (backTo pos (starEach [] X.env)).any (·.1) = false := by rfl) :
    PS X (.Raise (some (.Call (.Name cn p) [e] [] pos)) none pos2) (tRaise C f W ta) := ps_raise hc tk (pmk_err T hr hk hx ha hg hdb he hpl)
theorem pe_cX {W : WX} {j k : Nat} {x : Str} {ps : List Str} {sp : Sp} {p pos : Pos} {e : Expr} {es : List Expr} {t : TA} (c : Cal X.prog X.w X.K X.mg X.base (L2.CX X.prog X.w) j x ps sp) (hr : Room k X.A) (hjk : j ≤ k) (hg : Gl X x) (tk : Takes X W)
    (ha : PA X (e :: es) t) (hdb : (x == ("__debug__" : Str)) = false := by decide) (he : starEach (e :: es) X.env = (false, eval e X.env) :: starEach es X.env := by rfl) (hpl : (backTo pos (starEach es X.env)).any (·.1) = false := by rfl) :
    PE X (.Call (.Name x p) (e :: es) [] pos) (tCallS sp (WE W) t) := by
  obtain ⟨f, fd, F, m, kp, b⟩ := c
  exact pe_callS F (hr.mono hjk) hg m kp b (fun σ => passAt tk σ) ha hdb he hpl
end
section
variable {P : Program} {w : World} {K : PySem.W.Frag} {mg : Str → Option Value} {base : Heap}
theorem Df.okX {x : Str} {st : Stmt} {N ps : List Str} {k : Nat} {sp : Sp} (D : Df K mg x st ps) (S : FnScope N ps (defScope st)) (len : ∀ vs H Q E, sp vs H Q E → vs.length = ps.length)
    (hbody : ∀ (f : Addr) (cdv : Value) (A : Around) (outer : List Env) (s : Shared) (H : Hp) (vs : List V) (Q : VK) (E : XK), Room k (A.deeper (envOfC x (defScope st) s.heap.objs.size f cdv)) → sp vs H Q E →
      ∃ t, PSs (cxOf (L2.CX P w) P w K mg base N x (defScope st) f cdv A outer s H E) (defBody st) t ∧ t { nx := fun _ H' => Q .non H', rt := Q } (start N vs) H) : Cal P w K mg base (L2.CX P w) (k + 1) x ps sp := by
  obtain ⟨f, fd, F, m, b⟩ := D
  exact ⟨f, fd, F.okX S len (hbody f), m, F.kp, .all b⟩
end
/-! ### such a class, from the written part -/
theorem exm_own {K : PySem.W.Frag} {S : Addr} (h1 : PySem.W.subIn K (.ref S) (.type "BaseException") = some true) (h2 : PySem.W.isClsIn K S = true) (h3 : PySem.W.typeIn K (.ref S) = some (.type "type")) (h4 : PySem.W.subIn K (.ref S) (.ref S) = some true) :
    PySem.W.exmOne K (.ref S) (.ref S) = some true := by
  unfold PySem.W.isClsIn at h2
  unfold PySem.W.exmOne
  simp only [h1, h2, h3, h4]
  unfold PySem.W.kitCls
  simp [h2, h3, h4]
theorem Err.mk' {K : PySem.W.Frag} {mg : Str → Option Value} {h : Heap} {cn f q0 : Str} {C fI : Addr} {st : Stmt} {nm q : Str} {N : Addr} {bs bm : List Value} {sn : List Str} {sub : List Value} {ab : Bool} {col : Option Bool} {dd : Option Addr} {m0 m1 m2 m3 m5 : Option Value}
    {oc : Value} {od an : Option Addr} {sl : Array (Option Value)} {kV doc pm cd ct : Value} (X : K.In h) (G : h.Ns PySem.mainGlobals mg)
    (b : ∀ (kV doc pm : Value) (an : Option Addr) (cdv ct : Value) (us : List Value), us.length = (["self", f] : List Str).length → bindArgs (PySem.W.fnOf "__init__" q0 (defArgs st) (defBody st) (defScope st) .none kV doc pm an cdv ct) ⟨us, []⟩ = pure ((["self", f] : List Str).zip us))
    (ok : ∀ {fI : Addr} {fd : FuncData} (P : Program) (w : World) (base : Heap), Fun K "__init__" q0 st fI fd → FnOk P w K mg base CX0 1 fI fd ["self", f] (spInit K C f))
    (aC : PySem.W.nsIn K PySem.mainGlobals cn = some (some (.ref C)))
    (xL : K.lookup C = some (excClassObj nm q C N bs bm true sn sub ab col dd m0 m1 m2 m3 m5 "ValueError.__new__")) (rv : PySem.HandSPX.refsVE bm = true)
    (sa : PySem.W.findIn K (.ref C) "__setattr__" = some (some (.builtin "object.__setattr__"))) (ga : PySem.W.findIn K (.ref C) "__getattribute__" = some (some (.builtin "BaseException.__getattribute__"))) (gg : PySem.W.findIn K (.ref C) "__getattr__" = some none) (nb : PySem.W.findIn K (.ref C) f = some none)
    (a1 : PySem.W.findIn K (.ref C) "__init__" = some (some (.ref fI))) (t1 : PySem.W.typeIn K (.ref fI) = some (.type "function"))
    (l1 : K.lookup fI = some ⟨oc, od, .func (PySem.W.fnOf "__init__" q0 (defArgs st) (defBody st) (defScope st) .none kV doc pm an cd ct), sl⟩) (c1 : PySem.W.codeIn K cd q0 = true) (k1 : PySem.W.keepIn K (.ref fI) = true)
    (kC : PySem.W.keepIn K (.ref C) = true) (eC : PySem.W.subIn K (.ref C) (.type "BaseException") = some true) (tC : PySem.W.typeIn K (.ref C) = some (.type "type")) (hC : PySem.W.hasDictIn K C = true) (iC : PySem.W.isClsIn K C = true) (sC : PySem.W.subIn K (.ref C) (.ref C) = some true) : Err K mg cn f C where
  T := ⟨⟨nm, q, N, bs, bm, sn, sub, ab, col, dd, m0, m1, m2, m3, m5, xL, rv⟩, sa, eC, tC, kC⟩
  X := ⟨ga, gg, eC, hC⟩
  g := PySem.W.mg_of X G aC
  no := nb
  te := exm_own eC iC tC sC
  ini := ⟨fI, _, a1, t1, .all (b kV doc pm an cd ct), fun P w base => ok P w base (fun_mk l1 c1 k1)⟩
end Kb
namespace Kb
open PySem PySem.Spec PyProof.Rows L2
/-- nothing is let out -/
theorem passF {P : Program} {w : World} {X : Cx} : Passes (L2.CX P w) X (fun _ _ _ => False) := fun _ _ _ _ _ _ _ h => by
  obtain ⟨_, _, _, _, _, _, _, _, _, _, _, _, q⟩ := h
  exact q.elim
end Kb
namespace Kb
open PySem PySem.Spec PyProof.Rows L2
/-- a tuple of the written part -/
theorem sqT_of_lookup {K : PySem.W.Frag} {a : Addr} {dd : Option Addr} {its : Array Value} {n : Nat} {sl : Array (Option Value)} {xs : List V} (l : K.lookup a = some ⟨.type "tuple", dd, .seq its n, sl⟩) (z : its.size ≤ sizeLine) (v : Vals xs its.toList) : ∀ H : Hp, SqT K H a xs :=
  fun _ => .inr ⟨_, its, n, l, rfl, rfl, z, v⟩
theorem pe_gt {X : Cx} {x : Str} {pos : Pos} {a : Addr} (hg : Gl X x) (h : X.mg x = some (.ref a)) (hd : (x == ("__debug__" : Str)) = false := by decide) : PE X (.Name x pos) (tC (.ref a)) := pe_glob hg h rfl hd
end Kb

namespace Kb
open PySem PySem.Spec PyProof.Rows L2
/-! ### defs that are called while no repr is under way -/
structure FnG (P : Program) (w : World) (K : PySem.W.Frag) (mg : Str → Option Value) (base : Heap) (CX : CXT) (k : Nat) (f : Addr) (fd : FuncData) (ps : List Str) (sp : Sp) : Prop where
  len : ∀ vs H Q E, sp vs H Q E → vs.length = ps.length
  run : ∀ (A : Around) (outer : List Env) (s : Shared) (H : Hp) (args : Args) (us : List Value) (vs : List V) (Q : VK) (E : XK), A.guards = some [] → Room k A → Env0 P w K mg base A outer s H → BindsTo s fd args (ps.zip us) → Vals vs us → sp vs H Q E →
    codeAny (model P w) A (.call (.ref f) args) (CR CX outer P w H s Q E) s
section
variable {P : Program} {w : World} {K : PySem.W.Frag} {mg : Str → Option Value} {base : Heap} {CX : CXT}
theorem FnG.mono {j k : Nat} {f : Addr} {fd : FuncData} {ps : List Str} {sp : Sp} (F : FnG P w K mg base CX j f fd ps sp) (h : j ≤ k) : FnG P w K mg base CX k f fd ps sp :=
  ⟨F.len, fun A outer s H args us vs Q E hg hr => F.run A outer s H args us vs Q E hg (hr.mono h)⟩
theorem fnG_of {k : Nat} {f : Addr} {x qual : Str} {st : Stmt} {fd : FuncData} {N ps : List Str} {sp : Sp} (F : Fun K x qual st f fd) (S : FnScope N ps (defScope st)) (len : ∀ vs H Q E, sp vs H Q E → vs.length = ps.length)
    (hbody : ∀ (cdv : Value) (A : Around) (outer : List Env) (s : Shared) (H : Hp) (vs : List V) (Q : VK) (E : XK), A.guards = some [] → Room k (A.deeper (envOfC qual (defScope st) s.heap.objs.size f cdv)) → sp vs H Q E →
      ∃ t, PSs (cxOf CX P w K mg base N qual (defScope st) f cdv A outer s H E) (defBody st) t ∧ t { nx := fun _ H' => Q .non H', rt := Q } (start N vs) H) : FnG P w K mg base CX (k + 1) f fd ps sp := by
  obtain ⟨oc, od, kV, doc, pm, an, cdv, ct, osl, rfl, lk, hcd⟩ := F.ex
  refine ⟨len, fun A outer s H args us vs Q E hgd hr e0 hb r hsp => ?_⟩
  have KX : K.In s.heap := e0.mod.kin.keeps fun b o e => (e0.bs b o e).1
  have hkind : ∀ y ∈ ps.zip us, (defScope st).names.lookup y.1 = some .local ∨ ((defScope st).names.lookup y.1 = some .cell ∧ ((cellsFrom (s.heap.objs.size + 1) (defScope st).names []).lookup y.1).isSome = true) := fun ⟨n, v⟩ hy =>
    (S.par n (List.of_mem_zip hy).1).elim .inl fun q => .inr ⟨q, PySem.W.cellsFrom_some _ _ _ (.inl q)⟩
  refine codeAny_call_function hr.depth (KX _ _ lk) rfl S.co S.gen rfl (PySem.W.codeRec_of KX hcd) (hb _ _ _ _ (wpAny_newFunctionEnv_cells S.kind hkind fun env he s1 x => ?_))
  subst he
  refine ⟨(e0.mod.nolimit.keeps fun b o e => (e0.bs b o e).1).keeps x.toInCall.keep, codeAny_func ?_⟩
  obtain ⟨t, ht, hq⟩ := hbody cdv A outer s H vs Q E hgd (hr.deeper _) hsp
  refine wpAny_mono (ht.run [] s1 (start N vs) H _ (inv_start S hr.hd e0 (len _ _ _ _ hsp) r x) hq) (fun fl s' hs => ?_) fun e s' hs => hs
  cases fl with
  | ret u => obtain ⟨v, σ', H', J, rv, q⟩ := hs; exact ⟨v, H', J.os, J.bare, J.base, J.hok, rv, q⟩
  | next => obtain ⟨σ', H', J, q⟩ := hs; exact ⟨V.non, H', J.os, J.bare, J.base, J.hok, rfl, q⟩
  | brk => obtain ⟨_, _, _, q⟩ := hs; exact q.elim
  | cont => obtain ⟨_, _, _, q⟩ := hs; exact q.elim
end
/-! ### repr -/
section
variable {X : Cx}
/-- repr of what is no dict -/
def rRepr (K : PySem.W.Frag) : List V → Hp → VK → Prop := fun xs H Q => ∃ x d, xs = [x] ∧ Dp K H x d ∧ d.showable = true ∧ d.hasDict = false ∧ d.shown.length ≤ sizeLine ∧ d.depth ≤ 64 ∧ Q (.str d.shown) H
theorem call_reprD (hu : X.A.units + 65 < cLine) (hg : X.A.guards = some []) : CallR X (.builtin "repr") (rRepr X.K) := by
  intro pins s σ H xs us Q I r h
  obtain ⟨x, d, rfl, hd, hs, hn, hz, hp, q⟩ := h
  obtain ⟨u, rfl, r1⟩ := vals1 r
  obtain ⟨as, rd⟩ := Dp.reads I d x u hd r1
  have ref : ∀ a : Addr, u = .ref a → wpAny (model X.prog X.w) X.A (call (Value.builtin "repr") [u]) (EP X pins σ Q) X.xe s := fun a e => by
    subst e
    exact repr_of_reads' rd hs (fun q => by rw [hn] at q; cases q) hg (by omega) (fun _ _ e => e) (fun h' t tk k => ⟨.str d.shown, H, I.kept (t' := tk) k, ⟨t, rfl⟩, q⟩) hz
  cases rd with
  | none => simp only [PyData.shown] at q; exact PySem.P.repr_of_none ⟨.str "None", H, I.tok _, ⟨_, rfl⟩, q⟩
  | bool b => simp only [PyData.shown] at q; exact PySem.P.repr_of_bool ⟨.str (if b then "True" else "False"), H, I.tok _, ⟨_, rfl⟩, q⟩
  | int i t => simp only [PyData.shown] at q; exact PySem.P.repr_of_int (by simpa [PyData.showable] using hs) ⟨.str (toString i), H, I.tok _, ⟨_, rfl⟩, q⟩
  | str y t => simp only [PyData.shown] at q; exact PySem.P.repr_of_str ⟨.str (reprText y), H, I.tok _, ⟨_, rfl⟩, q⟩ (by simpa only [PyData.shown] using hz)
  | list h1 h2 h3 h4 => exact ref _ rfl
  | tuple h1 h2 h3 h4 => exact ref _ rfl
  | dict h1 h2 h3 h4 h5 => exact ref _ rfl
end
end Kb
namespace Kb
open PySem PySem.Spec PyProof.Rows L2
/-! ### the law's call, by such a promise: nothing but the script is tracked -/
theorem law_callG {P : Program} {w : World} {K : PySem.W.Frag} {mg mb : Str → Option Value} {CX : CXT} {k : Nat} {fa a : Addr} {fd : FuncData} {x : Str} {sp : Sp} {s₁ : Shared} {vs : List Value} {ns : List Int}
    (KX : K.In s₁.heap) (hns : s₁.heap.Ns PySem.mainGlobals mg) (hb : s₁.heap.Ns builtinsNs mb) (hbb : ∀ x : Str, x ≠ "__name__" → mb x = bootBuiltins x) (hlim : s₁.heap.NoLimit) (hg : s₁.gens = #[])
    (ha : s₁.heap.get? a = some { cls := .type "list", data := .seq vs.toArray }) (hi : IntsAre vs ns) (hl : ns.length ≤ sizeLine) (hr : Room k callerA)
    (F : ∀ base : Heap, K.In base → base.Ns PySem.mainGlobals mg → FnG P w K mg base CX k fa fd [x] sp) (hbind : ∀ (s : Shared) (u : Value), BindsTo s fd ⟨[u], []⟩ [(x, u)])
    (hsp : ∀ H : Hp, Only H → SqL K H a (ns.map V.int) → sp [.ref a] H (fun v _ => v = .bl true) fun _ _ _ => False)
    (hCX : ∀ H e s', CX [] H s₁ (fun _ _ _ => False) e s' → False) :
    codeAny (model P w) callerA (.call (.ref fa) ⟨[.ref a], []⟩) (fun r s' => r = .ok (.ret (.bool true)) ∧ OldK s₁.heap s'.heap ∧ s'.os = s₁.os ∧ AllBare s'.gens) s₁ := by
  have rv := vals_ints hi
  have core : ∀ H : Hp, Only H → SqL K H a (ns.map V.int) → HOk P w H s₁.heap → (∀ b, H b ≠ none → b = a) → (H a ≠ none → K.lookup a = none) →
      codeAny (model P w) callerA (.call (.ref fa) ⟨[.ref a], []⟩) (fun r s' => r = .ok (.ret (.bool true)) ∧ OldK s₁.heap s'.heap ∧ s'.os = s₁.os ∧ AllBare s'.gens) s₁ := by
    intro H hO hS hok hA hK
    have one : ∀ b, b ≠ a → H b = none := fun b n => Classical.byContradiction fun q => n (hA b q)
    have dicts : ∀ {b : Addr} {o : Obj} {es : Array DictEntry} {ep : Nat}, s₁.heap.get? b = some o → o.data = .dict es ep → b ≠ a := fun {b o es ep} e d q => by
      subst q
      rw [ha] at e
      cases e
      cases (show Data.seq vs.toArray _ = Data.dict es ep from d)
    have spaces : ∀ {b : Addr} {m : Str → Option Value}, s₁.heap.Ns b m → (hidT s₁.heap H).Ns b m := fun ⟨o, es, ep, e, d, r⟩ => ⟨o, es, ep, hidT_get e (one _ (dicts e d)), d, r⟩
    have kin : K.In (hidT s₁.heap H) := fun b o e => hidT_get (KX b o e) (Classical.byContradiction fun q => by
      have e2 : b = a := hA b q
      subst e2
      rw [hK q] at e
      cases e)
    obtain ⟨mc, l1, l2⟩ := hlim
    refine codeAny_mono ((F _ kin (spaces hns)).run callerA [] s₁ H ⟨[.ref a], []⟩ [.ref a] [.ref a] _ _ rfl hr
      ⟨rfl, ⟨kin, spaces hns, ⟨mb, spaces hb, hbb⟩, ⟨mc, spaces l1, l2⟩⟩, fun b o e => of_hidT e, Nat.le_of_eq (hidT_size _ _), trivial, fun b hb => absurd (show b ∈ ([] : List Addr) from hb) (by simp), hok, .of_eq hg⟩
      (hbind s₁ (.ref a)) (.cons rfl .nil) (hsp H hO hS)) fun r s' h => ?_
    match r, h with
    | .error e, h => exact (hCX H e s' h).elim
    | .ok (.ret u), ⟨v, H', os, bare, un, hok', r', q⟩ =>
      cases (show v = .bl true from q)
      cases (show u = Value.bool true from r')
      refine ⟨rfl, OldK.of_keep fun b o e => ?_, os, bare⟩
      rcases hO b with z | ⟨ob, xs, z⟩
      · exact un.keep b o e z (fun y => absurd (show b ∈ ([] : List Addr) from y) (by simp)) (by simp)
      · obtain ⟨e1, _⟩ := hok b _ z
        obtain ⟨e2, _⟩ := hok' b _ (un.frzs b ob _ z)
        rw [e] at e1
        cases e1
        exact e2
  cases hk : K.lookup a with
  | some o =>
    have e := KX a o hk
    rw [ha] at e
    cases e
    exact core (fun _ => none) (fun _ => .inl rfl) (.inr ⟨_, vs.toArray, _, hk, rfl, rfl, rfl, by rw [List.size_toArray, hi.length]; exact hl, by simpa using rv⟩) (fun b u z => nomatch (show (none : Option HO) = some u from z)) (fun b z => absurd rfl z) fun z => absurd rfl z
  | none =>
    have at' : ∀ b, b ≠ a → (if b = a then some (HO.frz { cls := .type "list", data := .seq vs.toArray } (.lst (ns.map V.int))) else none) = none := fun b n => if_neg n
    refine core (fun b => if b = a then some (.frz { cls := .type "list", data := .seq vs.toArray } (.lst (ns.map V.int))) else none) (fun b => ?_) (.inl (.inr ⟨{ cls := .type "list", data := .seq vs.toArray }, if_pos rfl⟩)) (fun b u z => ?_) (fun b z => Classical.byContradiction fun n => z (at' b n)) fun _ => hk
    · by_cases hb : b = a
      · exact .inr ⟨_, _, if_pos hb⟩
      · exact .inl (at' b hb)
    · by_cases hb : b = a
      · subst hb
        cases (if_pos rfl).symm.trans z
        exact ⟨ha, by rw [List.length_map]; exact hl, vs, _, rv, ha⟩
      · cases (at' b hb).symm.trans z
theorem walkG {l : PySem.W.OpenLaw} {n k : Nat} {q : Program} {loose : List Str} {XP : (Str → Option Value) → Heap → Prop} {YP : World → Heap → Prop} {d : DefRec} {K : Params → PySem.W.Frag} {CX : World → CXT} {sp : World → Sp} {x : Str}
    (hn : l.most = some n) (hn2 : n ≤ sizeLine) (hdf : d.params.defaults = []) (hr : Room k callerA) (hY : ∀ (w : World) (h : Heap), YP w h → (K w.params).In h)
    (F : ∀ (w : World) (mg : Str → Option Value) (fa : Addr) (h : Heap), (K w.params).In h → h.Ns PySem.mainGlobals mg → mg d.name = some (.ref fa) →
      ∃ fd : FuncData, (∀ (s : Shared) (u : Value), BindsTo s fd ⟨[u], []⟩ [(x, u)]) ∧
        ∀ base : Heap, (K w.params).In base → base.Ns PySem.mainGlobals mg → FnG l.prog w (K w.params) mg base (CX w) k fa fd [x] (sp w))
    (hsp : ∀ (w : World) (H : Hp) (a : Addr) (ns : List Int), ns.length ≤ n → Only H → SqL (K w.params) H a (ns.map V.int) → sp w [.ref a] H (fun v _ => v = .bl true) fun _ _ _ => False)
    (hCX : ∀ (w : World) (H : Hp) (s : Shared) (e : Value) (s' : Shared), CX w [] H s (fun _ _ _ => False) e s' → False) :
    PySem.W.WalkO q loose XP YP l.row.toRowW d [] (fun f vs => PySem.call f vs) := by
  refine Att.attach_call hn hdf fun w s₀ s₁ mg mb fa o pm cd doc a vs ns G Y ho hd hcd hmg hobj hints hlen hg => ?_
  have KX := hY w _ Y
  obtain ⟨fd, hb, hF⟩ := F w mg fa _ KX G.T.g hmg
  exact law_callG KX G.T.g G.T.b G.T.builtins G.T.nolimit hg hobj hints (Nat.le_trans hlen hn2) hr hF hb (fun H hO hS => hsp w H a ns hlen hO hS) fun H e s' => hCX w H s₁ e s'
end Kb
namespace Kb
open PySem PySem.Spec PyProof.Rows L2
theorem repr_u {k : Nat} {A : Around} (hr : Room k A) : A.units + 65 < cLine := by have := hr.un; omega
theorem Fun.okG {P : Program} {w : World} {K : PySem.W.Frag} {mg : Str → Option Value} {base : Heap} {k : Nat} {f : Addr} {x qual : Str} {st : Stmt} {fd : FuncData} {N ps : List Str} {sp : Sp} (F : Fun K x qual st f fd) (S : FnScope N ps (defScope st)) (len : ∀ vs H Q E, sp vs H Q E → vs.length = ps.length)
    (hbody : ∀ (cdv : Value) (A : Around) (outer : List Env) (s : Shared) (H : Hp) (vs : List V) (Q : VK) (E : XK), A.guards = some [] → Room k (A.deeper (envOfC qual (defScope st) s.heap.objs.size f cdv)) → sp vs H Q E →
      ∃ t, PSs (cxOf CX0 P w K mg base N qual (defScope st) f cdv A outer s H E).nox (defBody st) t ∧ t { nx := fun _ H' => Q .non H', rt := Q } (start N vs) H) : FnG P w K mg base CX0 (k + 1) f fd ps sp :=
  fnG_of F S len fun cdv A outer s H vs Q E hg hr h => let ⟨t, a, q⟩ := hbody cdv A outer s H vs Q E hg hr h; ⟨t, a.nox, q⟩
end Kb
namespace Kb
open PySem PySem.Spec PyProof.Rows L2 TL
/-! ### a text times a number -/
def rMulS : R2 := fun x y H Q => ∃ (a : Str) (n : Int), x = .str a ∧ y = .int n ∧ n ≤ 1000 ∧ 0 ≤ n ∧ a.length ≤ 1000 ∧ ∀ z : Str, tl z = (List.replicate n.toNat (tl a)).flatten → Q (.str z) H
theorem foldl_app (c : Array Nat) : ∀ (m : Nat) (acc : Array Nat), ((List.replicate m c).foldl (· ++ ·) acc).toList = acc.toList ++ (List.replicate m c.toList).flatten
  | 0, acc => by simp
  | m + 1, acc => by
    rw [List.replicate_succ, List.foldl_cons, foldl_app c m, List.replicate_succ, List.flatten_cons, Array.toList_append, List.append_assoc]
theorem op_mulS {X : Cx} : OpR X (binaryOp .Mult) rMulS := by
  intro pins s σ H x y v u Q I rx ry h
  obtain ⟨a, n, rfl, rfl, h1, h2, h3, q⟩ := h
  obtain ⟨t, rfl⟩ := rx
  obtain ⟨t2, rfl⟩ := ry
  have hz : a.length * n.toNat ≤ 1000 * 1000 := Nat.mul_le_mul h3 (by omega)
  have hline : sizeLine = 16777216 := sizeLine_eq
  refine PySem.P.mul_str (by rw [decide_eq_false (by omega), decide_eq_false (by omega)]; rfl) (fun h4 _ h5 => ?_) (fun _ _ => ?_) ?_
  · have h6 : (1000 : Int) ≤ (2 ^ 63 - 1) / n := Int.le_ediv_of_mul_le (by omega) (by omega)
    omega
  · unfold Builtin.Str.tooLong
    rw [hline]
    exact decide_eq_false (by omega)
  · by_cases hn : n < 1
    · rw [if_pos hn]
      have e : n = 0 := by omega
      subst e
      exact ⟨by decide, .str Str.empty, H, I.tok _, ⟨_, rfl⟩, q Str.empty rfl⟩
    · rw [if_neg hn]
      by_cases h5 : (n == 1 || a.length == 0) = true
      · rw [if_pos h5]
        refine ⟨.str a, H, I, ⟨_, rfl⟩, q a ?_⟩
        rw [Bool.or_eq_true, beq_iff_eq, beq_iff_eq] at h5
        rcases h5 with rfl | h5
        · simp
        · rw [len_tl] at h5
          rw [List.eq_nil_of_length_eq_zero h5]; simp
      · rw [if_neg h5]
        refine ⟨?_, .str ⟨(List.replicate n.toNat a.cps).foldl (· ++ ·) #[]⟩, H, I.tok _, ⟨_, rfl⟩, q _ ?_⟩
        · rw [hline, len_tl]
          show (((List.replicate n.toNat a.cps).foldl (· ++ ·) #[]).toList).length ≤ _
          rw [foldl_app]
          have : ((List.replicate n.toNat a.cps.toList).flatten).length = n.toNat * a.length := by
            rw [PyProof.Rows.lm_len_rep_flat]; rfl
          simp only [Array.toList_empty, List.nil_append]
          rw [this, Nat.mul_comm]
          omega
        · show (((List.replicate n.toNat a.cps).foldl (· ++ ·) #[]).toList) = _
          rw [foldl_app]
          rfl
end Kb

namespace Kb
open PySem PySem.Spec PyProof.Rows L2 TL
/-! ### texts of plain signs -/
def ascii (x : Str) : Prop := ∀ s ∈ tl x, s < 128
theorem ascii.app {x y : Str} (a : ascii x) (b : ascii y) : ascii (x ++ y) := fun s hs => by
  rw [tl_append] at hs
  rcases List.mem_append.mp hs with q | q
  · exact a s q
  · exact b s q
theorem joinE : ∀ L : List (List Nat), joinL [] L = L.flatten
  | [] => rfl
  | [p] => by simp [joinL]
  | p :: q :: r => by
    show p ++ ([] ++ joinL [] (q :: r)) = _
    rw [joinE (q :: r)]
    rfl
theorem ascii.join {c : Str} {W : List Str} (hc : ascii c) (h : ∀ x ∈ W, ascii x) : ascii (Txt.join c W) := fun s hs => by
  rw [join_tl] at hs
  induction W with
  | nil => simp [joinL] at hs
  | cons p W ih =>
    cases W with
    | nil => exact h p (List.mem_cons_self ..) s (by simpa [joinL] using hs)
    | cons q r =>
      have hs : s ∈ tl p ++ (tl c ++ joinL (tl c) ((q :: r).map tl)) := hs
      rcases List.mem_append.mp hs with g | g
      · exact h p (List.mem_cons_self ..) s g
      · rcases List.mem_append.mp g with g | g
        · exact hc s g
        · exact ih (fun x hx => h x (List.mem_cons_of_mem _ hx)) g
theorem ascii.cut {x : Str} {lo hi : Option Int} (h : ascii x) : ascii (cutS x lo hi) := fun s hs => by
  have hs : s ∈ ((tl x).drop (HT.sIx x.length 0 lo)).take (HT.sIx x.length x.length hi - HT.sIx x.length 0 lo) := hs
  exact h s (List.mem_of_mem_drop (List.mem_of_mem_take hs))
theorem cut_len {x : Str} {lo hi : Option Int} : (cutS x lo hi).length ≤ x.length := by
  rw [len_tl, len_tl]
  show (((tl x).drop (HT.sIx x.length 0 lo)).take (HT.sIx x.length x.length hi - HT.sIx x.length 0 lo)).length ≤ _
  rw [List.length_take, List.length_drop]
  omega
theorem ascii.rep {x y : Str} {n : Nat} (h : ascii x) (e : tl y = (List.replicate n (tl x)).flatten) : ascii y := fun s hs => by
  rw [e, List.mem_flatten] at hs
  obtain ⟨l, hl, hs⟩ := hs
  rw [List.eq_of_mem_replicate hl] at hs
  exact h s hs
theorem ascii.up {x : Str} (h : ascii x) : ascii (Txt.upper x) ∧ (Txt.upper x).length = x.length := by
  have e : tl (Txt.upper x) = (tl x).map up1 := by rw [upper_ascii h]; simp [tl]
  refine ⟨fun s hs => ?_, by rw [len_tl, e, List.length_map, ← len_tl]⟩
  rw [e] at hs
  obtain ⟨c, hc, rfl⟩ := List.mem_map.mp hs
  have : ∀ c, c < 128 → up1 c < 128 := by decide +kernel
  exact this c (h c hc)
theorem lower_tl {x : Str} (h : ascii x) : tl (Txt.lower x) = (tl x).map lo1 := by rw [lower_ascii h]; simp [tl]
theorem ascii.low {x : Str} (h : ascii x) : ascii (Txt.lower x) ∧ (Txt.lower x).length = x.length := by
  refine ⟨fun s hs => ?_, by rw [len_tl, lower_tl h, List.length_map, ← len_tl]⟩
  rw [lower_tl h] at hs
  obtain ⟨c, hc, rfl⟩ := List.mem_map.mp hs
  have : ∀ c, c < 128 → lo1 c < 128 := by decide +kernel
  exact this c (h c hc)
/-- a sign of a written text -/
theorem sign_at {z : Str} {r : Int} (h0 : 0 ≤ r) (h1 : r < (z.length : Int)) (ha : ascii z) : ∃ c : Nat, atI z.cps.toList r = some c ∧ ascii (⟨#[c]⟩ : Str) := by
  obtain ⟨n, rfl⟩ : ∃ n : Nat, r = (n : Int) := ⟨r.toNat, by omega⟩
  have hn : n < (tl z).length := by rw [← len_tl]; omega
  refine ⟨(tl z)[n], atI_nat (List.getElem?_eq_getElem hn), fun s hs => ?_⟩
  have : s = (tl z)[n] := by simpa [tl] using hs
  rw [this]
  exact ha _ (List.getElem_mem hn)
end Kb
namespace Kb
open PySem PySem.Spec PyProof.Rows L2 TL
theorem ends_at {x : Str} (h : 1 ≤ x.length) : ∃ a z : Nat, atI x.cps.toList 0 = some a ∧ atI x.cps.toList (-1) = some z ∧ (tl x).head? = some a ∧ (tl x).getLast? = some z := by
  have hne : tl x ≠ [] := fun e => by rw [len_tl, e] at h; simp at h
  obtain ⟨r, d, er⟩ := snoc_of_ne hne
  obtain ⟨a, r2, ea⟩ : ∃ a r2, tl x = a :: r2 := List.exists_cons_of_ne_nil hne
  refine ⟨a, d, ?_, ?_, by rw [ea]; rfl, by rw [er, List.getLast?_concat]⟩
  · show atI (tl x) ((0 : Nat) : Int) = _; rw [ea]; exact atI_nat rfl
  · show atI (tl x) (-1) = _; rw [er]; exact atI_last r d
theorem ascii_lit {x : Str} (h : (tl x).all (· < 128) = true) : ascii x := fun s hs => by
  have := List.all_eq_true.mp h s hs
  simpa using this
end Kb
namespace Kb
open PySem PySem.Spec PyProof.Rows L2 TL
/-- a comprehension over a text -/
theorem lc_str {z : Str} {g : TG} {tt : TT} {te : TE} {vs : List Nat} {σ : L2.St} {H1 : Hp} {D : Addr} {Qd : Hp → Prop} (Pv : Nat → Hp → Prop) (h0 : Pv 0 (L2.upd H1 D (.lst [])))
    (hs : ∀ i c H, (tl z)[i]? = some c → Pv i H → g (.str ⟨#[c]⟩) (wipe σ vs) H fun σ2 H2 => wipe σ2 vs = wipe σ vs ∧ tt σ2 H2 fun b H3 =>
      if b = true then te σ2 H3 fun y H4 => ∃ acc, H4 D = some (.lst acc) ∧ acc.length < sizeLine ∧ Pv (i + 1) (L2.upd H4 D (.lst (acc ++ [y]))) else Pv (i + 1) H3) (hd : ∀ H, Pv (tl z).length H → Qd H) :
    ∃ W : Nat → Nat → Hp → Prop, (∃ m, W 0 m (L2.upd H1 D (.lst []))) ∧ ∀ i m H, W i m H →
      ((Its z).stop i H ∧ Qd H) ∨ ((Its z).go i H ∧ ∃ Nx : Hp → Prop, (∀ H', Nx H' → ∃ m', m' < m ∧ W (i + 1) m' H') ∧ ∀ x H', (Its z).yld i H x H' → g x (wipe σ vs) H' fun σ2 H2 => wipe σ2 vs = wipe σ vs ∧ tt σ2 H2 fun b H3 =>
        if b = true then te σ2 H3 fun y H4 => ∃ acc, H4 D = some (.lst acc) ∧ acc.length < sizeLine ∧ Nx (L2.upd H4 D (.lst (acc ++ [y]))) else Nx H3) := by
  refine lc_it walk_str Pv h0 (fun _ _ _ _ => trivial) (fun i x H H' hi p y => ?_) (fun H p => hd H (by rw [show (tl z).length = z.cps.size by simp [tl]]; exact p))
  obtain ⟨rfl, c, hc, rfl⟩ := y
  exact hs i c _ (by rw [← hc]; simp [tl]) p
/-- the last part of a text -/
def smallS (x : Str) : Prop := x.length ≤ 1000 ∧ ascii x
theorem lay_str {x : Str} (h : ascii x) : PyData.canLay0 (.str x) = true := by
  rw [PyData.canLay0]
  show x.cps.all _ = true
  rw [Array.all_eq_true_iff_forall_mem]
  intro s hs
  have := h s (Array.mem_toList_iff.mpr hs)
  exact decide_eq_true (by omega)
end Kb
namespace Kb
open PySem PySem.Spec PyProof.Rows L2 TL
theorem Same.put {H H1 : Hp} {L : Addr} {o : HO} (s : Same H H1) (h : H L = none) : Same H (L2.upd H1 L o) := fun b u e => by
  rw [upd_ne (ne_of_none e h)]
  exact s b u e
theorem all_take1 {α : Type} {p : α → Bool} {l : List α} {i : Nat} {c : α} (h : l[i]? = some c) : (l.take (i + 1)).all p = ((l.take i).all p && p c) := by
  rw [List.take_succ, h, List.all_append]
  simp
theorem eq_nil_snoc {α : Type} {W : List α} {x : α} : (W ++ [x] = []) ↔ False := by simp
theorem lay_strs {W : List Str} (h : ∀ w ∈ W, ascii w) : SeqAt.shaped (.list (W.map PyData.str)) = true := shaped_strs fun w hw => lay_str (h w hw)
theorem eqv_nil (W : List Str) : PyData.eqv (.list (W.map PyData.str)) (.list (([] : List Str).map PyData.str)) = decide (W = []) := by rw [PyData.eqv, eqvAll_strs]
theorem tl_lsig2 : ("abcdefghijklmnopqrstuvwxyz0123456789-" : Str).cps.toList = lsig := tl_lsig
theorem tl_digs2 : ("0123456789" : Str).cps.toList = digs := tl_digs
theorem ascii_mem {x : Str} {i c : Nat} (h : ascii x) (hi : (tl x)[i]? = some c) : ascii (⟨#[c]⟩ : Str) := fun s hs => by
  have : s = c := by simpa [tl] using hs
  rw [this]
  exact h c (List.mem_of_getElem? hi)
end Kb
namespace Kb
open PySem PySem.Spec PyProof.Rows L2 TL
theorem numB_iff {l : List Nat} : numB l = true ↔ ∃ j, j < 256 ∧ l = numL j := by
  constructor
  · intro h
    unfold numB at h
    rw [Bool.and_eq_true, Bool.and_eq_true, Bool.or_eq_true, decide_eq_true_eq, decide_eq_true_eq, decide_eq_true_eq] at h
    obtain ⟨hd, hv, hz⟩ := h
    obtain ⟨had, hne⟩ := digB_iff.mp hd
    refine ⟨NumText.digitsVal l, by omega, ?_⟩
    obtain ⟨n, hn⟩ : ∃ n, l.length = n + 1 := ⟨l.length - 1, by have := List.length_pos_iff.mpr hne; omega⟩
    have e := NumText.toDigits_digitsVal n l hn had (by
      rcases hz with rfl | hz
      · left; simp at hn; omega
      · right
        obtain ⟨c, r, rfl⟩ := List.exists_cons_of_ne_nil hne
        refine ⟨c, r, rfl, ?_⟩
        have := had c (List.mem_cons_self ..)
        have hc : c ≠ 48 := fun q => hz (by rw [q]; rfl)
        omega)
    show l = (Nat.toDigits 10 (NumText.digitsVal l)).map Char.toNat
    rw [e, List.map_map]
    refine (List.map_id l).symm.trans (List.map_congr_left fun c hc => ?_)
    have h1 := had c hc
    have : ∀ c, c < 58 → c = (Char.ofNat c).toNat := by decide +kernel
    exact this c (by omega)
  · rintro ⟨j, hj, rfl⟩
    have : ∀ j, j < 256 → numB (numL j) = true := by decide +kernel
    exact this j hj
end Kb
namespace Kb
open PySem PySem.Spec PyProof.Rows L2 TL PySem.StrLaws Builtin.Str
/-! ### texts that tell hosts -/
def stripDot (l : List Nat) : List Nat := if l.getLast? = some 46 then l.dropLast else l
def tellsL (l : List Nat) : Bool := hostB (stripDot l)
def beginsB (l : List Nat) : Bool := hostB l || (hostB (l ++ [97]) || hostB (l ++ [46, 97]))
def goodL (l : List Nat) : Bool := tellsL l || beginsB l
def PlaceIs (m : List Nat) (k : Nat) : Prop := (k = m.length + 1 ∧ ∀ j, j < m.length → goodL (m.take (j + 1)) = true) ∨ (1 ≤ k ∧ k ≤ m.length ∧ goodL (m.take k) = false ∧ ∀ j, j + 1 < k → goodL (m.take (j + 1)) = true)
theorem PlaceIs.uniq {m : List Nat} {k k' : Nat} (a : PlaceIs m k) (b : PlaceIs m k') : k = k' := by
  rcases a with ⟨a1, a2⟩ | ⟨a0, a1, a2, a3⟩ <;> rcases b with ⟨b1, b2⟩ | ⟨b0, b1, b2, b3⟩
  · omega
  · have := a2 (k' - 1) (by omega)
    rw [show k' - 1 + 1 = k' by omega, b2] at this
    cases this
  · have := b2 (k - 1) (by omega)
    rw [show k - 1 + 1 = k by omega, a2] at this
    cases this
  · rcases Nat.lt_trichotomy k k' with q | q | q
    · have := b3 (k - 1) (by omega)
      rw [show k - 1 + 1 = k by omega, a2] at this
      cases this
    · exact q
    · have := a3 (k' - 1) (by omega)
      rw [show k' - 1 + 1 = k' by omega, b2] at this
      cases this
theorem host_dot {l : List Nat} (h : l.getLast? = some 46) : hostB l = false := by
  have hne : l ≠ [] := fun e => by rw [e] at h; cases h
  obtain ⟨r, d, er⟩ := snoc_of_ne hne
  rw [er, List.getLast?_concat] at h
  have hd : d = 46 := Option.some.inj h
  subst hd
  have e : sp1 46 l = sp1 46 r ++ [[]] := by rw [er, sp1_app]; rfl
  unfold hostB hostL
  have : (sp1 46 l).all labB = false := by
    rw [e, List.all_append]
    have : [([] : List Nat)].all labB = false := by decide +kernel
    rw [this, Bool.and_false]
  rw [this, Bool.false_and, Bool.and_false, Bool.and_false]
theorem strip_other {l : List Nat} (h : l.getLast? ≠ some 46) : stripDot l = l := if_neg h
theorem strip_dot {l : List Nat} : stripDot (l ++ [46]) = l := by
  unfold stripDot
  rw [if_pos (by rw [List.getLast?_concat]), List.dropLast_concat]
theorem tellsL_or (l : List Nat) : tellsL l = (hostB l || (decide (l.getLast? = some 46) && hostB l.dropLast)) := by
  unfold tellsL stripDot
  by_cases h : l.getLast? = some 46
  · rw [if_pos h, host_dot h, decide_eq_true h]; rfl
  · rw [if_neg h, decide_eq_false h, Bool.false_and, Bool.or_false]
theorem law_begins (l : List Nat) : (tellsL l || (tellsL (l ++ [97]) || (tellsL (l ++ [46, 97]) || tellsL (l ++ [46])))) = goodL l := by
  have e1 : tellsL (l ++ [97]) = hostB (l ++ [97]) := by unfold tellsL; rw [strip_other (by rw [List.getLast?_concat]; decide)]
  have e2 : tellsL (l ++ [46, 97]) = hostB (l ++ [46, 97]) := by
    unfold tellsL
    rw [strip_other]
    rw [show l ++ [46, 97] = (l ++ [46]) ++ [97] by simp, List.getLast?_concat]; decide
  have e3 : tellsL (l ++ [46]) = hostB l := by unfold tellsL; rw [strip_dot]
  rw [e1, e2, e3]
  unfold goodL beginsB
  cases tellsL l <;> cases hostB l <;> cases hostB (l ++ [97]) <;> cases hostB (l ++ [46, 97]) <;> rfl
theorem removesuffix_dot (x : Str) : tl (Txt.removesuffix x ("." : Str)) = stripDot (tl x) := by
  unfold Txt.removesuffix
  have d1 : ("." : Str).length = 1 := by decide +kernel
  by_cases h : (tl x).getLast? = some 46
  · have hne : tl x ≠ [] := fun e => by rw [e] at h; cases h
    obtain ⟨r, d, er⟩ := snoc_of_ne hne
    rw [er, List.getLast?_concat] at h
    have hd : d = 46 := Option.some.inj h
    subst hd
    have hl : x.length = r.length + 1 := by rw [len_tl, er]; simp
    have hs : subAt x ("." : Str) (x.length - ("." : Str).length) = true := by
      rw [subAt_eq, d1, hl]
      show (List.take 1 (List.drop (r.length + 1 - 1) (tl x)) == tl ("." : Str)) = true
      rw [er, tl_dot, Nat.add_sub_cancel, List.drop_left]
      rfl
    rw [if_pos (by rw [hs, d1, hl]; simp), er, strip_dot]
    show tl (if x.length - ("." : Str).length - 0 == x.length then x else strSub x 0 (x.length - ("." : Str).length)) = r
    rw [if_neg (by rw [d1, hl]; simp), tl_strSub, er, d1, hl]
    simp
  · rw [strip_other h, if_neg]
    · rfl
    · intro g
      rw [Bool.and_eq_true] at g
      obtain ⟨g1, g2⟩ := g
      have g1 : ("." : Str).length ≤ x.length := of_decide_eq_true g1
      rw [d1] at g1
      rw [subAt_eq, d1] at g2
      have g2 : (List.take 1 (List.drop (x.length - 1) (tl x)) == tl ("." : Str)) = true := g2
      rw [tl_dot] at g2
      have hne : tl x ≠ [] := fun e => by rw [len_tl, e] at g1; simp at g1
      obtain ⟨r, d, er⟩ := snoc_of_ne hne
      have hl : x.length = r.length + 1 := by rw [len_tl, er]; simp
      rw [hl, Nat.add_sub_cancel, er, List.drop_left] at g2
      have : d = 46 := by simpa using g2
      rw [er, List.getLast?_concat, this] at h
      exact h rfl
theorem strip_low {l : List Nat} (h : ∀ s ∈ l, s < 128) : (stripDot l).map lo1 = stripDot (l.map lo1) := by
  by_cases hne : l = []
  · rw [hne]; rfl
  obtain ⟨r, d, rfl⟩ := snoc_of_ne hne
  have hd := h d (List.mem_append_right _ (List.mem_singleton.mpr rfl))
  have key : ∀ c, c < 128 → (lo1 c = 46 ↔ c = 46) := by decide +kernel
  rw [List.map_append, List.map_cons, List.map_nil]
  by_cases q : d = 46
  · subst q
    rw [strip_dot, show lo1 46 = 46 by decide, strip_dot]
  · rw [strip_other (by rw [List.getLast?_concat]; simpa using q), strip_other (by rw [List.getLast?_concat]; simpa using fun e => q ((key d hd).mp e)), List.map_append]
    rfl
def lowL (x : Str) : List Nat := (tl x).map lo1
theorem lowT_tl {x : Str} (h : ascii x) : tl (Txt.lower (Txt.removesuffix x ("." : Str))) = stripDot (lowL x) := by
  have e := removesuffix_dot x
  have a : ascii (Txt.removesuffix x ("." : Str)) := fun s hs => by
    rw [e] at hs
    unfold stripDot at hs
    split at hs
    · exact h s ((List.dropLast_sublist _).subset hs)
    · exact h s hs
  rw [lower_tl a, e]
  exact strip_low h
end Kb
namespace Kb
open PySem PySem.Spec PyProof.Rows L2 TL PySem.StrLaws Builtin.Str
theorem cutS_m1 (z : Str) : tl (cutS z none (some (-1))) = (tl z).dropLast := by
  show ((tl z).drop (HT.sIx z.length 0 none)).take (HT.sIx z.length z.length (some (-1)) - HT.sIx z.length 0 none) = _
  rw [HT.sIx_none, List.drop_zero, Nat.sub_zero, List.dropLast_eq_take, len_tl]
  have e : HT.sIx (tl z).length (tl z).length (some (-1)) = (tl z).length - 1 := by
    show (if (-1 : Int) < 0 then ((-1 : Int) + ((tl z).length : Int)).toNat else min (-1 : Int).toNat (tl z).length) = _
    rw [if_pos (by decide)]
    omega
  rw [e]
theorem cutS_l1 (z : Str) : tl (cutS z (some (-1)) none) = lastN 1 (tl z) := by
  show ((tl z).drop (HT.sIx z.length 0 (some (-1)))).take (HT.sIx z.length z.length none - HT.sIx z.length 0 (some (-1))) = _
  rw [HT.sIx_none, len_tl]
  have e : HT.sIx (tl z).length 0 (some (-1)) = (tl z).length - 1 := by
    show (if (-1 : Int) < 0 then ((-1 : Int) + ((tl z).length : Int)).toNat else min (-1 : Int).toNat (tl z).length) = _
    rw [if_pos (by decide)]
    omega
  rw [e]
  exact List.take_of_length_le (by rw [List.length_drop] <;> omega)
theorem last_dot (z : Str) : decide (V.str (cutS z (some (-1)) none) = V.str ("." : Str)) = decide ((tl z).getLast? = some 46) := by
  rw [Bool.eq_iff_iff, decide_eq_true_eq, decide_eq_true_eq, V.str.injEq, str_eq_iff, cutS_l1, tl_dot]
  by_cases h : tl z = []
  · rw [h]; simp [lastN]
  · obtain ⟨r, d, er⟩ := snoc_of_ne h
    rw [er, List.getLast?_concat]
    unfold lastN
    rw [List.length_append, List.length_singleton, Nat.add_sub_cancel, List.drop_left]
    simp
end Kb
namespace Kb
open PySem PySem.Spec PyProof.Rows L2 TL
def Ans03 (H' : Hp) (m : List Nat) (v : V) : Prop := (tellsL m = true ∧ ∃ (p : Addr) (y : Str), v = .ref p ∧ H' p = some (.lst [.str y]) ∧ tl y = stripDot m) ∨ (tellsL m = false ∧ ∃ k : Nat, v = .int (k : Nat) ∧ PlaceIs m k)
theorem strip_len {l : List Nat} : (stripDot l).length ≤ l.length := by
  unfold stripDot
  split
  · rw [List.length_dropLast]; omega
  · exact Nat.le_refl _
theorem rs_len (x : Str) : (Txt.removesuffix x ("." : Str)).length ≤ x.length := by
  rw [len_tl, removesuffix_dot, len_tl]; exact strip_len
end Kb
namespace Kb
open PySem PySem.Spec PyProof.Rows L2 TL
/-- the first place at which a text begins no host -/
def PlaceB (m : List Nat) (k : Nat) : Prop := (k = m.length + 1 ∧ ∀ j, j < m.length → beginsB (m.take (j + 1)) = true) ∨ (1 ≤ k ∧ k ≤ m.length ∧ beginsB (m.take k) = false ∧ ∀ j, j + 1 < k → beginsB (m.take (j + 1)) = true)
theorem PlaceB.uniq {m : List Nat} {k k' : Nat} (a : PlaceB m k) (b : PlaceB m k') : k = k' := by
  rcases a with ⟨a1, a2⟩ | ⟨a0, a1, a2, a3⟩ <;> rcases b with ⟨b1, b2⟩ | ⟨b0, b1, b2, b3⟩
  · omega
  · have := a2 (k' - 1) (by omega)
    rw [show k' - 1 + 1 = k' by omega, b2] at this
    cases this
  · have := b2 (k - 1) (by omega)
    rw [show k - 1 + 1 = k by omega, a2] at this
    cases this
  · rcases Nat.lt_trichotomy k k' with q | q | q
    · have := b3 (k - 1) (by omega)
      rw [show k - 1 + 1 = k by omega, a2] at this
      cases this
    · exact q
    · have := a3 (k' - 1) (by omega)
      rw [show k' - 1 + 1 = k' by omega, b2] at this
      cases this
end Kb
namespace Kb
open PySem PySem.Spec PyProof.Rows L2
theorem ty_same {K : PySem.W.Frag} {H H' : Hp} {v : V} {t : Value} (s : Same H H') (h : TyX K H v t) : TyX K H' v t := by
  cases h with
  | base h =>
    refine .base ?_
    cases h with
    | non => exact .non
    | bl x => exact .bl x
    | int i => exact .int i
    | str x => exact .str x
    | flt x => exact .flt x
    | lst e => exact .lst (s _ _ e)
    | frz e => exact .frz (s _ _ e)
    | tup e => exact .tup (s _ _ e)
    | dK e => exact .dK (s _ _ e)
    | dT e => exact .dT (s _ _ e)
    | ins e cl ha hn htk hm => exact .ins (s _ _ e) cl ha hn htk hm
  | byt b => exact .byt b
  | set e => exact .set (s _ _ e)
  | kList e c => exact .kList e c
  | kTuple e c => exact .kTuple e c
  | kDict e c => exact .kDict e c
  | fTuple e => exact .fTuple (s _ _ e)
  | fDict e => exact .fDict (s _ _ e)
end Kb

namespace Kb
open PySem PySem.Spec PyProof.Rows L2 TL
/-! ### texts of addresses -/
/-- the first beginning that is not good -/
def Bad1 (g : List Nat → Bool) (m : List Nat) (k : Nat) : Prop := (k = m.length + 1 ∧ ∀ j, j < m.length → g (m.take (j + 1)) = true) ∨ (1 ≤ k ∧ k ≤ m.length ∧ g (m.take k) = false ∧ ∀ j, j + 1 < k → g (m.take (j + 1)) = true)
theorem Bad1.uniq {g : List Nat → Bool} {m : List Nat} {k k' : Nat} (a : Bad1 g m k) (b : Bad1 g m k') : k = k' := by
  rcases a with ⟨a1, a2⟩ | ⟨a0, a1, a2, a3⟩ <;> rcases b with ⟨b1, b2⟩ | ⟨b0, b1, b2, b3⟩
  · omega
  · have := a2 (k' - 1) (by omega)
    rw [show k' - 1 + 1 = k' by omega, b2] at this
    cases this
  · have := b2 (k - 1) (by omega)
    rw [show k - 1 + 1 = k by omega, a2] at this
    cases this
  · rcases Nat.lt_trichotomy k k' with q | q | q
    · have := b3 (k - 1) (by omega)
      rw [show k - 1 + 1 = k by omega, a2] at this
      cases this
    · exact q
    · have := a3 (k' - 1) (by omega)
      rw [show k' - 1 + 1 = k' by omega, b2] at this
      cases this
theorem Bad1.le {g : List Nat → Bool} {m : List Nat} {k : Nat} (a : Bad1 g m k) : 1 ≤ k ∧ k ≤ m.length + 1 := by
  rcases a with ⟨a1, a2⟩ | ⟨a0, a1, a2, a3⟩ <;> omega
def hS : List Nat := [104, 116, 116, 112, 58, 47, 47]
def sS : List Nat := [104, 116, 116, 112, 115, 58, 47, 47]
def schB (m : List Nat) : Bool := m.isPrefixOf hS || m.isPrefixOf sS
def schN (m : List Nat) : Option (List Nat × Nat) := if hS.isPrefixOf m = true then some ([104, 116, 116, 112], 7) else if sS.isPrefixOf m = true then some ([104, 116, 116, 112, 115], 8) else none
def stop3 (c : Nat) : Bool := decide (c = 47) || (decide (c = 63) || decide (c = 35))
def stop2 (c : Nat) : Bool := decide (c = 63) || decide (c = 35)
def hEnd (l : List Nat) : Nat := (l.takeWhile fun c => !stop3 c).length
inductive PR where
  | ok (n : Nat)
  | bad (n : Nat)
def pathR (r : List Nat) : PR := if 200 < (r.takeWhile psign).length then .bad 200 else match r[(r.takeWhile psign).length]? with
  | none => .ok (r.takeWhile psign).length
  | some c => if stop2 c = true then .ok (r.takeWhile psign).length else .bad (r.takeWhile psign).length
theorem tw_at {p : Nat → Bool} : ∀ {l : List Nat} {i : Nat}, (l.take i).all p = true → i ≤ l.length → (∀ c, l[i]? = some c → p c = false) → (l.takeWhile p).length = i
  | [], i, _, h, _ => by have : i = 0 := by simpa using h
                         subst this; rfl
  | x :: l, 0, _, _, h => by rw [List.takeWhile_cons_of_neg (by rw [h x rfl]; exact Bool.false_ne_true)]; rfl
  | x :: l, i + 1, ha, hl, h => by
    rw [List.take_succ_cons, List.all_cons, Bool.and_eq_true] at ha
    rw [List.takeWhile_cons_of_pos ha.1, List.length_cons, tw_at ha.2 (by simpa using hl) fun c hc => h c (by simpa using hc)]
theorem tw_ge {p : Nat → Bool} : ∀ {l : List Nat} {i : Nat}, (l.take i).all p = true → i ≤ l.length → i ≤ (l.takeWhile p).length
  | _, 0, _, _ => Nat.zero_le _
  | [], i + 1, _, h => by simp at h
  | x :: l, i + 1, ha, hl => by
    rw [List.take_succ_cons, List.all_cons, Bool.and_eq_true] at ha
    rw [List.takeWhile_cons_of_pos ha.1, List.length_cons]
    have := tw_ge ha.2 (by simpa using hl)
    omega
theorem hEnd_at {l : List Nat} {i c : Nat} (h : (l.take i).all (fun c => !stop3 c) = true) (hc : l[i]? = some c) (hs : stop3 c = true) : hEnd l = i :=
  tw_at h (Nat.le_of_lt (List.getElem?_eq_some_iff.mp hc).1) fun d hd => by rw [hc] at hd; cases hd; rw [hs]; rfl
theorem hEnd_all {l : List Nat} (h : l.all (fun c => !stop3 c) = true) : hEnd l = l.length :=
  tw_at (by rw [List.take_length]; exact h) (Nat.le_refl _) fun c hc => by rw [List.getElem?_eq_none (Nat.le_refl _)] at hc; cases hc
theorem psign_stop {c : Nat} (h : stop2 c = true) : psign c = false := by
  unfold stop2 at h
  rw [Bool.or_eq_true, decide_eq_true_eq, decide_eq_true_eq] at h
  rcases h with rfl | rfl <;> decide
theorem pathR_stop {r : List Nat} {i c : Nat} (h : (r.take i).all psign = true) (hi : i ≤ 200) (hc : r[i]? = some c) (hs : stop2 c = true) : pathR r = .ok i := by
  have e := tw_at h (Nat.le_of_lt (List.getElem?_eq_some_iff.mp hc).1) fun d hd => by rw [hc] at hd; cases hd; exact psign_stop hs
  unfold pathR
  rw [e, if_neg (by omega), hc]
  exact if_pos hs
theorem pathR_sign {r : List Nat} {i c : Nat} (h : (r.take i).all psign = true) (hi : i ≤ 200) (hc : r[i]? = some c) (hs : stop2 c = false) (hp : psign c = false) : pathR r = .bad i := by
  have e := tw_at h (Nat.le_of_lt (List.getElem?_eq_some_iff.mp hc).1) fun d hd => by rw [hc] at hd; cases hd; exact hp
  unfold pathR
  rw [e, if_neg (by omega), hc]
  exact if_neg (by rw [hs]; exact Bool.false_ne_true)
theorem pathR_long {r : List Nat} {c : Nat} (h : (r.take 200).all psign = true) (hc : r[200]? = some c) (hp : psign c = true) : pathR r = .bad 200 := by
  have := tw_ge (p := psign) (l := r) (i := 201) (by rw [all_at hc, h, hp]; rfl) (List.getElem?_eq_some_iff.mp hc).1
  unfold pathR
  rw [if_pos (by omega)]
theorem pathR_end {r : List Nat} (h : r.all psign = true) (hl : r.length ≤ 200) : pathR r = .ok r.length := by
  have e := tw_at (p := psign) (l := r) (i := r.length) (by rw [List.take_length]; exact h) (Nat.le_refl _) fun c hc => by rw [List.getElem?_eq_none (Nat.le_refl _)] at hc; cases hc
  unfold pathR
  rw [e, if_neg (by omega), List.getElem?_eq_none (Nat.le_refl _)]
def lows (l : List Nat) : List Nat := l.map lo1
def AddrOk (L sc ho pa : List Nat) : Prop := ∃ n k, schN (lows L) = some (sc, n) ∧ tellsL (lows ((L.drop n).take (hEnd (L.drop n)))) = true ∧ ho = stripDot (lows ((L.drop n).take (hEnd (L.drop n)))) ∧
  pathR ((L.drop n).drop (hEnd (L.drop n))) = .ok k ∧ pa = if k = 0 then [47] else ((L.drop n).drop (hEnd (L.drop n))).take k
def AddrBad (L : List Nat) (m : Nat) : Prop := (schN (lows L) = none ∧ Bad1 schB (lows L) m) ∨ ∃ sc n, schN (lows L) = some (sc, n) ∧
  ((tellsL (lows ((L.drop n).take (hEnd (L.drop n)))) = false ∧ ∃ j, Bad1 goodL (lows ((L.drop n).take (hEnd (L.drop n)))) j ∧ m = n + j) ∨
   (tellsL (lows ((L.drop n).take (hEnd (L.drop n)))) = true ∧ ∃ j, pathR ((L.drop n).drop (hEnd (L.drop n))) = .bad j ∧ m = n + hEnd (L.drop n) + j + 1))
theorem AddrOk.uniq {L a b c a' b' c' : List Nat} (h : AddrOk L a b c) (h' : AddrOk L a' b' c') : a = a' ∧ b = b' ∧ c = c' := by
  obtain ⟨n, k, h1, h2, h3, h4, h5⟩ := h
  obtain ⟨n', k', g1, g2, g3, g4, g5⟩ := h'
  rw [h1] at g1
  cases g1
  rw [h4] at g4
  cases g4
  exact ⟨rfl, h3.trans g3.symm, h5.trans g5.symm⟩
theorem AddrBad.uniq {L : List Nat} {m m' : Nat} (h : AddrBad L m) (h' : AddrBad L m') : m = m' := by
  rcases h with ⟨h1, h2⟩ | ⟨sc, n, h1, h2⟩ <;> rcases h' with ⟨g1, g2⟩ | ⟨sc', n', g1, g2⟩
  · exact h2.uniq g2
  · rw [h1] at g1; cases g1
  · rw [h1] at g1; cases g1
  · rw [h1] at g1
    cases g1
    rcases h2 with ⟨h2, j, h3, rfl⟩ | ⟨h2, j, h3, rfl⟩ <;> rcases g2 with ⟨g2, j', g3, rfl⟩ | ⟨g2, j', g3, rfl⟩
    · rw [h3.uniq g3]
    · rw [h2] at g2; cases g2
    · rw [h2] at g2; cases g2
    · rw [h3] at g3; cases g3; rfl
theorem AddrOk.bad {L a b c : List Nat} {m : Nat} (h : AddrOk L a b c) (g : AddrBad L m) : False := by
  obtain ⟨n, k, h1, h2, h3, h4, h5⟩ := h
  rcases g with ⟨g1, g2⟩ | ⟨sc', n', g1, g2⟩
  · rw [h1] at g1; cases g1
  · rw [h1] at g1
    cases g1
    rcases g2 with ⟨g2, j, g3, rfl⟩ | ⟨g2, j, g3, rfl⟩
    · rw [h2] at g2; cases g2
    · rw [h4] at g3; cases g3
theorem schN_sc {m sc : List Nat} {n : Nat} (h : schN m = some (sc, n)) : (sc = [104, 116, 116, 112] ∧ n = 7 ∨ sc = [104, 116, 116, 112, 115] ∧ n = 8) ∧ n ≤ m.length ∧ n = sc.length + 3 ∧ (sc ++ [58, 47, 47]) <+: m := by
  unfold schN at h
  split at h
  · rename_i g
    cases h
    have p := List.isPrefixOf_iff_prefix.mp g
    exact ⟨.inl ⟨rfl, rfl⟩, p.length_le, rfl, p⟩
  · split at h
    · rename_i g
      cases h
      have p := List.isPrefixOf_iff_prefix.mp g
      exact ⟨.inr ⟨rfl, rfl⟩, p.length_le, rfl, p⟩
    · cases h
theorem AddrBad.le {L : List Nat} {m : Nat} (h : AddrBad L m) : 1 ≤ m ∧ m ≤ L.length + 1 := by
  have e : (lows L).length = L.length := by unfold lows; rw [List.length_map]
  have hE : ∀ l, hEnd l ≤ l.length := fun l => (List.takeWhile_prefix _).length_le
  rcases h with ⟨h1, h2⟩ | ⟨sc, n, h1, h2⟩
  · have := h2.le; omega
  · have hn := (schN_sc h1).2.1
    have h3 := hE (L.drop n)
    rw [List.length_drop] at h3
    rcases h2 with ⟨h2, j, h4, rfl⟩ | ⟨h2, j, h4, rfl⟩
    · have := h4.le
      unfold lows at this
      rw [List.length_map, List.length_take, List.length_drop] at this
      omega
    · have hj : j ≤ ((L.drop n).drop (hEnd (L.drop n))).length := by
        have t := (List.takeWhile_prefix psign (l := (L.drop n).drop (hEnd (L.drop n)))).length_le
        unfold pathR at h4
        split at h4
        · cases h4; omega
        · split at h4
          · cases h4
          · split at h4
            · cases h4
            · cases h4; exact t
      rw [List.length_drop, List.length_drop] at hj
      omega
end Kb
namespace Kb
open PySem PySem.Spec PyProof.Rows L2 TL
/-! ### beginnings of hosts -/
theorem sp1_glue (c : Nat) : ∀ (p s : List Nat) (C : List (List Nat)) (q h : List Nat) (T : List (List Nat)), sp1 c p = C ++ [q] → sp1 c s = h :: T → sp1 c (p ++ s) = C ++ (q ++ h) :: T
  | [], s, C, q, h, T, e1, e2 => by
    have e1 : [[]] = C ++ [q] := e1
    cases C with
    | nil =>
      simp only [List.nil_append, List.cons.injEq, and_true] at e1
      subst e1
      exact e2
    | cons a C =>
      simp at e1
  | x :: p, s, C, q, h, T, e1, e2 => by
    by_cases hx : x = c
    · subst hx
      rw [sp1_hit] at e1
      rw [List.cons_append, sp1_hit]
      cases C with
      | nil =>
        simp only [List.nil_append, List.cons.injEq] at e1
        exact absurd e1.2 (sp1_ne _ _)
      | cons a C =>
        rw [List.cons_append, List.cons.injEq] at e1
        rw [sp1_glue x p s C q h T e1.2 e2, ← e1.1]; rfl
    · obtain ⟨a, r, e⟩ := sp1_cons c p
      rw [sp1_miss hx e] at e1
      rw [List.cons_append]
      cases C with
      | nil =>
        simp only [List.nil_append, List.cons.injEq] at e1
        obtain ⟨rfl, rfl⟩ := e1
        rw [sp1_miss hx (sp1_glue c p s [] a h T e e2)]; rfl
      | cons b C =>
        rw [List.cons_append, List.cons.injEq] at e1
        obtain ⟨rfl, rfl⟩ := e1
        rw [sp1_miss hx (sp1_glue c p s (a :: C) q h T e e2)]; rfl
theorem hostB_of {l : List Nat} {L : List (List Nat)} (e : sp1 46 l = L) (h1 : l.length ≤ 100) (h2 : L.length ≤ 10) (h3 : ∀ p ∈ L, labB p = true) (h4 : digB (lastL L) = false) : hostB l = true := by
  unfold hostB hostL
  rw [e, h4, decide_eq_true h1, decide_eq_true h2, List.all_eq_true.mpr h3]; rfl
theorem labB_open {q h : List Nat} (hl : labB (q ++ h) = true) (hq : q ≠ []) (h19 : q.length ≤ 19) : labB (q ++ [97]) = true ∧ digB (q ++ [97]) = false := by
  unfold labB onlyB at hl
  simp only [Bool.and_eq_true, List.all_eq_true, decide_eq_true_eq] at hl
  obtain ⟨g1, ⟨g2, g3⟩, g4, g5⟩ := hl
  obtain ⟨a, r, rfl⟩ := List.exists_cons_of_ne_nil hq
  refine ⟨?_, ?_⟩
  · unfold labB onlyB
    simp only [Bool.and_eq_true, List.all_eq_true, decide_eq_true_eq]
    refine ⟨by simp at h19 ⊢; omega, ⟨fun c hc => ?_, by simp⟩, by simpa using g4, by rw [List.getLast?_concat]; decide⟩
    rcases List.mem_append.mp hc with m | m
    · exact g2 c (List.mem_append_left _ m)
    · rw [List.mem_singleton.mp m]; decide
  · unfold digB onlyB
    rw [List.all_append, show [97].all (fun c => decide (c ∈ digs)) = false by decide, Bool.and_false, Bool.false_and]
theorem labB_a : labB [97] = true ∧ digB [97] = false := by decide
theorem host_prefix {H : List Nat} (h : hostB H = true) {i : Nat} (hi : 1 ≤ i) (hl : i ≤ H.length) : goodL (H.take i) = true := by
  unfold goodL
  rcases Nat.lt_or_ge i H.length with hlt | hge
  · have hs : H.drop i ≠ [] := fun e => by rw [List.drop_eq_nil_iff] at e; omega
    obtain ⟨C, q, e1⟩ : ∃ C q, sp1 46 (H.take i) = C ++ [q] := ⟨_, _, (List.dropLast_concat_getLast (sp1_ne 46 (H.take i))).symm⟩
    obtain ⟨g, T, e2⟩ := sp1_cons 46 (H.drop i)
    have eH := sp1_glue 46 _ _ C q g T e1 e2
    rw [List.take_append_drop] at eH
    unfold hostB hostL at h
    rw [eH] at h
    simp only [Bool.and_eq_true, List.all_eq_true, decide_eq_true_eq] at h
    obtain ⟨h1, h2, h3, _⟩ := h
    rw [List.length_append, List.length_cons] at h2
    have hqg := h3 (q ++ g) (List.mem_append_right _ (List.mem_cons_self ..))
    have hC : ∀ p ∈ C, labB p = true := fun p hp => h3 p (List.mem_append_left _ hp)
    have lt : (H.take i).length = i := by rw [List.length_take]; omega
    suffices beginsB (H.take i) = true by rw [this, Bool.or_true]
    unfold beginsB
    by_cases hq : q = []
    · have : hostB (H.take i ++ [97]) = true := by
        refine hostB_of (L := C ++ [[97]]) (by rw [sp1_glue 46 _ [97] C q [97] [] e1 (by decide), hq]; rfl) (by rw [List.length_append, lt]; simp; omega) (by rw [List.length_append]; simp; omega) (fun p hp => ?_) (by rw [lastL_snoc]; exact labB_a.2)
        rcases List.mem_append.mp hp with m | m
        · exact hC p m
        · rw [List.mem_singleton.mp m]; exact labB_a.1
      rw [this]; simp
    · rcases Nat.lt_or_ge q.length 20 with h20 | h20
      · obtain ⟨o1, o2⟩ := labB_open hqg hq (by omega)
        have : hostB (H.take i ++ [97]) = true := by
          refine hostB_of (L := C ++ [q ++ [97]]) (sp1_glue 46 _ [97] C q [97] [] e1 (by decide)) (by rw [List.length_append, lt]; simp; omega) (by rw [List.length_append]; simp; omega) (fun p hp => ?_) (by rw [lastL_snoc]; exact o2)
          rcases List.mem_append.mp hp with m | m
          · exact hC p m
          · rw [List.mem_singleton.mp m]; exact o1
        rw [this]; simp
      · have hlab := lab_len hqg
        rw [List.length_append] at hlab
        have hg : g = [] := List.eq_nil_of_length_eq_zero (by omega)
        subst hg
        rw [List.append_nil] at hqg
        obtain ⟨x, s, es⟩ := List.exists_cons_of_ne_nil hs
        have hx : x = 46 := by
          by_cases hx : x = 46
          · exact hx
          · obtain ⟨a, r, e⟩ := sp1_cons 46 s
            rw [es, sp1_miss hx e] at e2
            simp at e2
        subst hx
        rw [es, sp1_hit, List.cons.injEq] at e2
        have hT : T ≠ [] := by rw [← e2.2]; exact sp1_ne _ _
        obtain ⟨t, T2, rfl⟩ := List.exists_cons_of_ne_nil hT
        have ht := lab_ne (h3 t (List.mem_append_right _ (List.mem_cons_of_mem _ (List.mem_cons_self ..))))
        have hsn : s ≠ [] := fun e => by
          have e3 := e2.2
          rw [e] at e3
          simp [sp1] at e3
          exact ht e3.1
        have hlen : 2 ≤ (H.drop i).length := by
          rw [es, List.length_cons]
          have := List.length_pos_iff.mpr hsn
          omega
        rw [List.length_drop] at hlen
        rw [List.length_cons] at h2
        have : hostB (H.take i ++ [46, 97]) = true := by
          refine hostB_of (L := (C ++ [q]) ++ [[97]]) (by rw [sp1_glue 46 _ [46, 97] C q [] [[97]] e1 (by decide), List.append_nil, List.append_assoc]; rfl) (by rw [List.length_append, lt]; simp; omega) (by rw [List.length_append, List.length_append]; simp; omega) (fun p hp => ?_) (by rw [lastL_snoc]; exact labB_a.2)
          rcases List.mem_append.mp hp with m | m
          · rcases List.mem_append.mp m with m | m
            · exact hC p m
            · rw [List.mem_singleton.mp m]; exact hqg
          · rw [List.mem_singleton.mp m]; exact labB_a.1
        rw [this]; simp
  · rw [List.take_of_length_le (by omega)]
    unfold beginsB
    rw [h]; simp
/-- the signs of a host -/
theorem host_sign {l : List Nat} (h : hostB l = true) : ∀ s ∈ l, s = 46 ∨ s ∈ lsig := fun s hs => by
  have hl : ∀ p ∈ sp1 46 l, labB p = true := by
    unfold hostB hostL at h
    simp only [Bool.and_eq_true, List.all_eq_true] at h
    exact h.2.2.1
  by_cases e : s = 46
  · exact .inl e
  · rw [← joinL_sp1 46 l] at hs
    have : ∀ L : List (List Nat), (∀ p ∈ L, labB p = true) → s ∈ joinL [46] L → s ∈ lsig := by
      intro L
      induction L with
      | nil => intro _ hs; cases hs
      | cons p L ih =>
        intro hL hs
        cases L with
        | nil => exact lab_sign (hL p (List.mem_cons_self ..)) hs
        | cons q r =>
          have hs : s ∈ p ++ (46 :: joinL [46] (q :: r)) := hs
          rcases List.mem_append.mp hs with a | a
          · exact lab_sign (hL p (List.mem_cons_self ..)) a
          · rcases List.mem_cons.mp a with a | a
            · exact absurd a e
            · exact ih (fun l hl => hL l (List.mem_cons_of_mem _ hl)) a
    exact .inr (this _ hl hs)
theorem hsign_ok {s : Nat} (h : s = 46 ∨ s ∈ lsig) : stop3 s = false ∧ lo1 s = s ∧ s < 128 := by
  rcases h with rfl | h
  · decide
  · simp only [lsig, List.mem_cons, List.not_mem_nil, or_false] at h
    have : ∀ s, s < 128 → (s = 45 ∨ (48 ≤ s ∧ s ≤ 57) ∨ (97 ≤ s ∧ s ≤ 122)) → stop3 s = false ∧ lo1 s = s ∧ s < 128 := by decide +kernel
    exact this s (by omega) (by omega)
theorem lows_host {l : List Nat} (h : ∀ s ∈ l, s = 46 ∨ s ∈ lsig) : lows l = l := by
  unfold lows
  exact (List.map_congr_left fun s hs => (hsign_ok (h s hs)).2.1).trans (List.map_id l)
theorem host_tells {l : List Nat} (h : hostB l = true) : tellsL l = true ∧ stripDot l = l ∧ tellsL (l ++ [46]) = true ∧ stripDot (l ++ [46]) = l := by
  have e : l.getLast? ≠ some 46 := fun e => by rw [host_dot e] at h; cases h
  have e2 := strip_other e
  refine ⟨by unfold tellsL; rw [e2]; exact h, e2, ?_, strip_dot⟩
  unfold tellsL
  rw [strip_dot]; exact h
end Kb
namespace Kb
open PySem PySem.Spec PyProof.Rows L2 TL
/-! ### texts that are put together -/
def Sch (sc : List Nat) (n : Nat) : Prop := (sc = [104, 116, 116, 112] ∧ n = 7) ∨ (sc = [104, 116, 116, 112, 115] ∧ n = 8)
theorem Sch.at {sc : List Nat} {n : Nat} (h : Sch sc n) (X : List Nat) : schN (sc ++ ([58, 47, 47] ++ X)) = some (sc, n) := by
  rcases h with ⟨rfl, rfl⟩ | ⟨rfl, rfl⟩ <;> rfl
theorem addr_built {sc A W R : List Nat} {n k : Nat} (hs : Sch sc n) (hA : lows A = sc ++ [58, 47, 47]) (hW : ∀ s ∈ W, stop3 s = false) (ht : tellsL (lows W) = true)
    (hR : ∀ c r, R = c :: r → stop3 c = true) (hk : pathR R = .ok k) : AddrOk (A ++ (W ++ R)) sc (stripDot (lows W)) (if k = 0 then [47] else R.take k) := by
  have hn : A.length = n := by
    have := congrArg List.length hA
    unfold lows at this
    rw [List.length_map] at this
    rw [this]
    rcases hs with ⟨rfl, rfl⟩ | ⟨rfl, rfl⟩ <;> rfl
  have hd : (A ++ (W ++ R)).drop n = W ++ R := by rw [← hn, List.drop_left]
  have hall : W.all (fun c => !stop3 c) = true := List.all_eq_true.mpr fun s h => by rw [hW s h]; rfl
  have he : hEnd (W ++ R) = W.length := by
    cases R with
    | nil => rw [List.append_nil]; exact hEnd_all hall
    | cons c r => exact hEnd_at (i := W.length) (by rw [List.take_left]; exact hall) (by rw [List.getElem?_append_right (Nat.le_refl _), Nat.sub_self]; rfl) (hR c r rfl)
  refine ⟨n, k, ?_, ?_, ?_, ?_, ?_⟩
  · unfold lows at *
    rw [List.map_append, hA, List.append_assoc]
    exact hs.at _
  · rw [hd, he, List.take_left]; exact ht
  · rw [hd, he, List.take_left]
  · rw [hd, he, List.drop_left]; exact hk
  · rw [hd, he, List.drop_left]
theorem path_tail {P t : List Nat} (h : P.all psign = true) (hl : P.length ≤ 200) (ht : ∀ c r, t = c :: r → stop2 c = true) : pathR (P ++ t) = .ok P.length := by
  cases t with
  | nil => rw [List.append_nil]; exact pathR_end h hl
  | cons c r => exact pathR_stop (i := P.length) (by rw [List.take_left]; exact h) hl (by rw [List.getElem?_append_right (Nat.le_refl _), Nat.sub_self]; rfl) (ht c r rfl)
theorem stop23 {c : Nat} (h : stop2 c = true) : stop3 c = true := by
  unfold stop3
  unfold stop2 at h
  rw [h, Bool.or_true]
theorem pathB_parts {P : List Nat} (h : pathB P = true) : P.all psign = true ∧ P.length ≤ 200 ∧ ∃ r, P = 47 :: r := by
  unfold pathB at h
  rw [Bool.and_eq_true, Bool.and_eq_true, decide_eq_true_eq, List.isPrefixOf_iff_prefix] at h
  obtain ⟨r, e⟩ := h.2.1
  exact ⟨h.2.2, h.1, r, e.symm⟩
/-- a beginning of an address's text -/
theorem addr_prefix {sc W P : List Nat} {n z : Nat} (hs : Sch sc n) (hW : hostB W = true) (hP : pathB P = true) (hz : z < (sc ++ ([58, 47, 47] ++ (W ++ P))).length) :
    AddrBad ((sc ++ ([58, 47, 47] ++ (W ++ P))).take z) (z + 1) ∨ ∃ ho pa, AddrOk ((sc ++ ([58, 47, 47] ++ (W ++ P))).take z) sc ho pa ∧ hostB ho = true ∧ pathB pa = true ∧
      ((sc ++ ([58, 47, 47] ++ (W ++ P))).take z = sc ++ ([58, 47, 47] ++ (ho ++ pa)) ∨ (sc ++ ([58, 47, 47] ++ (W ++ P))).take z = (sc ++ ([58, 47, 47] ++ (ho ++ pa))).dropLast ∨ ((sc ++ ([58, 47, 47] ++ (W ++ P))).take z).getLast? = some 46) := by
  obtain ⟨p1, p2, r, rfl⟩ := pathB_parts hP
  have hsg := host_sign hW
  have hn : (sc ++ [58, 47, 47]).length = n := by rcases hs with ⟨rfl, rfl⟩ | ⟨rfl, rfl⟩ <;> rfl
  have eA : sc ++ ([58, 47, 47] ++ (W ++ 47 :: r)) = (sc ++ [58, 47, 47]) ++ (W ++ 47 :: r) := by rw [List.append_assoc]
  have lA : lows (sc ++ [58, 47, 47]) = sc ++ [58, 47, 47] := by rcases hs with ⟨rfl, rfl⟩ | ⟨rfl, rfl⟩ <;> decide
  rcases Nat.lt_or_ge z n with h1 | h1
  · left
    have e : (sc ++ ([58, 47, 47] ++ (W ++ 47 :: r))).take z = (sc ++ [58, 47, 47]).take z := by rw [eA, List.take_append_of_le_length (by omega)]
    rw [e]
    left
    have k1 : ∀ z, z < 7 → schN (lows (([104, 116, 116, 112] ++ [58, 47, 47]).take z)) = none ∧ ∀ j, j < z → schB ((lows (([104, 116, 116, 112] ++ [58, 47, 47]).take z)).take (j + 1)) = true := by decide +kernel
    have k2 : ∀ z, z < 8 → schN (lows (([104, 116, 116, 112, 115] ++ [58, 47, 47]).take z)) = none ∧ ∀ j, j < z → schB ((lows (([104, 116, 116, 112, 115] ++ [58, 47, 47]).take z)).take (j + 1)) = true := by decide +kernel
    have lz : (lows ((sc ++ [58, 47, 47]).take z)).length = z := by
      unfold lows
      rw [List.length_map, List.length_take]; omega
    rcases hs with ⟨rfl, rfl⟩ | ⟨rfl, rfl⟩
    · exact ⟨(k1 z h1).1, .inl ⟨by rw [lz], fun j hj => (k1 z h1).2 j (by rw [lz] at hj; exact hj)⟩⟩
    · exact ⟨(k2 z h1).1, .inl ⟨by rw [lz], fun j hj => (k2 z h1).2 j (by rw [lz] at hj; exact hj)⟩⟩
  · have e : (sc ++ ([58, 47, 47] ++ (W ++ 47 :: r))).take z = (sc ++ [58, 47, 47]) ++ (W ++ 47 :: r).take (z - n) := by
      rw [eA, List.take_append, List.take_of_length_le (by omega), hn]
    have hz2 : z - n < (W ++ 47 :: r).length := by
      rw [eA, List.length_append] at hz; omega
    rw [e]
    rw [List.length_append] at hz2
    rcases Nat.lt_or_ge (z - n) (W.length + 1) with h2 | h2
    · -- within the host
      have e2 : (W ++ 47 :: r).take (z - n) = W.take (z - n) := List.take_append_of_le_length (by omega)
      rw [e2]
      have hsg2 : ∀ s ∈ W.take (z - n), s = 46 ∨ s ∈ lsig := fun s h => hsg s (List.mem_of_mem_take h)
      have lw : (W.take (z - n)).length = z - n := by rw [List.length_take]; omega
      generalize hQ : W.take (z - n) = U at hsg2 lw
      have lU := lows_host hsg2
      cases ht : tellsL U with
      | true =>
        right
        have b := addr_built (R := []) (k := 0) hs lA (fun s h => (hsign_ok (hsg2 s h)).1) (by rw [lU]; exact ht) (fun c r e => by cases e) rfl
        rw [List.append_nil, lU, if_pos rfl] at b
        refine ⟨_, _, b, ht, by decide, .inr ?_⟩
        by_cases hd : U.getLast? = some 46
        · right
          have hne : U ≠ [] := fun e => by rw [e] at hd; cases hd
          obtain ⟨u, d, rfl⟩ := snoc_of_ne hne
          rw [List.getLast?_concat] at hd
          rw [← List.append_assoc, List.getLast?_concat]
          exact hd
        · left
          rw [strip_other hd, show sc ++ ([58, 47, 47] ++ (U ++ [47])) = ((sc ++ [58, 47, 47]) ++ U) ++ [47] by simp, List.dropLast_concat]
      | false =>
        left; right
        have hn2 : ((sc ++ [58, 47, 47]) ++ U).drop n = U := by rw [← hn, List.drop_left]
        have he : hEnd U = U.length := hEnd_all (List.all_eq_true.mpr fun s h => by rw [(hsign_ok (hsg2 s h)).1]; rfl)
        refine ⟨sc, n, ?_, .inl ?_⟩
        · unfold lows at lA ⊢
          rw [List.map_append, lA, List.append_assoc]
          exact hs.at _
        · rw [hn2, he, List.take_length, lU]
          refine ⟨ht, U.length + 1, .inl ⟨rfl, fun j hj => ?_⟩, by omega⟩
          rw [← hQ, List.take_take, Nat.min_eq_left (by omega)]
          exact host_prefix hW (by omega) (by omega)
    · -- within the path
      obtain ⟨i, hi⟩ : ∃ i, z - n = W.length + (i + 1) := ⟨z - n - W.length - 1, by omega⟩
      have e2 : (W ++ 47 :: r).take (z - n) = W ++ 47 :: r.take i := by
        rw [hi, List.take_length_add_append, List.take_succ_cons]
      rw [e2]
      have hp : pathB (47 :: r.take i) = true := by
        unfold pathB
        rw [List.all_cons, Bool.and_eq_true] at p1
        rw [decide_eq_true (by rw [List.length_cons] at p2 ⊢; rw [List.length_take]; omega), Bool.true_and, List.all_cons, p1.1, Bool.true_and, Bool.and_eq_true]
        exact ⟨by simp [List.isPrefixOf], List.all_eq_true.mpr fun s h => List.all_eq_true.mp p1.2 s (List.mem_of_mem_take h)⟩
      obtain ⟨q1, q2, _⟩ := pathB_parts hp
      right
      have ht := host_tells hW
      have lU := lows_host hsg
      have b := addr_built (R := 47 :: r.take i) (k := (47 :: r.take i).length) hs lA (fun s h => (hsign_ok (hsg s h)).1) (by rw [lU]; exact ht.1) (fun c r e => by cases e; decide) (pathR_end q1 q2)
      rw [lU, ht.2.1, if_neg (by simp), List.take_length] at b
      exact ⟨_, _, b, hW, hp, .inl (by simp)⟩
end Kb
namespace Kb
open PySem PySem.Spec PyProof.Rows L2 TL
theorem cutS_two (z : Str) (n i : Nat) : tl (cutS z (some (n : Int)) (some ((n + i : Nat) : Int))) = ((tl z).drop n).take i := by
  show ((tl z).drop (HT.sIx z.length 0 (some (n : Int)))).take (HT.sIx z.length z.length (some ((n + i : Nat) : Int)) - HT.sIx z.length 0 (some (n : Int))) = _
  rw [HT.sIx_nat, HT.sIx_nat, len_tl]
  rcases Nat.le_total (tl z).length n with h | h
  · rw [Nat.min_eq_right h, List.drop_eq_nil_of_le h, List.drop_eq_nil_of_le (Nat.le_refl _), List.take_nil, List.take_nil]
  · rw [Nat.min_eq_left h]
    rcases Nat.le_total (tl z).length (n + i) with g | g
    · rw [Nat.min_eq_right g, List.take_of_length_le (by rw [List.length_drop]; omega), List.take_of_length_le (by rw [List.length_drop]; omega)]
    · rw [Nat.min_eq_left g, show n + i - n = i by omega]
end Kb
namespace Kb
theorem pathR_le {r : List Nat} {k : Nat} (h : pathR r = .ok k) : k ≤ r.length := by
  have t := (List.takeWhile_prefix psign (l := r)).length_le
  unfold pathR at h
  split at h
  · cases h
  · split at h
    · cases h; exact t
    · split at h
      · cases h; exact t
      · cases h
end Kb
namespace Kb
open PySem PySem.Spec PyProof.Rows L2 TL
def schemes2 : List Str := [("http" : Str), "https"]
theorem schemes_at {i : Nat} {e : Str} (h : schemes2[i]? = some e) : (i = 0 ∧ e = "http") ∨ (i = 1 ∧ e = "https") := by
  rcases i with _ | _ | i
  · cases h; exact .inl ⟨rfl, rfl⟩
  · cases h; exact .inr ⟨rfl, rfl⟩
  · cases h
theorem tl_mark0 : tl (("http" : Str) ++ ("://" : Str)) = hS := by decide +kernel
theorem tl_mark1 : tl (("https" : Str) ++ ("://" : Str)) = sS := by decide +kernel
theorem marks_len {e : Str} (h : e ∈ schemes2) : e.length + ("://" : Str).length ≤ 8 := by
  have : ∀ e ∈ schemes2, e.length + ("://" : Str).length ≤ 8 := by decide +kernel
  exact this e h
theorem tl_mark3 : tl ("://" : Str) = [58, 47, 47] := by decide +kernel
end Kb
namespace Kb
open PySem PySem.Spec PyProof.Rows L2 TL
theorem addr_mk {sc A W P t ho : List Nat} {n : Nat} (hs : Sch sc n) (hA : lows A = sc ++ [58, 47, 47]) (hW : ∀ s ∈ W, stop3 s = false) (ht : tellsL (lows W) = true) (hh : stripDot (lows W) = ho) (hP : pathB P = true)
    (hT : ∀ c r, t = c :: r → stop2 c = true) : AddrOk (A ++ (W ++ (P ++ t))) sc ho P := by
  obtain ⟨p1, p2, r, rfl⟩ := pathB_parts hP
  have := addr_built (R := (47 :: r) ++ t) (k := (47 :: r).length) hs hA hW ht (fun c r2 e => by cases e; decide) (path_tail p1 p2 hT)
  rw [hh, if_neg (by simp), List.take_left] at this
  exact this
theorem addr_mk0 {sc A W t ho : List Nat} {n : Nat} (hs : Sch sc n) (hA : lows A = sc ++ [58, 47, 47]) (hW : ∀ s ∈ W, stop3 s = false) (ht : tellsL (lows W) = true) (hh : stripDot (lows W) = ho)
    (hT : ∀ c r, t = c :: r → stop2 c = true) : AddrOk (A ++ (W ++ t)) sc ho [47] := by
  have := addr_built (R := t) (k := 0) hs hA hW ht (fun c r2 e => stop23 (hT c r2 e)) (path_tail (P := []) rfl (Nat.zero_le _) hT)
  rw [hh, if_pos rfl] at this
  exact this
theorem sch_of {x : Str} (h : x ∈ schemes2) : ∃ n, Sch (tl x) n ∧ lows (tl x ++ [58, 47, 47]) = tl x ++ [58, 47, 47] ∧ lows ((tl x).map up1 ++ [58, 47, 47]) = tl x ++ [58, 47, 47] ∧ ascii x ∧ x.length ≤ 5 := by
  have : x = "http" ∨ x = "https" := by
    unfold schemes2 at h
    simpa using h
  rcases this with rfl | rfl
  · exact ⟨7, .inl ⟨by decide +kernel, rfl⟩, by decide +kernel, by decide +kernel, ascii_lit (by decide +kernel), by decide +kernel⟩
  · exact ⟨8, .inr ⟨by decide +kernel, rfl⟩, by decide +kernel, by decide +kernel, ascii_lit (by decide +kernel), by decide +kernel⟩
theorem sch_in {x y : Str} (h : x ∈ schemes2) (e : tl y = tl x) : y ∈ schemes2 := by rw [ext_tl e]; exact h
theorem up_host {l : List Nat} (h : ∀ s ∈ l, s = 46 ∨ s ∈ lsig) : lows (l.map up1) = l ∧ ∀ s ∈ l.map up1, stop3 s = false := by
  have key : ∀ s, s < 128 → (s = 46 ∨ s = 45 ∨ (48 ≤ s ∧ s ≤ 57) ∨ (97 ≤ s ∧ s ≤ 122)) → lo1 (up1 s) = s ∧ stop3 (up1 s) = false := by decide +kernel
  have k2 : ∀ s ∈ l, lo1 (up1 s) = s ∧ stop3 (up1 s) = false := fun s hs => by
    rcases h s hs with rfl | q
    · decide
    · simp only [lsig, List.mem_cons, List.not_mem_nil, or_false] at q
      exact key s (by omega) (by omega)
  refine ⟨?_, fun s hs => ?_⟩
  · unfold lows
    rw [List.map_map]
    exact (List.map_congr_left fun s hs => (k2 s hs).1).trans (List.map_id l)
  · obtain ⟨c, hc, rfl⟩ := List.mem_map.mp hs
    exact (k2 c hc).2
def big : List Nat := joinL [46] (List.replicate 5 (List.replicate 20 97))
theorem bad108 : AddrBad (hS ++ (big ++ [47])) 108 := by
  have h1 : schN (lows (hS ++ (big ++ [47]))) = some ([104, 116, 116, 112], 7) := by decide +kernel
  have h2 : (hS ++ (big ++ [47])).drop 7 = big ++ [47] := by decide +kernel
  have h3 : hEnd (big ++ [47]) = 104 := by decide +kernel
  have h4 : lows ((big ++ [47]).take 104) = big := by decide +kernel
  have h5 : hostB (big.take 100) = true := by decide +kernel
  refine .inr ⟨_, 7, h1, .inl ?_⟩
  rw [h2, h3, h4]
  refine ⟨by decide +kernel, 101, .inr ⟨by decide, by decide +kernel, by decide +kernel, fun j hj => ?_⟩, rfl⟩
  have := host_prefix h5 (i := j + 1) (by omega) (by rw [show (big.take 100).length = 100 by decide +kernel]; omega)
  rw [List.take_take, Nat.min_eq_left (by omega)] at this
  exact this
theorem lay_strsT {W : List Str} (h : ∀ w ∈ W, ascii w) : SeqAt.shaped (.tuple (W.map PyData.str)) = true := by
  unfold SeqAt.shaped
  rw [PyData.canLay0, canLay_strs W fun w hw => lay_str (h w hw), PyData.depth, depth_strs]; rfl
theorem eqv_strsT (W Z : List Str) : PyData.eqv (.tuple (W.map PyData.str)) (.tuple (Z.map PyData.str)) = decide (W = Z) := by rw [PyData.eqv, eqvAll_strs]
theorem ascii_host {y : Str} (h : hostB (tl y) = true) : ascii y := fun s hs => (hsign_ok (host_sign h s hs)).2.2
theorem ascii_path {y : Str} (h : pathB (tl y) = true) : ascii y := fun s hs => by
  have := List.all_eq_true.mp (pathB_parts h).1 s hs
  unfold psign at this
  simp only [Bool.and_eq_true, decide_eq_true_eq] at this
  omega
end Kb

namespace Kb
open PySem PySem.Spec PyProof.Rows L2
/-! ### a new list, not the table of modules; repr of a list with an empty dict in it -/
def tLstS (ta : TA) : TE := fun σ H Q => ta σ H fun xs H1 => xs.length ≤ sizeLine ∧ ∀ p, H1 p = none → (p == sysModules) = false → Q (.ref p) (upd H1 p (.lst xs))
section
variable {X : Cx}
theorem pe_lstS {es : List Expr} {ta : TA} {pos : Pos} (h : PA X es ta) : PE X (.List es pos) (tLstS ta) := by
  refine ⟨fun pins s σ H Q I hq => ?_⟩
  refine wpAny_List_spliced (thn (h.run pos pins s σ H _ I hq) fun us s1 ⟨xs, H1, I1, r, z, q⟩ => ⟨by rw [← r.length]; exact z, ?_⟩)
  have fr : H1 s1.heap.objs.size = none := I1.hok.fresh (Nat.le_refl _)
  have nm : (s1.heap.objs.size == sysModules) = false := beq_eq_false_iff_ne.mpr (Nat.ne_of_gt I1.big)
  exact ⟨.ref s1.heap.objs.size, upd H1 s1.heap.objs.size (.lst xs), I1.laid (t' := s1.toks) (fun b u e => Heap.get?_push_of_some _ e) (Nat.le_refl _) ⟨z, us, 0, r, Heap.get?_push_size _ rfl⟩, rfl, q _ fr nm⟩
def rReprE (K : PySem.W.Frag) : List V → Hp → VK → Prop := fun xs H Q => rRepr K xs H Q ∨
  ∃ L d : Addr, xs = [.ref L] ∧ H L = some (.lst [.ref d]) ∧ H d = some (.dK []) ∧ (L == sysModules) = false ∧ Q (.str (PyData.list [.dict []]).shown) H
theorem call_reprE (hu : X.A.units + 65 < cLine) (hg : X.A.guards = some []) : CallR X (.builtin "repr") (rReprE X.K) := by
  intro pins s σ H xs us Q I r h
  rcases h with h | ⟨L, d, rfl, hL, hd, nm, q⟩
  · exact call_reprD hu hg pins s σ H xs us Q I r h
  · obtain ⟨u, rfl, r1⟩ := vals1 r
    cases r1
    obtain ⟨_, its, n, hv, eL⟩ := I.hok L _ hL
    obtain ⟨_, sd, vs, kv, dd⟩ := I.hok d _ hd
    have e1 : its = [.ref d] := by
      cases hv with
      | cons a b => cases b; cases a; rfl
    subst e1
    have e2 : vs = [] := by cases kv; rfl
    subst e2
    obtain ⟨o, es, ep, eo, ex, ed, _, hp, _⟩ := dd
    have hes : es.toList = [] := by
      cases h : es.toList with
      | nil => rfl
      | cons x r => rw [h] at hp; cases hp
    have rd : Reads s.heap (.ref L) (.list [.dict []]) (L :: ((d :: [] ++ []) ++ [])) := by
      refine .list eL rfl rfl (.cons (.dict (kvs := []) eo ex.1 ed ?_ ?_) .nil)
      · rw [hes]; exact .nil
      · rw [hes]; exact .nil
    refine repr_of_reads' rd (by simp [PyData.showable, PyData.showableAll, PyData.showableKv]) (fun _ => ?_) hg (by simp [PyData.depth, PyData.depthAll, PyData.depthKv]; omega) (fun _ _ e => e) (fun h' t tk k => ⟨.str _, H, I.kept (t' := tk) k, ⟨t, rfl⟩, q⟩) ?_
    · have n1 : sysModules ≠ L := fun z => by rw [z] at nm; simp at nm
      have n2 : sysModules ≠ d := fun z => by rw [z] at sd; simp at sd
      simp [n1, n2]
    · decide
end
end Kb

namespace Kb
open PySem PySem.Spec PyProof.Rows L2 TL
/-! ### how long the repr of data is -/
mutual
def wtD : PyData → Nat
  | .none => 4
  | .bool _ => 5
  | .int i => (toString i : Str).length
  | .str x => 10 * x.length + 2
  | .list xs => 3 + wtAll xs
  | .tuple xs => 3 + wtAll xs
  | .dict _ => 0
def wtAll : List PyData → Nat
  | [] => 0
  | x :: xs => wtD x + 2 + wtAll xs
end
mutual
def plainD : PyData → Prop
  | .str x => ∀ c ∈ tl x, c < 128
  | .list xs => plainAll xs
  | .tuple xs => plainAll xs
  | .dict _ => False
  | _ => True
def plainAll : List PyData → Prop
  | [] => True
  | x :: xs => plainD x ∧ plainAll xs
end
theorem textFrom_le : ∀ (ts : List Str) (k : Nat) (acc : Str), (textFrom k acc ts).length ≤ acc.length + (ts.map fun t => t.length + 2).sum
  | [], k, acc => by show acc.length ≤ acc.length + 0; omega
  | t :: r, k, acc => by
    show (textFrom (k + 1) (acc ++ (if k > 0 then ", " else "" : String) ++ t) r).length ≤ _
    have ih := textFrom_le r (k + 1) (acc ++ (if k > 0 then ", " else "" : String) ++ t)
    have h2 : ((if k > 0 then ", " else "" : String) : Str).length ≤ 2 := by
      split
      · decide +kernel
      · decide +kernel
    rw [Str.length_append, Str.length_append] at ih
    rw [List.map_cons, List.sum_cons]
    omega
theorem join_le : ∀ ts : List Str, (Str.join ", " ts).length ≤ (ts.map fun t => t.length + 2).sum
  | [] => by show (0 : Nat) ≤ _; omega
  | t :: r => by
    have := join_length_add (t :: r) (by simp)
    have e : piled (t :: r) = ((t :: r).map fun t => t.length + 2).sum := rfl
    omega
mutual
theorem shown_le : ∀ d : PyData, plainD d → d.shown.length ≤ wtD d
  | .none, _ => by decide +kernel
  | .bool b, _ => by cases b <;> decide +kernel
  | .int i, _ => by simp only [PyData.shown, wtD]; exact Nat.le_refl _
  | .str x, h => by
    simp only [PyData.shown, wtD]
    exact PySem.StrLaws.reprText_len x fun c hc => by
      simp only [plainD] at h
      have := h c hc
      omega
  | .list xs, h => by
    simp only [plainD] at h
    simp only [PyData.shown, wtD, listText]
    have a := textFrom_le (PyData.shownAll xs) 0 "["
    have b := shownAll_le xs h
    rw [Str.length_append]
    have c1 : ("[" : Str).length = 1 := by decide +kernel
    have c2 : ("]" : Str).length = 1 := by decide +kernel
    omega
  | .tuple xs, h => by
    simp only [plainD] at h
    simp only [PyData.shown, wtD, tupleText]
    have a := join_le (PyData.shownAll xs)
    have b := shownAll_le xs h
    rw [Str.length_append, Str.length_append]
    have c1 : ("(" : Str).length = 1 := by decide +kernel
    have c2 : ((if (PyData.shownAll xs).length == 1 then ",)" else ")" : String) : Str).length ≤ 2 := by
      split <;> decide +kernel
    omega
  | .dict _, h => by simp only [plainD] at h
theorem shownAll_le : ∀ xs : List PyData, plainAll xs → ((PyData.shownAll xs).map fun t => t.length + 2).sum ≤ wtAll xs
  | [], _ => by simp [PyData.shownAll, wtAll]
  | x :: xs, h => by
    simp only [plainAll] at h
    have a := shown_le x h.1
    have b := shownAll_le xs h.2
    simp only [PyData.shownAll, wtAll, List.map_cons, List.sum_cons]
    omega
end
theorem shown_fits {d : PyData} (h : plainD d) (hw : wtD d ≤ 1000000) : d.shown.length ≤ sizeLine := Nat.le_trans (Nat.le_trans (shown_le d h) hw) (by decide)
end Kb

namespace Kb
open PySem PySem.Spec PyProof.Rows L2
/-! ### several clauses «except C as e», one name for all -/
abbrev Clause := Value × (Addr → Value → Option Addr → TS)
def wMas (K : PySem.W.Frag) (i : Nat) (Wout : WX) (D : Ends) : List Clause → WX
  | [] => Wout
  | q :: r => wAs K q.1 i q.2 (wMas K i Wout D r) D
inductive AsOk (X : Cx) (n : Str) : List ExceptHandler → List Clause → Prop
  | nil : AsOk X n [] []
  | cons {x : Str} {c : Value} {ts : Addr → Value → Option Addr → TS} {st : Stmt} {more : List Stmt} {np hp : Pos} {hds : List ExceptHandler} {l : List Clause} (hc : Names X x c)
      (hsu : ∀ (a : Addr) (oe : Obj) (cls : Value) (d : Option Addr) (pn : List (Addr × Obj)), Zc cls d oe → (∃ vs, oe.data = .fields vs) → PSs (X.suite a ((a, oe) :: pn)) (st :: more) (ts a cls d)) (r : AsOk X n hds l) :
      AsOk X n (.ExceptHandler (some (.Name x np)) (some n) (st :: more) hp :: hds) ((c, ts) :: l)
section
variable {X : Cx}
theorem ps_try_mas {n : Str} {i : Nat} {body : List Stmt} {h0 : ExceptHandler} {hds : List ExceptHandler} {l : List Clause} {pos : Pos} {tb : WX → TS} {Wout : WX} (hs : X.stack = X.env :: X.outer) (hf : X.env.frame = some X.env.locals) (hN : X.N.Nodup) (hi : X.N[i]? = some n) (hln : X.env.kindOf n = some .local)
    (tk : Takes X Wout) (hb : ∀ (W : WX) (pn : List (Addr × Obj)) (xe : Value → Shared → Prop), Takes (X.tr pn xe) W → PassesOwn (model X.prog X.w) X.A X.env xe → PSs (X.tr pn xe) body (tb W)) (hh : AsOk X n (h0 :: hds) l) :
    PS X (.Try body (h0 :: hds) [] [] pos) (fun D σ H => tb (wMas X.K i Wout D l) D σ H) := by
  refine ⟨fun pins s σ H D I h => wpAny_Try_except ?_⟩
  have ok := I.ok
  have fr0 : X.A.frames = some (X.env :: X.outer) := ok.frames.trans (congrArg some hs)
  refine wpAny_mono ((hb (wMas X.K i Wout D l) (X.pn ++ pins) (fun e s1 => wpAny (model X.prog X.w) X.A (noteFrame e X.env) (fun _ s2 => wpAny (model X.prog X.w) X.A (setFlight e none) (fun _ s3 =>
    wpAny (model X.prog X.w) X.A (handleBy e X.env (h0 :: hds)) (SP X pins D) X.xe s3) X.xe s2) X.xe s1) (fun u s' y => ?_) PassesOwn.looking).run [] s σ H D (I.toTry _) h) (fun f s1 q => ?_) (fun e s1 z => z)
  · obtain ⟨a, B, sI, pins', τ, G, cls, d, rfl, J0, nb, up, sky, na, os, ag, w⟩ := y
    have J : Inv X pins τ G sI := J0.ofTry ok
    have sky : Sky B (X.env :: X.outer) a (Zc cls d) X.env.locals s'.heap := hs ▸ sky
    show wpAny (model X.prog X.w) X.A (noteFrame (.ref a) X.env) _ _ _
    refine Sky.land Zc.steady fr0 hf sky fun h3 fl up3 => ?_
    have J3 : Inv X pins τ G { s' with heap := h3 } := J.landed nb fl.1 (up.trans up3) os ag
    obtain ⟨oe, vs, ea, ez, ed⟩ := fl.there
    have nfr : a ∉ frs (X.env :: X.outer) := fun hm => by
      obtain ⟨_, o', e', hnf⟩ := fl.2.2.1.mem hm
      rw [ea] at e'
      cases e'
      exact hnf _ ed
    have nL : a ≠ X.env.locals := fun z => nfr (List.mem_filterMap.mpr ⟨X.env, List.mem_cons_self, by rw [hf, z]⟩)
    have nF : a ∉ X.fs := fun hm => by
      obtain ⟨e, he, q⟩ := List.mem_filterMap.mp hm
      exact nfr (List.mem_filterMap.mpr ⟨e, .tail _ he, q⟩)
    have S3 := J3.suite ea ed na nL nF
    have go : ∀ {hs' : List ExceptHandler} {l' : List Clause}, AsOk X n hs' l' → wMas X.K i Wout D l' cls d τ G → wpAny (model X.prog X.w) X.A (handleBy (.ref a) X.env hs') (SP X pins D) X.xe { s' with heap := h3 } := by
      intro hs' l' hk
      induction hk with
      | nil =>
        intro w
        refine wpAny_handleBy_nil ?_
        obtain ⟨_, _, _, oe, vs, T, _, _, he, _, hd, h1, _⟩ := id fl
        unfold PySem.passOn
        refine wpAny_bind (wpAny_field he hd h1 ?_)
        rw [if_neg (show ¬ ((Value.ref T == Value.none) = true) by simp)]
        have fin : wpAny (model X.prog X.w) X.A (setFlight (.ref a) X.env.frame) (fun _ s4 => wpAny (model X.prog X.w) X.A (throw (.ref a) : Sem Flow) (SP X pins D) X.xe s4) X.xe { s' with heap := h3 } := by
          rw [hf]
          refine HandSPX.setFlight_upZ fl fun h4 hh4 up4 => wpAny_throw (tk _ _ ⟨a, B, sI, pins, τ, G, cls, d, rfl, J, nb, (up.trans up3).trans up4, .inr (.inr (by rw [hs]; exact hh4)), na, os, ag, w⟩)
        first
          | exact wpAny_bind (wpAny_pure (wpAny_bind fin))
          | exact wpAny_bind fin
      | @cons x c ts st more np hp hds2 l2 hc hsu r ih =>
        intro w
        obtain ⟨b, eb, yes, no⟩ := w
        refine wpAny_handleBy_cons (codeAny_handlers_test ?_) (fun q => nomatch q)
        have LT : PySem.W.Looks (model X.prog X.w) h3 (typeOf (.ref a)) cls := fun A Q E s k q => wpAny_typeOf_ref (k _ _ ea) (by rw [ez.1]; exact q)
        have LM := PySem.W.exm_one (M := model X.prog X.w) (J3.kIn) LT eb
        have test : ∀ {Q : Value → Shared → Prop} {E : Value → Shared → Prop}, Q c { s' with heap := h3 } → wpAny (model X.prog X.w) (X.A.mark (some (.ref a))) (eval (.Name x np) X.env) Q E { s' with heap := h3 } := fun {Q E} q => by
          obtain ⟨hg, hdb, hm | ⟨hm, hv, hnn⟩⟩ := hc
          · exact ld_glob (X := X.suite a ((a, oe) :: (X.pn ++ pins))) S3 hg hm q hdb
          · exact ld_blt (X := X.suite a ((a, oe) :: (X.pn ++ pins))) S3 hg hm hv q hnn hdb
        refine test (LM.here ?_)
        cases b with
        | false => exact ih (no rfl)
        | true =>
          refine codeAny_handlers_suite_as (HandSPX.lands_againZ fl fun h4 fl4 up4 => ?_)
          have J4 : Inv X pins τ G { s' with heap := h4 } := J.landed nb fl4.1 ((up.trans up3).trans up4) os ag
          obtain ⟨o4, v4, e4, z4, d4⟩ := fl4.there
          refine store_ok (X := X.suite a ((a, o4) :: (X.pn ++ pins))) (v := .ref a) (J4.suite e4 d4 na nL nF) hN hi (.inl hln) rfl (fun s5 S5 => ?_) (.inr hln)
          refine wpAny_mono ((hsu a o4 cls d (X.pn ++ pins) z4 ⟨_, d4⟩).run [] s5 _ G _ S5 (yes rfl a na)) (fun f s6 q => ?_) (fun _ _ z => z.elim)
          have gone : ∀ {σ6 : L2.St} {H6 : Hp} {Q : Shared → Prop}, Inv (X.suite a ((a, o4) :: (X.pn ++ pins))) [] σ6 H6 s6 → (∀ s7, Inv X pins (σ6.set i none) H6 s7 → Q s7) →
              wpAny (model X.prog X.w) X.A (do bindName X.env n .none; unbindBehindTheSuite X.env n hp) (fun _ s7 => Q s7) X.xe s6 := fun {σ6 H6 Q} S6 hq => gone_ok (S6.unsuite ok) hN hi hln hq
          match f, q with
          | .next, ⟨_, _, S6, q6⟩ => exact gone S6 fun s7 J7 => ⟨_, _, J7, q6⟩
          | .brk, ⟨_, _, S6, q6⟩ => exact gone S6 fun s7 J7 => ⟨_, _, J7, q6⟩
          | .cont, ⟨_, _, S6, q6⟩ => exact gone S6 fun s7 J7 => ⟨_, _, J7, q6⟩
          | .ret u, ⟨_, _, _, S6, r6, q6⟩ => exact gone S6 fun s7 J7 => ⟨_, _, _, J7, r6, q6⟩
    exact go hh w
  · match f, q with
    | .next, ⟨_, _, J1, q⟩ => exact wpAny_execs_nil ⟨_, _, J1.ofTry ok, q⟩
    | .brk, ⟨_, _, J1, q⟩ => exact ⟨_, _, J1.ofTry ok, q⟩
    | .cont, ⟨_, _, J1, q⟩ => exact ⟨_, _, J1.ofTry ok, q⟩
    | .ret u, ⟨_, _, _, J1, r, q⟩ => exact ⟨_, _, _, J1.ofTry ok, r, q⟩
end
end Kb
namespace Kb
open PySem PySem.Spec PyProof.Rows L2
theorem exm_other {K : PySem.W.Frag} {S T : Addr} (h1 : PySem.W.subIn K (.ref T) (.type "BaseException") = some true) (h2 : PySem.W.isClsIn K T = true) (h3 : PySem.W.typeIn K (.ref T) = some (.type "type")) (h4 : PySem.W.subIn K (.ref S) (.ref T) = some false) :
    PySem.W.exmOne K (.ref S) (.ref T) = some false := by
  unfold PySem.W.isClsIn at h2
  unfold PySem.W.exmOne
  simp only [h1]
  unfold PySem.W.kitCls
  simp [h2, h3, h4]
end Kb

namespace Kb
open PySem PySem.Spec PyProof.Rows L2 LamX
/-! ### lambdas whose parameters all have defaults, handed to a def -/
/-- the defaults' object -/
def Dfl (H : Hp) (ds : List V) (dV : Value) : Prop := (ds = [] ∧ dV = .none) ∨ ∃ t : Addr, ds ≠ [] ∧ dV = .ref t ∧ H t = some (.tup ds)
abbrev lamO (q : Str) (params : Arguments) (body : Expr) (scope : Scope) (cl : List (Str × Addr)) (dV doc pm : Value) (c' : Addr) (ctv : Value) : Obj :=
  PySem.W.kdv_obj "<lambda>" q params (.expr body) scope cl dV doc pm c' ctv
/-- how it binds where nothing is handed in -/
def LamB (params : Arguments) (body : Expr) (scope : Scope) (ps : List Str) (ds : List V) : Prop :=
  (ds = [] ∧ ps = [] ∧ ∀ (q : Str) (cl : List (Str × Addr)) (doc pm cv ctv : Value), bindArgs (PySem.W.kdv_fn "<lambda>" q params (.expr body) scope cl .none doc pm cv ctv) ⟨[], []⟩ = pure []) ∨
  (ds.length = ps.length ∧ ds ≠ [] ∧ ∀ (q : Str) (cl : List (Str × Addr)) (t : Addr) (doc pm cv ctv : Value) (its : List Value), its.length = ds.length →
    ∃ k, bindArgs (PySem.W.kdv_fn "<lambda>" q params (.expr body) scope cl (.ref t) doc pm cv ctv) ⟨[], []⟩ = seqItems? (.ref t) >>= k ∧ k (some its.toArray) = pure (ps.zip its))
/-- its names: own parameters (none of them a name of the maker), captured ones, globals -/
structure LamP (N : List Str) (sc scope : Scope) (ps : List Str) : Prop where
  kind : scope.kind = .function
  co : scope.isCoroutine = false
  gen : scope.isGenerator = false
  own : ∀ y ∈ scope.names, y.2 ≠ .cell
  loc : ∀ y ∈ scope.names, y.2 = .local → y.1 ∉ N
  par : ∀ x ∈ ps, scope.names.lookup x = some .local
  free : ∀ y ∈ scope.names, y.2 = .free → sc.names.lookup y.1 = some .cell ∨ sc.names.lookup y.1 = some .free
def lamPB (N : List Str) (sc scope : Scope) (ps : List Str) : Bool :=
  decide (scope.kind = .function) && (!scope.isCoroutine && (!scope.isGenerator && ((scope.names.all fun y => !decide (y.2 = .cell)) && ((scope.names.all fun y => !decide (y.2 = .local) || !decide (y.1 ∈ N)) &&
    ((ps.all fun x => decide (scope.names.lookup x = some .local)) && (scope.names.all fun y => !decide (y.2 = .free) || (decide (sc.names.lookup y.1 = some .cell) || decide (sc.names.lookup y.1 = some .free))))))))
theorem lamP_by {N : List Str} {sc scope : Scope} {ps : List Str} (h : lamPB N sc scope ps = true) : LamP N sc scope ps := by
  unfold lamPB at h
  simp only [Bool.and_eq_true, Bool.or_eq_true, Bool.not_eq_true', decide_eq_true_eq, decide_eq_false_iff_not, List.all_eq_true] at h
  obtain ⟨g1, g2, g3, g4, g5, g6, g7⟩ := h
  refine ⟨g1, g2, g3, fun y hy => g4 y hy, fun y hy e => (g5 y hy).elim (fun z => absurd e z) id, g6, fun y hy e => ?_⟩
  rcases g7 y hy with z | z
  · exact absurd e z
  · exact z
theorem LamP.has {X : Cx} {N : List Str} {scope : Scope} {ps : List Str} (L : LamP N X.env.scope scope ps) (ok : X.Ok) : ∀ y ∈ scope.names, y.2 = .free → ∃ c, X.env.cells.lookup y.1 = some c :=
  fun y hy e => ok.has _ (L.free y hy e)
section
variable {X : Cx} {pins : List (Addr × Obj)} {σ : L2.St} {H : Hp} {s : Shared}
/-- made, its defaults at dV -/
theorem lam_tail {T : List (Addr × Str)} {c P : Addr} {params : Arguments} {body : Expr} {scope : Scope} {pos : Pos} {E Q : Value → Shared → Prop} {dV : Value} (I : Inv X pins σ H s) (TB : TabB X.base X.mg c P) (hcode : X.env.code = .ref c)
    (hm : (P, X.env.qual ++ "<lambda>") ∈ T) (hu : ∀ p ∈ T, p.1 = P → p.2 = X.env.qual ++ "<lambda>") (hT : Tabs T H) (hfree : ∀ y ∈ scope.names, y.2 = .free → ∃ c, X.env.cells.lookup y.1 = some c)
    (h : ∀ (f c' : Addr) (doc pm ctv : Value) (H1 : Hp) (s' : Shared), Inv X pins σ H1 s' → ExtN H H1 → Tabs T H1 → s'.heap.get? f = some (lamO (X.env.qual ++ "<lambda>") params body scope (cloFrom X.env.cells scope.names []) dV doc pm c' ctv) →
      H1 f = none → f ∉ frs X.stack → H1 c' = some (CodeO c' (X.env.qual ++ "<lambda>")) → Q (.ref f) s') :
    wpAny (model X.prog X.w) X.A (makeTail "<lambda>" (X.env.qual ++ "<lambda>") params (.expr body) scope X.env dV .none none pos pos.line) Q E s := by
  generalize hq : X.env.qual ++ "<lambda>" = q at *
  obtain ⟨ps, hP, ht, ha⟩ := hT _ hm
  have bP := TB.bm.keeps I.bk
  have gP : s.heap.get? P = some (PySem.W.tabObj ps) := I.hok P _ hP
  have out : ∀ f, s.heap.objs.size ≤ f → f ∉ frs X.stack := fun f hf z => (List.mem_cons.mp (I.stkSub _ z)).elim (fun e => by
    have lt := I.lt
    rw [← e] at lt
    exact Nat.lt_irrefl _ (Nat.lt_of_lt_of_le lt hf)) fun e => I.nofs hf e
  cases hc : codeAmong pos ps.toList with
  | some cv =>
    obtain ⟨c', rfl, hco⟩ := ha pos cv hc
    refine PySem.W.kdv_makeTailHit (closure_ok hfree) I.ok.glob (I.mod.glob.keeps I.bk) hcode (TB.code.keeps I.bk) gP ht hc bP fun ctv doc h' tk hx hsz => ?_
    exact h h'.objs.size c' doc _ ctv H _ (I.kept fun b o e => Heap.get?_push_of_some _ (hx b o e)) (ExtN.refl H) hT (Heap.get?_push_size _ rfl) (I.hok.fresh hsz) (out _ hsz) hco
  | none =>
    refine PySem.W.kdv_makeTail (closure_ok hfree) I.ok.glob (I.mod.glob.keeps I.bk) hcode (TB.code.keeps I.bk) gP ht hc TB.gP bP fun c' ctv doc h' tk hx hge hlt hrec htb => ?_
    obtain ⟨c2, oc, vs, t, e2, hoc, hd, hv⟩ := hrec
    cases e2
    have hsz := Nat.le_trans hge (Nat.le_of_lt hlt)
    have nC : H c' = none := I.hok.fresh hge
    have I1 := inv_table (q := q) (t' := tk) (more := #[rawInt pos.line, rawInt pos.col, .ref c']) (h' := h'.push (lamO q params body scope (cloFrom X.env.cells scope.names []) dV doc ((X.mg "__name__").getD .none) c' ctv)) I hP
      (fun b o hb e => Heap.get?_push_of_some _ (hx b o hb e)) (Heap.get?_push_of_some _ htb) hge ⟨oc, vs, t, Heap.get?_push_of_some _ hoc, hd, hv⟩
    have hE : ExtN H (upd (upd H P (.tbl (ps ++ #[rawInt pos.line, rawInt pos.col, .ref c']))) c' (CodeO c' q)) := fun b o e n => by
      have n1 := ne_of_none e nC
      have n2 : b ≠ P := fun z => n ps (by rw [z, hP] at e; exact (Option.some.inj e).symm)
      rw [upd_ne n1, upd_ne n2, e]
    have more : (ps ++ #[rawInt pos.line, rawInt pos.col, .ref c']).toList = ps.toList ++ [rawInt pos.line, rawInt pos.col, .ref c'] := by simp
    refine h h'.objs.size c' doc _ ctv _ _ I1 hE (fun p hp => ?_) (Heap.get?_push_size _ rfl) ?_ (out _ hsz) upd_same
    · by_cases hb : p.1 = P
      · rw [hu p hp hb, hb]
        refine ⟨_, (upd_ne (ne_of_none hP nC)).trans upd_same, ?_, fun p' cv hcv => ?_⟩
        · rw [more]; exact PySem.TriplesOk_snoc _ _ _ _ ht
        · rw [more] at hcv
          rcases among_app _ ht hcv with z | z
          · obtain ⟨c0, e1, e2⟩ := ha p' cv z
            exact ⟨c0, e1, hE _ _ e2 codeO_ne⟩
          · exact ⟨c', z, upd_same⟩
      · obtain ⟨qs, a1, a2, a3⟩ := hT p hp
        refine ⟨qs, (upd_ne (ne_of_none a1 nC)).trans ((upd_ne hb).trans a1), a2, fun p' cv hcv => ?_⟩
        obtain ⟨c0, e1, e2⟩ := a3 p' cv hcv
        exact ⟨c0, e1, hE _ _ e2 codeO_ne⟩
    · have n2 : h'.objs.size ≠ P := Nat.ne_of_gt (Nat.lt_of_lt_of_le (Heap.lt_size gP) hsz)
      rw [upd_ne (Nat.ne_of_gt hlt), upd_ne n2]
      exact I.hok.fresh hsz
/-- what stands in the place of the defaults: nothing, or one number -/
def DefE (es : List Expr) (ds : List V) : Prop := (es = [] ∧ ds = []) ∨ ∃ (z : Int) (j : Nat) (p : Pos), es = [.Constant (.int z) j p] ∧ ds = [.int z]
theorem lam_new {T : List (Addr × Str)} {c P : Addr} {params : Arguments} {body : Expr} {scope : Scope} {pos : Pos} {E Q : Value → Shared → Prop} {ds : List V} (I : Inv X pins σ H s) (TB : TabB X.base X.mg c P) (hcode : X.env.code = .ref c)
    (hm : (P, X.env.qual ++ "<lambda>") ∈ T) (hu : ∀ p ∈ T, p.1 = P → p.2 = X.env.qual ++ "<lambda>") (hT : Tabs T H) (hfree : ∀ y ∈ scope.names, y.2 = .free → ∃ c, X.env.cells.lookup y.1 = some c) (hk0 : params.kw_defaults = []) (hde : DefE params.defaults ds) (hE : E = X.xe)
    (h : ∀ (f c' : Addr) (dV doc pm ctv : Value) (H1 : Hp) (s' : Shared), Inv X pins σ H1 s' → ExtN H H1 → Tabs T H1 → s'.heap.get? f = some (lamO (X.env.qual ++ "<lambda>") params body scope (cloFrom X.env.cells scope.names []) dV doc pm c' ctv) →
      H1 f = none → f ∉ frs X.stack → H1 c' = some (CodeO c' (X.env.qual ++ "<lambda>")) → Dfl H1 ds dV → Q (.ref f) s') :
    wpAny (model X.prog X.w) X.A (eval (.Lambda params body scope pos) X.env) Q E s := by
  rcases hde with ⟨he, rfl⟩ | ⟨z, j, p, he, rfl⟩
  · refine PySem.W.kla_eval (by rw [defaultsOf_eq, he, hk0]; rfl) ?_
    rw [makeFunction_eq]
    simp only [List.zip_nil_right, List.filterMap_nil, List.isEmpty_nil, if_true, pure_bind]
    exact lam_tail I TB hcode hm hu hT hfree fun f c' doc pm ctv H1 s' I1 e1 T1 h1 h2 h3 h4 => h f c' .none doc pm ctv H1 s' I1 e1 T1 h1 h2 h3 h4 (.inl ⟨rfl, rfl⟩)
  · refine PySem.W.kdv_lam (by rw [he]; rfl) hk0 ?_
    rw [he]
    refine PySem.W.kdv_all1 ?_
    subst hE
    refine thn ((pe_int (X := X) (i := z)).run pins s σ H (fun v H1 => v = .int z ∧ H1 = H) I ⟨rfl, rfl⟩) fun u s1 ⟨v, H1, I1, r1, q1, q2⟩ => PySem.W.kdv_all0 ?_
    subst q1 q2
    rw [makeFunction_eq]
    simp only [List.zip_nil_right, List.filterMap_nil, List.isEmpty_nil, if_true, pure_bind, List.isEmpty_cons, Bool.false_eq_true, if_false]
    refine wpAny_bind (wpAny_newTextTuple ?_)
    have nt : H1 s1.heap.objs.size = none := I1.hok.fresh (Nat.le_refl _)
    have I2 : Inv X pins σ (upd H1 s1.heap.objs.size (.tup [.int z])) { s1 with heap := s1.heap.push { cls := .type "tuple", data := .seq [u].toArray } } :=
      I1.laid (t' := s1.toks) (fun b o e => Heap.get?_push_of_some _ e) (Nat.le_refl _) (show ObjOk X.prog X.w _ _ _ (.tup [.int z]) from ⟨by show 1 ≤ _; decide, [u], .cons r1 .nil, IsTup.new _ _⟩)
    have ex : ∀ b o, H1 b = some o → (upd H1 s1.heap.objs.size (.tup [.int z])) b = some o := fun b o e => by rw [upd_ne (ne_of_none e nt)]; exact e
    exact lam_tail I2 TB hcode hm hu (hT.ext ex) hfree fun f c' doc pm ctv H3 s' I3 e3 T3 h1 h2 h3 h4 => h f c' _ doc pm ctv H3 s' I3 ((ExtN.of ex).trans e3) T3 h1 h2 h3 h4 (.inr ⟨_, by simp, rfl, e3 _ _ upd_same fun qs z => by cases z⟩)
end
end Kb
namespace Kb
open PySem PySem.Spec PyProof.Rows L2 LamX
section
variable {X : Cx} {pins : List (Addr × Obj)} {σ : L2.St} {H HZ : Hp} {s s1 : Shared}
/-- its body is entered -/
theorem lam_enter {A : Around} {outer : List Env} {E : XK} {scope : Scope} {f c' : Addr} {h₁ : Heap} {tk : Nat} {ps : List Str} {m : Str → Option Value} (I : Inv X pins σ H s) (L : LamP X.N X.env.scope scope ps) (e0 : Env0 X.prog X.w X.K X.mg X.base A outer s1 HZ) (hd : A.handled = none)
    (un : Un (frs X.stack) [] H HZ s.heap s1.heap) (hns : h₁.Ns s1.heap.objs.size m) (kp : ∀ b o, s1.heap.get? b = some o → h₁.get? b = some o) :
    Inv (lamCx X A outer s1 HZ E scope f c') [] σ HZ { s1 with heap := h₁, toks := tk } := by
  have cells : ∀ {y c}, (cloFrom X.env.cells scope.names []).lookup y = some c → X.env.cells.lookup y = some c := fun {y c} e => by
    rcases cloFrom_mem (PySem.mem_of_lookup e) with z | ⟨h1, h2⟩
    · cases z
    · obtain ⟨c1, hc⟩ := L.has I.ok _ h1 rfl
      have hc : X.env.cells.lookup y = some c1 := hc
      rw [hc]
      have : c = c1 := by rw [h2, hc]; rfl
      rw [this]
  have look : ∀ {y}, scope.names.lookup y = some .free → ∃ c, (cloFrom X.env.cells scope.names []).lookup y = some c := fun {y} hl =>
    mem_lookup (cloFrom_has (cells := X.env.cells) (acc := []) (PySem.mem_of_lookup hl : (y, NameKind.free) ∈ scope.names))
  have keepC : ∀ {c : Addr} {v : Option Value}, H c = none → s.heap.IsCell c v → h₁.IsCell c v := fun {c v} n ⟨o, ho, hd⟩ => by
    obtain ⟨sl, q⟩ := un.any ho n (by simp)
    exact ⟨_, kp _ _ q, hd⟩
  have nex : ∀ b : Addr, b ∉ (lamCx X A outer s1 HZ E scope f c').ex := fun b z => nomatch (show b ∈ ([] : List Addr) from z)
  have okC : (lamCx X A outer s1 HZ E scope f c').Ok := by
    refine ⟨e0.mod, L.kind, rfl, rfl, Nat.le_refl _, fun y z c e1 e2 => I.ok.inj y z c (cells e1) (cells e2), fun y hy => ?_, fun y c z _ => ?_, fun _ => hd, Around.frames_deeper e0.frames, .inr ⟨rfl, rfl⟩, fun b z => absurd z (nex b),
      e0.bs, e0.bsz, fun b _ _ => nex b, fun b z => absurd z (nex b), e0.funs, e0.frf⟩
    · have hy : scope.names.lookup y = some .cell ∨ scope.names.lookup y = some .free := hy
      rcases hy with hy | hy
      · exact absurd rfl (L.own _ (PySem.mem_of_lookup hy))
      · exact look hy
    · cases (show false = true from z)
  refine ⟨okC, rfl, e0.bare, Un.kept kp, ⟨_, hns, fun i y v e1 e2 e3 => ?_⟩, fun y c e => ?_, e0.hok.fresh (Nat.le_refl _), fun y c e => ?_, fun q hq => (nomatch (show q ∈ ([] : List (Addr × Obj)) ++ [] from hq)), e0.hok.kept kp, I.len⟩
  · have e3 : Vis scope y := e3
    rcases e3 with k | k | k
    · exact absurd (List.mem_of_getElem? (show X.N[i]? = some y from e1)) (L.loc _ (PySem.mem_of_lookup k) rfl)
    · exact absurd rfl (L.own _ (PySem.mem_of_lookup k))
    · obtain ⟨m, hn, hl⟩ := I.loc
      have vis : Vis X.env.scope y := by
        rcases L.free _ (PySem.mem_of_lookup k) rfl with k | k
        · exact .inr (.inl k)
        · exact .inr (.inr k)
      obtain ⟨w', r, q⟩ := hl i y v e1 e2 vis
      obtain ⟨c2, h2⟩ := look k
      have c1 := cells h2
      refine ⟨w', r, .inr ⟨.inr k, c2, h2, ?_⟩⟩
      rcases q with ⟨k', _⟩ | ⟨_, c3, e', z⟩
      · have k' : X.env.scope.names.lookup y = some .local := k'
        exact (L.free _ (PySem.mem_of_lookup k) rfl).elim (fun k2 => by have k2 : X.env.scope.names.lookup y = some .cell := k2; rw [k'] at k2; cases k2) fun k2 => by have k2 : X.env.scope.names.lookup y = some .free := k2; rw [k'] at k2; cases k2
      · rw [c1] at e'
        cases e'
        exact keepC (I.freeC y _ c1) z
  · obtain ⟨w', z⟩ := I.cell y c (cells e)
    exact ⟨w', keepC (I.freeC y c (cells e)) z⟩
  · obtain ⟨v, o, ho, hd⟩ := I.cell y c (cells e)
    exact un.free c o ho (I.freeC y c (cells e)) (by simp)
/-- what a reading says of a lambda: what may be raised, the heap, what is wanted -/
abbrev LT := XK → Hp → VK → Prop
/-- the lambda is called: E holds what it raises -/
def tAct (f : Addr) (ok : Hp → Prop) (tl : LT) (W : WX) : TE := fun σ H Q => σ[0]? = some (some (.ref f)) ∧ ok H ∧ ∃ (E : XK) (Q0 : VK), (∀ cls d H', E cls d H' → W cls d σ H') ∧ (∀ v H', Q0 v H' → Q v H') ∧ tl E H Q0
/-- the frame of a def that calls what it got -/
abbrev gCx (P : Program) (w : World) (K : PySem.W.Frag) (mg : Str → Option Value) (base : Heap) (N : List Str) (x : Str) (sg : Scope) (g : Addr) (cdg : Value) (A : Around) (outer : List Env) (s : Shared) (H : Hp) : Cx :=
  cxOf CX0 P w K mg base N x sg g cdg A outer s H fun _ _ _ => False
theorem lam_act {Ng : List Str} {qg : Str} {sg : Scope} {g f c' : Addr} {cdg dV doc pm ctv : Value} {params : Arguments} {body : Expr} {scope : Scope} {k : Nat} {a : Str} {pn : List (Addr × Obj)} {xe : Value → Shared → Prop} {W : WX} {tb : XK → TE} {p1 p2 : Pos} {ps : List Str} {ds : List V}
    (I : Inv X pins σ H s) (L : LamP X.N X.env.scope scope ps) (B : LamB params body scope ps ds) (hf : s.heap.get? f = some (lamO (X.env.qual ++ "<lambda>") params body scope (cloFrom X.env.cells scope.names []) dV doc pm c' ctv)) (hfn : H f = none) (hfr : f ∉ frs X.stack)
    (hc0 : H c' = some (CodeO c' (X.env.qual ++ "<lambda>")))
    (tk : Takes ((gCx X.prog X.w X.K X.mg X.base Ng qg sg g cdg X.A X.stack s H).tr pn xe) W) (hr : Room (k + 1) (X.A.deeper (envOfC qg sg s.heap.objs.size g cdg)))
    (hbody : ∀ (A : Around) (outer : List Env) (s : Shared) (H : Hp) (E : XK), A.guards = X.A.guards → Room k (A.deeper (lamEnv X scope s.heap.objs.size f c')) → PE (lamCx X A outer s H E scope f c') body (tb E))
    (hN : Ng[0]? = some a) (hv : Vis sg a) (hd : (a == ("__debug__" : Str)) = false := by decide) (hcd : (a == ("__classdict__" : Str)) = false := by decide) :
    PE ((gCx X.prog X.w X.K X.mg X.base Ng qg sg g cdg X.A X.stack s H).tr pn xe) (.Call (.Name a p1) [] [] p2)
      (tAct f (fun HZ => HZ c' = some (CodeO c' (X.env.qual ++ "<lambda>")) ∧ Dfl HZ ds dV) (fun E H' Q' => tb E σ H' Q') W) := by
  refine ⟨fun pinsZ sZ σZ HZ Q IZ ⟨hs, ⟨hc, hD⟩, E, Q0, hW, hQ, ht⟩ => ?_⟩
  refine wpAny_Call_Name_kw (thn ((pe_var (pos := p1) (i := 0) hN hv hd hcd).run pinsZ sZ σZ HZ (fun v H1 => v = .ref f ∧ H1 = HZ) IZ ⟨.ref f, hs, rfl, rfl⟩) fun u s1 ⟨v, H1, I1, r1, q1, q2⟩ => ?_)
  subst q1 q2
  obtain rfl : u = Value.ref f := r1
  have of1 := I1.base.keep f _ hf hfn hfr (fun z => nomatch (show f ∈ ([] : List Addr) from z))
  refine PySem.W.callWith_F0 ⟨_, _, _, _, of1⟩ ?_
  have un : Un (frs X.stack) [] H H1 s.heap s1.heap := I1.base
  obtain ⟨⟨oc, vs, t, hoc, hdc, hvc⟩, _, _⟩ := I1.hok c' _ hc
  obtain ⟨us, hb, hloc⟩ : ∃ us : List Value, BindsTo s1 (PySem.W.kdv_fn "<lambda>" (X.env.qual ++ "<lambda>") params (.expr body) scope (cloFrom X.env.cells scope.names []) dV doc pm (.ref c') ctv) ⟨[], []⟩ (ps.zip us) ∧ ∀ y ∈ ps.zip us, scope.names.lookup y.1 = some .local := by
    rcases B with ⟨e1, e2, e3⟩ | ⟨l1, n1, e3⟩
    · subst e1 e2
      have hdv : dV = .none := by
        rcases hD with ⟨_, z⟩ | ⟨t, z, _⟩
        · exact z
        · exact absurd rfl z
      subst hdv
      exact ⟨[], .of_eq (e3 _ _ _ _ _ _), fun y hy => nomatch hy⟩
    · rcases hD with ⟨z, _⟩ | ⟨t, _, rfl, hz⟩
      · exact absurd z n1
      · obtain ⟨_, its, hv, o, ho, _, n, hdat⟩ := I1.hok t _ hz
        obtain ⟨k, k1, k2⟩ := e3 (X.env.qual ++ "<lambda>") (cloFrom X.env.cells scope.names []) t doc pm (.ref c') ctv its hv.length.symm
        exact ⟨its, BindsTo.of_defaults rfl ho hdat k1 k2, fun y hy => L.par _ (List.of_mem_zip hy).1⟩
  have rc : codeAny (model X.prog X.w) (X.A.deeper (envOfC qg sg s.heap.objs.size g cdg)) (.call (.ref f) ⟨[], []⟩) (CR (L2.CX X.prog X.w) (envOfC qg sg s.heap.objs.size g cdg :: X.stack) X.prog X.w H1 s1 Q0 E) s1 := by
    refine PySem.W.kla_callFunE hr.depth of1 rfl L.co L.gen rfl ⟨c', oc, vs, t, rfl, hoc, hdc, hvc⟩ (hb _ _ _ _ (wpAny_newFunctionEnv L.own hloc (fun h₁ hns hsb => ⟨I1.nolimit.fresh _ hsb, ?_⟩) L.kind))
    show codeAny _ _ (.expr body (lamEnv X scope s1.heap.objs.size f c')) _ _
    have J := lam_enter (E := E) (f := f) (c' := c') (tk := s1.toks + (ps.zip us).length) I L I1.env0 hr.hd un hns fun b o e => hsb.extBut b o (Nat.ne_of_lt (Heap.lt_size e)) (Heap.get?_push_of_some _ e)
    refine PySem.W.kla_codeExpr (wpAny_mono ((hbody (X.A.deeper (envOfC qg sg s.heap.objs.size g cdg)) _ s1 H1 E rfl (hr.deeper _)).run [] _ _ H1 Q0 J ht) (fun v s' ⟨w', H', J', rv, q⟩ => ?_) fun e s' hq => hq)
    exact ⟨w', H', J'.os, J'.bare, J'.base, J'.hok, rv, q⟩
  refine wpAny_call (codeAny_mono rc fun r s' hq => ?_)
  match r, hq with
  | .error e, hq => exact tk e s' (XE.of_call I1 (fun cls d H' z => hW cls d H' z) hq)
  | .ok (.ret u), ⟨v, H', a1, a2, a3, a4, a5, a6⟩ => exact I1.after ⟨v, H', a1, a2, a3, a4, a5, hQ _ _ a6⟩
end
end Kb
namespace Kb
open PySem PySem.Spec PyProof.Rows L2 LamX
/-- what a def does that calls what it got: TT of the lambda's reading -/
def GivesL (P : Program) (w : World) (K : PySem.W.Frag) (mg : Str → Option Value) (base : Heap) (N : List Str) (x : Str) (sg : Scope) (bg : List Stmt) (a : Str) (k : Nat) (TT : LT → Hp → VK → Prop) : Prop :=
  ∀ (g : Addr) (cdg : Value) (A : Around) (outer : List Env) (f : Addr) (s : Shared) (H : Hp) (Q : VK) (ok : Hp → Prop) (tl : LT), A.guards = some [] → Room k (A.deeper (envOfC x sg s.heap.objs.size g cdg)) →
    (∀ (W : WX) (pn : List (Addr × Obj)) (xe : Value → Shared → Prop) (p1 p2 : Pos), Takes ((gCx P w K mg base N x sg g cdg A outer s H).tr pn xe) W → PE ((gCx P w K mg base N x sg g cdg A outer s H).tr pn xe) (.Call (.Name a p1) [] [] p2) (tAct f ok tl W)) →
    ok H → TT tl H Q → ∃ t, PSs (gCx P w K mg base N x sg g cdg A outer s H).nox bg t ∧ t { nx := fun _ H' => Q .non H', rt := Q } (L2.start N [.ref f]) H
/-- x(lambda: body): the tables, what is asked of the heap behind the making -/
def tLamL (P : Addr) (q : Str) (TT : LT → Hp → VK → Prop) (t : XK → TE) : TE := fun σ H Q => TabS H P q ∧ ∀ H1, ExtN H H1 → TabS H1 P q → TT (fun E H' Q' => t E σ H' Q') H1 Q
section
variable {X : Cx}
theorem pe_lamL {TT : LT → Hp → VK → Prop} {x a : Str} {st : Stmt} {N : List Str} {c P : Addr} {j k : Nat} {params : Arguments} {body : Expr} {scope : Scope} {t : XK → TE} {p lpos pos : Pos} {ps : List Str} {ds : List V} (hg : Gl X x) (D : Df X.K X.mg x st [a]) (S : FnScope N [a] (defScope st))
    (h0 : N[0]? = some a) (hva : Vis (defScope st) a) (G : GivesL X.prog X.w X.K X.mg X.base N x (defScope st) (defBody st) a (j + 1) TT) (hgd : X.A.guards = some []) (TB : TabB X.base X.mg c P) (hcode : X.env.code = .ref c) (hr : Room k X.A) (hk : j + 2 ≤ k) (L : LamP X.N X.env.scope scope ps) (B : LamB params body scope ps ds)
    (hk0 : params.kw_defaults = []) (hde : DefE params.defaults ds)
    (hbody : ∀ (A : Around) (outer : List Env) (s : Shared) (H : Hp) (E : XK) (f c' : Addr), A.guards = some [] → Room j (A.deeper (lamEnv X scope s.heap.objs.size f c')) → PE (lamCx X A outer s H E scope f c') body (t E))
    (hdb : (x == ("__debug__" : Str)) = false := by decide) (hd : (a == ("__debug__" : Str)) = false := by decide) (hcd : (a == ("__classdict__" : Str)) = false := by decide) :
    PE X (.Call (.Name x p) [.Lambda params body scope lpos] [] pos) (tLamL P (X.env.qual ++ "<lambda>") TT t) := by
  obtain ⟨g, fd, F, hm, hbi⟩ := D
  have hkp := F.kp
  obtain ⟨oc, od, kV, doc, pm, an, cdv, ct, osl, rfl, lk, hcg⟩ := F.ex
  refine ⟨fun pins s σ H Q I ⟨hT, h⟩ => ?_⟩
  refine wpAny_Call_Name_kw (ld_glob I hg hm ?_ hdb)
  refine PySem.W.callWith_K (h₀ := X.base) I.ok.mod.kin hkp ?_ (by rfl) (by rfl)
  show wpAny _ _ (spliced ((false, eval (.Lambda params body scope lpos) X.env) :: backTo pos (starEach [] X.env))) _ _ s
  have only : ∀ p ∈ [(P, X.env.qual ++ "<lambda>")], p.1 = P → p.2 = X.env.qual ++ "<lambda>" := fun p hp _ => by rw [List.mem_singleton.mp hp]
  refine Calls.spliced_cons (lam_new (T := [(P, X.env.qual ++ "<lambda>")]) I TB hcode (List.mem_singleton.mpr rfl) only (fun p hp => by rw [List.mem_singleton.mp hp]; exact hT) (L.has I.ok) hk0 hde rfl fun f c' dV doc' pm' ctv H1 s' I1 eN T1 hf hfn hfr hco hD => ?_)
  refine Calls.spliced_nil ⟨I1.kIn, ?_⟩
  have rc : codeAny (model X.prog X.w) X.A (.call (.ref g) ⟨[.ref f], []⟩) (CR CX0 X.stack X.prog X.w H1 s' Q fun _ _ _ => False) s' := by
    refine run_ofS (N := N) (ps := [a]) (us := [.ref f]) (vs := [.ref f]) lk hcg S (hr.mono hk) I1.env0 (BindsTo.of_eq (hbi [.ref f] rfl)) (.cons rfl .nil) rfl fun hr' => ?_
    obtain ⟨t', ht', hq'⟩ := G g cdv X.A X.stack f s' H1 Q (fun HZ => HZ c' = some (CodeO c' (X.env.qual ++ "<lambda>")) ∧ Dfl HZ ds dV) (fun E H' Q' => t E σ H' Q') hgd hr'
      (fun W pn xe p1 p2 tk => lam_act I1 L B hf hfn hfr hco tk hr' (fun A outer s H E hg2 hr2 => hbody A outer s H E f c' (hg2.trans hgd) hr2) h0 hva hd hcd) ⟨hco, hD⟩ (h H1 eN (T1 _ (List.mem_singleton.mpr rfl)))
    exact ⟨t', ht'.nox, hq'⟩
  refine wpAny_call (codeAny_mono rc fun r s2 hq => ?_)
  match r, hq with
  | .error e, hq => exact (show False from hq).elim
  | .ok (.ret u), hq => exact I1.after hq
end
/-! ### what stays -/
theorem TabS.same {H H' : Hp} {P : Addr} {q : Str} (t : TabS H P q) (s : Same H H') : TabS H' P q := TabS.ext t s
theorem ExtN.seqL {K : PySem.W.Frag} {H H' : Hp} {a : Addr} {xs : List V} (e : ExtN H H') (h : SqL K H a xs) : SqL K H' a xs := by
  rcases h with (h | ⟨o, h⟩) | h
  · exact .inl (.inl (e _ _ h fun ps z => by cases z))
  · exact .inl (.inr ⟨o, e _ _ h fun ps z => by cases z⟩)
  · exact .inr h
theorem ExtN.seqT {K : PySem.W.Frag} {H H' : Hp} {a : Addr} {xs : List V} (e : ExtN H H') (h : SqT K H a xs) : SqT K H' a xs := by
  rcases h with (h | ⟨o, h⟩) | h
  · exact .inl (.inl (e _ _ h fun ps z => by cases z))
  · exact .inl (.inr ⟨o, e _ _ h fun ps z => by cases z⟩)
  · exact .inr h
theorem ExtN.ofSame {H H' : Hp} (s : Same H H') : ExtN H H' := ExtN.of s
end Kb
namespace Kb
open PySem PySem.Spec PyProof.Rows L2 LamX
theorem TabS.keep {H H' : Hp} {P d : Addr} {q : Str} {kvs : List (Key × V)} (t : TabS H P q) (k : Keep d H H') (hd : H d = some (.dK kvs)) : TabS H' P q := by
  obtain ⟨ps, h1, h2, h3⟩ := t
  refine ⟨ps, k _ _ h1 (fun z => by rw [z, hd] at h1; cases h1), h2, fun pos cv hc => ?_⟩
  obtain ⟨c, e1, e2⟩ := h3 pos cv hc
  exact ⟨c, e1, k _ _ e2 fun z => by rw [z, hd] at e2; unfold CodeO at e2; cases e2⟩
theorem TabS.keepD {H H' : Hp} {P d : Addr} {q : Str} {n : Nat} (t : TabS H P q) (k : Keep d H H') (hd : DrawAt H d n) : TabS H' P q :=
  let ⟨_, _, _, h, _⟩ := hd; TabS.keep t k h
theorem DrawAt.ext {H H' : Hp} {d : Addr} {n : Nat} (h : DrawAt H d n) (e : ExtN H H') : DrawAt H' d n :=
  let ⟨l, c, t, h1, h2⟩ := h; ⟨l, c, t, e _ _ h1 (fun ps z => by cases z), h2⟩
/-! ### a def whose code object is told -/
def DfC (K : PySem.W.Frag) (mg : Str → Option Value) (x : Str) (st : Stmt) (ps : List Str) (c Tb : Addr) : Prop :=
  ∃ (f : Addr) (fd : FuncData), Fun K x x st f fd ∧ fd.code = .ref c ∧ mg x = some (.ref f) ∧ PySem.W.tabIn K x = some (c, Tb) ∧ ∀ us : List Value, us.length = ps.length → bindArgs fd ⟨us, []⟩ = pure (ps.zip us)
theorem DfC.mk {K : PySem.W.Frag} {mg : Str → Option Value} {h : Heap} {x : Str} {st : Stmt} {ps : List Str} {f c Tb : Addr} {oc ec : Value} {od an dc : Option Addr} {sl s2 : Array (Option Value)} {cvs : Array Value} {kV doc pm ct : Value} (X : K.In h) (G : h.Ns PySem.mainGlobals mg)
    (b : ∀ (kV doc pm : Value) (an : Option Addr) (cdv ct : Value) (us : List Value), us.length = ps.length → bindArgs (PySem.W.fnOf x x (defArgs st) (defBody st) (defScope st) .none kV doc pm an cdv ct) ⟨us, []⟩ = pure (ps.zip us))
    (a : PySem.W.nsIn K PySem.mainGlobals x = some (some (.ref f)))
    (l : K.lookup f = some ⟨oc, od, .func (PySem.W.fnOf x x (defArgs st) (defBody st) (defScope st) .none kV doc pm an (.ref c) ct), sl⟩)
    (cc : PySem.W.codeIn K (.ref c) x = true) (k : PySem.W.keepIn K (.ref f) = true) (lc : K.lookup c = some ⟨ec, dc, .fields cvs, s2⟩) (h11 : cvs[11]? = some (.ref Tb)) : DfC K mg x st ps c Tb :=
  ⟨f, _, fun_mk l cc k, rfl, PySem.W.mg_of X G a, by unfold PySem.W.tabIn; simp only [a, l, lc, h11], b kV doc pm an (.ref c) ct⟩
theorem Fun.okGC {P : Program} {w : World} {K : PySem.W.Frag} {mg : Str → Option Value} {base : Heap} {k : Nat} {f c : Addr} {x qual : Str} {st : Stmt} {fd : FuncData} {N ps : List Str} {sp : Sp} (F : Fun K x qual st f fd) (hc : fd.code = .ref c) (S : FnScope N ps (defScope st)) (len : ∀ vs H Q E, sp vs H Q E → vs.length = ps.length)
    (hbody : ∀ (A : Around) (outer : List Env) (s : Shared) (H : Hp) (vs : List V) (Q : VK) (E : XK), A.guards = some [] → Room k (A.deeper (envOfC qual (defScope st) s.heap.objs.size f (.ref c))) → sp vs H Q E →
      ∃ t, PSs (cxOf CX0 P w K mg base N qual (defScope st) f (.ref c) A outer s H E).nox (defBody st) t ∧ t { nx := fun _ H' => Q .non H', rt := Q } (start N vs) H) : FnG P w K mg base CX0 (k + 1) f fd ps sp := by
  obtain ⟨oc, od, kV, doc, pm, an, cdv, ct, osl, rfl, lk, hcd⟩ := F.ex
  obtain rfl : cdv = .ref c := hc
  have F2 : Fun K x qual st f (PySem.W.fnOf x qual (defArgs st) (defBody st) (defScope st) .none kV doc pm an (.ref c) ct) := F
  refine ⟨len, fun A outer s H args us vs Q E hgd hr e0 hb r hsp => ?_⟩
  have KX : K.In s.heap := e0.mod.kin.keeps fun b o e => (e0.bs b o e).1
  have hkind : ∀ y ∈ ps.zip us, (defScope st).names.lookup y.1 = some .local ∨ ((defScope st).names.lookup y.1 = some .cell ∧ ((cellsFrom (s.heap.objs.size + 1) (defScope st).names []).lookup y.1).isSome = true) := fun ⟨n, v⟩ hy =>
    (S.par n (List.of_mem_zip hy).1).elim .inl fun q => .inr ⟨q, PySem.W.cellsFrom_some _ _ _ (.inl q)⟩
  refine codeAny_call_function hr.depth (KX _ _ lk) rfl S.co S.gen rfl (PySem.W.codeRec_of KX hcd) (hb _ _ _ _ (wpAny_newFunctionEnv_cells S.kind hkind fun env he s1 x => ?_))
  subst he
  refine ⟨(e0.mod.nolimit.keeps fun b o e => (e0.bs b o e).1).keeps x.toInCall.keep, codeAny_func ?_⟩
  obtain ⟨t, ht, hq⟩ := hbody A outer s H vs Q E hgd (hr.deeper _) hsp
  refine wpAny_mono (ht.nox.run [] s1 (start N vs) H _ (inv_start S hr.hd e0 (len _ _ _ _ hsp) r x) hq) (fun fl s' hs => ?_) fun e s' hs => hs
  cases fl with
  | ret u => obtain ⟨v, σ', H', J, rv, q⟩ := hs; exact ⟨v, H', J.os, J.bare, J.base, J.hok, rv, q⟩
  | next => obtain ⟨σ', H', J, q⟩ := hs; exact ⟨V.non, H', J.os, J.bare, J.base, J.hok, rfl, q⟩
  | brk => obtain ⟨_, _, _, q⟩ := hs; exact q.elim
  | cont => obtain ⟨_, _, _, q⟩ := hs; exact q.elim
/-! ### the law's call where the law makes lambdas: the script and its table are tracked -/
theorem law_callGT {P : Program} {w : World} {K : PySem.W.Frag} {mg mb : Str → Option Value} {CX : CXT} {k : Nat} {fa a c Tb : Addr} {fd : FuncData} {x : Str} {sp : Sp} {s₁ : Shared} {vs : List Value} {ns : List Int}
    (KX : K.In s₁.heap) (hns : s₁.heap.Ns PySem.mainGlobals mg) (hb : s₁.heap.Ns builtinsNs mb) (hbb : ∀ x : Str, x ≠ "__name__" → mb x = bootBuiltins x) (hlim : s₁.heap.NoLimit) (hg : s₁.gens = #[])
    (hT : s₁.heap.get? Tb = some (PySem.W.tabObj #[])) (nT : K.lookup Tb = none) (C : PySem.W.CodeHd s₁.heap c Tb)
    (hbm : ∃ (bm : Addr) (ob : Obj), mg "__builtins__" = some (.ref bm) ∧ bm ≠ builtinsNs ∧ s₁.heap.get? bm = some ob ∧ ob.cls = .type "module" ∧ ob.dict = some builtinsNs ∧ ob.data = .plain)
    (ha : s₁.heap.get? a = some { cls := .type "list", data := .seq vs.toArray }) (hi : IntsAre vs ns) (hl : ns.length ≤ sizeLine) (hr : Room k callerA)
    (F : ∀ base : Heap, K.In base → base.Ns PySem.mainGlobals mg → TabB base mg c Tb → FnG P w K mg base CX k fa fd [x] sp) (hbind : ∀ (s : Shared) (u : Value), BindsTo s fd ⟨[u], []⟩ [(x, u)])
    (hsp : ∀ H : Hp, H Tb = some (.tbl #[]) → SqL K H a (ns.map V.int) → sp [.ref a] H (fun v _ => v = .bl true) fun _ _ _ => False)
    (hCX : ∀ H e s', CX [] H s₁ (fun _ _ _ => False) e s' → False) :
    codeAny (model P w) callerA (.call (.ref fa) ⟨[.ref a], []⟩) (fun r s' => r = .ok (.ret (.bool true)) ∧ OldK s₁.heap s'.heap ∧ s'.os = s₁.os ∧ AllBare s'.gens) s₁ := by
  have rv := vals_ints hi
  have aT : a ≠ Tb := fun z => by
    rw [← z, ha] at hT
    cases hT
  have core : ∀ H : Hp, H Tb = some (.tbl #[]) → (∀ b, H b = none ∨ b = Tb ∨ ∃ o xs, H b = some (.frz o (.lst xs))) → SqL K H a (ns.map V.int) → HOk P w H s₁.heap → (∀ b, H b ≠ none → b = a ∨ b = Tb) → (H a ≠ none → K.lookup a = none) →
      codeAny (model P w) callerA (.call (.ref fa) ⟨[.ref a], []⟩) (fun r s' => r = .ok (.ret (.bool true)) ∧ OldK s₁.heap s'.heap ∧ s'.os = s₁.os ∧ AllBare s'.gens) s₁ := by
    intro H hH hO hS hok hA hK
    have one : ∀ b, b ≠ a → b ≠ Tb → H b = none := fun b n1 n2 => Classical.byContradiction fun q => (hA b q).elim n1 n2
    have plain : ∀ {b : Addr} {o : Obj}, s₁.heap.get? b = some o → o ≠ { cls := .type "list", data := .seq vs.toArray } → o ≠ PySem.W.tabObj #[] → (hidT s₁.heap H).get? b = some o := fun {b o} e n1 n2 =>
      hidT_get e (one b (fun z => n1 (by rw [z, ha] at e; exact (Option.some.inj e).symm)) fun z => n2 (by rw [z, hT] at e; exact (Option.some.inj e).symm))
    have spaces : ∀ {b : Addr} {m : Str → Option Value}, s₁.heap.Ns b m → (hidT s₁.heap H).Ns b m := fun ⟨o, es, ep, e, d, r⟩ => ⟨o, es, ep, plain e (fun z => by rw [z] at d; cases d) (fun z => by rw [z] at d; cases d), d, r⟩
    have kin : K.In (hidT s₁.heap H) := fun b o e => hidT_get (KX b o e) (Classical.byContradiction fun q => by
      rcases hA b q with z | z
      · subst z
        rw [hK q] at e
        cases e
      · rw [z, nT] at e
        cases e)
    have TB : TabB (hidT s₁.heap H) mg c Tb := by
      refine ⟨?_, ?_, fun z => ?_⟩
      · obtain ⟨o, us, file, tf, flags, tg, inF, text, tt, e1, r1, r2, r3, r4⟩ := C
        refine ⟨o, us, file, tf, flags, tg, inF, text, tt, plain e1 (fun z => ?_) (fun z => ?_), r1, r2, r3, r4⟩
        · rw [z] at r2; cases r2
        · rw [z] at r2; cases r2; simp at r3
      · obtain ⟨bm, ob, b1, b2, b3, b4, b5, b6⟩ := hbm
        have nG : bm ≠ PySem.mainGlobals := fun q => by
          obtain ⟨o, es, ep, e, hd, _⟩ := hns
          rw [q, e] at b3
          cases b3
          rw [hd] at b6
          cases b6
        have nP : bm ≠ Tb := fun q => by
          rw [q, hT] at b3
          cases b3
          cases b6
        exact ⟨bm, ob, b1, b2, nG, nP, plain b3 (fun z => by rw [z] at b6; cases b6) (fun z => by rw [z] at b6; cases b6), b4, b5, b6⟩
      · obtain ⟨o, es, ep, e, hd, _⟩ := hns
        rw [z, hT] at e
        cases e
        cases hd
    obtain ⟨mc, l1, l2⟩ := hlim
    refine codeAny_mono ((F _ kin (spaces hns) TB).run callerA [] s₁ H ⟨[.ref a], []⟩ [.ref a] [.ref a] _ _ rfl hr
      ⟨rfl, ⟨kin, spaces hns, ⟨mb, spaces hb, hbb⟩, ⟨mc, spaces l1, l2⟩⟩, fun b o e => of_hidT e, Nat.le_of_eq (hidT_size _ _), trivial, fun b hb => absurd (show b ∈ ([] : List Addr) from hb) (by simp), hok, .of_eq hg⟩
      (hbind s₁ (.ref a)) (.cons rfl .nil) (hsp H hH hS)) fun r s' h => ?_
    match r, h with
    | .error e, h => exact (hCX H e s' h).elim
    | .ok (.ret u), ⟨v, H', os, bare, un, hok', r', q⟩ =>
      cases (show v = .bl true from q)
      cases (show u = Value.bool true from r')
      obtain ⟨more, hm⟩ := un.tbls Tb #[] hH
      have grown : s'.heap.get? Tb = some { cls := .none, data := .fields (#[] ++ more) } := hok' Tb _ hm
      have key : ∀ b o, b ≠ Tb → s₁.heap.get? b = some o → s'.heap.get? b = some o := fun b o n e => by
        rcases hO b with z | z | ⟨ob, xs, z⟩
        · exact un.keep b o e z (fun y => absurd (show b ∈ ([] : List Addr) from y) (by simp)) (by simp)
        · exact absurd z n
        · obtain ⟨e1, _⟩ := hok b _ z
          obtain ⟨e2, _⟩ := hok' b _ (un.frzs b ob _ z)
          rw [e] at e1
          cases e1
          exact e2
      refine ⟨rfl, ⟨fun b o e => ?_, fun b o e => ?_⟩, os, bare⟩
      · by_cases hbT : b = Tb
        · subst hbT
          rw [hT] at e
          cases e
          exact .inr (.inl ⟨(C.tab hT).isCodeTable, rfl, #[], more, rfl, grown⟩)
        · exact .inl (key b o hbT e)
      · by_cases hbT : b = Tb
        · subst hbT
          exact ⟨_, grown⟩
        · exact ⟨o, key b o hbT e⟩
  cases hk : K.lookup a with
  | some o =>
    have e := KX a o hk
    rw [ha] at e
    cases e
    have at' : ∀ b, b ≠ Tb → (if b = Tb then some (HO.tbl #[]) else none) = none := fun b n => if_neg n
    refine core (fun b => if b = Tb then some (.tbl #[]) else none) (if_pos rfl) (fun b => ?_) (.inr ⟨_, vs.toArray, _, hk, rfl, rfl, rfl, by rw [List.size_toArray, hi.length]; exact hl, by simpa using rv⟩) (fun b u z => ?_) (fun b z => .inr (Classical.byContradiction fun n => z (at' b n))) fun z => absurd (at' a aT) z
    · by_cases hbT : b = Tb
      · exact .inr (.inl hbT)
      · exact .inl (at' b hbT)
    · by_cases hbT : b = Tb
      · subst hbT
        cases (if_pos rfl).symm.trans z
        exact hT
      · cases (at' b hbT).symm.trans z
  | none =>
    have at1 : ∀ b, b ≠ a → b ≠ Tb → (if b = a then some (HO.frz { cls := .type "list", data := .seq vs.toArray } (.lst (ns.map V.int))) else if b = Tb then some (.tbl #[]) else none) = none := fun b n1 n2 => (if_neg n1).trans (if_neg n2)
    have at2 : (if Tb = a then some (HO.frz { cls := .type "list", data := .seq vs.toArray } (.lst (ns.map V.int))) else if Tb = Tb then some (.tbl #[]) else none) = some (.tbl #[]) := (if_neg (Ne.symm aT)).trans (if_pos rfl)
    refine core (fun b => if b = a then some (.frz { cls := .type "list", data := .seq vs.toArray } (.lst (ns.map V.int))) else if b = Tb then some (.tbl #[]) else none) at2 (fun b => ?_) (.inl (.inr ⟨{ cls := .type "list", data := .seq vs.toArray }, if_pos rfl⟩)) (fun b u z => ?_)
      (fun b z => Classical.byContradiction fun n => z (at1 b (fun q => n (.inl q)) fun q => n (.inr q))) fun _ => hk
    · by_cases hba : b = a
      · exact .inr (.inr ⟨_, _, if_pos hba⟩)
      · by_cases hbT : b = Tb
        · exact .inr (.inl hbT)
        · exact .inl (at1 b hba hbT)
    · by_cases hba : b = a
      · subst hba
        cases (if_pos rfl).symm.trans z
        exact ⟨ha, by rw [List.length_map]; exact hl, vs, _, rv, ha⟩
      · by_cases hbT : b = Tb
        · subst hbT
          cases at2.symm.trans z
          exact hT
        · cases (at1 b hba hbT).symm.trans z
theorem walkGT {l : PySem.W.OpenLaw} {n k : Nat} {q : Program} {loose : List Str} {XP : (Str → Option Value) → Heap → Prop} {YP : World → Heap → Prop} {d : DefRec} {K : Params → PySem.W.Frag} {CX : World → CXT} {sp : World → Addr → Sp} {x : Str}
    (hn : l.most = some n) (hn2 : n ≤ sizeLine) (hdf : d.params.defaults = []) (hr : Room k callerA) (hY : ∀ (w : World) (h : Heap), YP w h → (K w.params).In h) (hrec : (recsOf q).find? (fun e => e.name == d.name) = some d)
    (F : ∀ (w : World) (mg : Str → Option Value) (fa : Addr) (h : Heap), (K w.params).In h → h.Ns PySem.mainGlobals mg → mg d.name = some (.ref fa) →
      ∃ (fd : FuncData) (c Tb : Addr), PySem.W.tabIn (K w.params) d.name = some (c, Tb) ∧ (K w.params).lookup Tb = none ∧ (∀ (s : Shared) (u : Value), BindsTo s fd ⟨[u], []⟩ [(x, u)]) ∧
        ∀ base : Heap, (K w.params).In base → base.Ns PySem.mainGlobals mg → TabB base mg c Tb → FnG l.prog w (K w.params) mg base (CX w) k fa fd [x] (sp w Tb))
    (hsp : ∀ (w : World) (H : Hp) (a Tb : Addr) (ns : List Int), ns.length ≤ n → H Tb = some (.tbl #[]) → SqL (K w.params) H a (ns.map V.int) → sp w Tb [.ref a] H (fun v _ => v = .bl true) fun _ _ _ => False)
    (hCX : ∀ (w : World) (H : Hp) (s : Shared) (e : Value) (s' : Shared), CX w [] H s (fun _ _ _ => False) e s' → False) :
    PySem.W.WalkO q loose XP YP l.row.toRowW d [] (fun f vs => PySem.call f vs) := by
  refine Att.attach_call hn hdf fun w s₀ s₁ mg mb fa o pm cd doc a vs ns G Y ho hd hcd hmg hobj hints hlen hg => ?_
  have KX := hY w _ Y
  obtain ⟨fd, c, Tb, tb, nT, hb, hF⟩ := F w mg fa _ KX G.T.g hmg
  obtain ⟨C, hT⟩ := PySem.W.tab_of G.T KX hrec tb
  exact law_callGT KX G.T.g G.T.b G.T.builtins G.T.nolimit hg hT nT C G.T.bmain hobj hints (Nat.le_trans hlen hn2) hr hF hb (fun H h1 h2 => hsp w H a Tb ns hlen h1 h2) fun H e s' => hCX w H s₁ e s'
end Kb

namespace Kb
open PySem PySem.Spec PyProof.Rows L2 TL
/-! ### what a law that makes lambdas keeps -/
def qLaw : Str := ("law" : Str) ++ ".<locals>." ++ "<lambda>"
/-- the heap's objects but tables stay, the law's table tells lambdas -/
def LamInv (Tb : Addr) (H H' : Hp) : Prop := LamX.ExtN H H' ∧ LamX.TabS H' Tb qLaw
theorem LamInv.same {Tb : Addr} {H H1 H2 : Hp} (h : LamInv Tb H H1) (s : Same H1 H2) : LamInv Tb H H2 := ⟨h.1.trans (.of s), TabS.same h.2 s⟩
theorem LamInv.ext {Tb : Addr} {H H1 H2 : Hp} (h : LamInv Tb H H1) (e : LamX.ExtN H1 H2) (t : LamX.TabS H2 Tb qLaw) : LamInv Tb H H2 := ⟨h.1.trans e, t⟩
/-- nothing but a table may have stood there -/
def FreshN (H : Hp) (d : Addr) : Prop := ∀ o, H d = some o → ∃ ps, o = .tbl ps
theorem FreshN.of {H H1 : Hp} {d : Addr} (e : LamX.ExtN H H1) (h : H1 d = none) : FreshN H d := fun o ho => by
  cases o with
  | tbl ps => exact ⟨ps, rfl⟩
  | _ => exact absurd ((e _ _ ho fun ps z => by cases z).symm.trans h) (by simp)
theorem LamInv.keep {Tb d : Addr} {H H1 H2 : Hp} {n : Nat} (h : LamInv Tb H H1) (k : Keep d H1 H2) (hd : FreshN H d) (D : DrawAt H1 d n) : LamInv Tb H H2 :=
  ⟨fun b o e m => k b o (h.1 b o e m) fun z => by subst z; obtain ⟨ps, q⟩ := hd o e; exact m ps q, TabS.keepD h.2 k D⟩
theorem LamInv.put {Tb p : Addr} {H H1 : Hp} {xs ys : List V} (h : LamInv Tb H H1) (fr : FreshN H p) (hp : H1 p = some (.lst xs)) : LamInv Tb H (upd H1 p (.lst ys)) := by
  refine ⟨fun b o e m => ?_, ?_⟩
  · have : b ≠ p := fun z => by subst z; obtain ⟨ps, q⟩ := fr o e; exact m ps q
    rw [upd_ne this]; exact h.1 b o e m
  · obtain ⟨ps, h1, h2, h3⟩ := h.2
    have n1 : Tb ≠ p := fun z => by rw [z, hp] at h1; cases h1
    refine ⟨ps, (upd_ne n1).trans h1, h2, fun pos cv hc => ?_⟩
    obtain ⟨c, e1, e2⟩ := h3 pos cv hc
    have n2 : c ≠ p := fun z => by rw [z, hp] at e2; unfold LamX.CodeO at e2; cases e2
    exact ⟨c, e1, (upd_ne n2).trans e2⟩
theorem repr_bb {K : PySem.W.Frag} {H : Hp} {p : Addr} {a b : Bool} (h : SqL K H p [V.bl a, V.bl b]) : Dp K H (.ref p) (.list [.bool a, .bool b]) ∧ (PyData.list [.bool a, .bool b]).showable = true ∧ (PyData.list [.bool a, .bool b]).hasDict = false ∧ (PyData.list [.bool a, .bool b]).shown.length ≤ sizeLine ∧ (PyData.list [.bool a, .bool b]).depth ≤ 64 :=
  ⟨.lst h (.cons (.bl _) (.cons (.bl _) .nil)), rfl, rfl, shown_fits (by simp only [plainD, plainAll, and_self]) (by simp only [wtD, wtAll]; cases a <;> cases b <;> decide), by simp [PyData.depth, PyData.depthAll]⟩
theorem ty_ext {K : PySem.W.Frag} {H H' : Hp} {v : V} {t : Value} (s : LamX.ExtN H H') (h : TyX K H v t) : TyX K H' v t := by
  cases h with
  | base h =>
    refine .base ?_
    cases h with
    | non => exact .non
    | bl x => exact .bl x
    | int i => exact .int i
    | str x => exact .str x
    | flt x => exact .flt x
    | lst e => exact .lst (s _ _ e fun ps z => by cases z)
    | frz e => exact .frz (s _ _ e fun ps z => by cases z)
    | tup e => exact .tup (s _ _ e fun ps z => by cases z)
    | dK e => exact .dK (s _ _ e fun ps z => by cases z)
    | dT e => exact .dT (s _ _ e fun ps z => by cases z)
    | ins e cl ha hn htk hm => exact .ins (s _ _ e fun ps z => by cases z) cl ha hn htk hm
  | byt b => exact .byt b
  | set e => exact .set (s _ _ e fun ps z => by cases z)
  | kList e c => exact .kList e c
  | kTuple e c => exact .kTuple e c
  | kDict e c => exact .kDict e c
  | fTuple e => exact .fTuple (s _ _ e fun ps z => by cases z)
  | fDict e => exact .fDict (s _ _ e fun ps z => by cases z)
end Kb

namespace Kb
open PySem PySem.Spec PyProof.Rows L2 TL
/-! ### str of data -/
def textD : PyData → Str
  | .str x => x
  | d => d.shown
def rStrD (K : PySem.W.Frag) : List V → Hp → VK → Prop := fun xs H Q => ∃ x d, xs = [x] ∧ Dp K H x d ∧ d.showable = true ∧ d.hasDict = false ∧ (textD d).length ≤ sizeLine ∧ d.depth ≤ 60 ∧ Q (.str (textD d)) H
section
variable {X : Cx}
theorem call_strD (hu : X.A.units + 65 < cLine) (hg : X.A.guards = some []) : CallR X (.type "str") (rStrD X.K) := by
  intro pins s σ H xs us Q I r ⟨x, d, e, hd, hs, hn, hz, hp, q⟩
  subst e
  obtain ⟨u, rfl, r1⟩ := vals1 r
  obtain ⟨as, rd⟩ := Dp.reads I d x u hd r1
  have ref : ∀ a : Addr, u = .ref a → d.shown.length ≤ sizeLine → Q (.str d.shown) H → wpAny (model X.prog X.w) X.A (call (Value.type "str") [u]) (EP X pins σ Q) X.xe s := fun a e hz q => by
    subst e
    exact str_of_reads rd hs (fun q => by rw [hn] at q; cases q) hg (by omega) (fun _ _ e => e) (fun h' t tk k => ⟨.str d.shown, H, I.kept (t' := tk) k, ⟨t, rfl⟩, q⟩) hz
  cases rd with
  | none => exact PySem.P.str_of_none ⟨.str "None", H, I.tok _, ⟨_, rfl⟩, q⟩
  | bool b => exact PySem.P.str_of_bool ⟨.str (if b then "True" else "False"), H, I.tok _, ⟨_, rfl⟩, q⟩
  | int i t => exact PySem.P.str_of_int (by simpa [PyData.showable] using hs) ⟨.str (toString i), H, I.tok _, ⟨_, rfl⟩, q⟩
  | str y t => exact PySem.P.str_of_str ⟨.str y, H, I, ⟨_, rfl⟩, q⟩
  | list h1 h2 h3 h4 => exact ref _ rfl hz q
  | tuple h1 h2 h3 h4 => exact ref _ rfl hz q
  | dict h1 h2 h3 h4 h5 => exact ref _ rfl hz q
end
end Kb
namespace Kb
open PySem PySem.Spec PyProof.Rows L2 TL
mutual
theorem Dp.ext {K : PySem.W.Frag} {H H' : Hp} (e : LamX.ExtN H H') : ∀ {v : V} {d : PyData}, Dp K H v d → Dp K H' v d
  | _, _, .non => .non
  | _, _, .bl b => .bl b
  | _, _, .int i => .int i
  | _, _, .str x => .str x
  | _, _, .lst s a => .lst (Kb.ExtN.seqL e s) (DpAll.ext e a)
  | _, _, .tup s a => .tup (Kb.ExtN.seqT e s) (DpAll.ext e a)
theorem DpAll.ext {K : PySem.W.Frag} {H H' : Hp} (e : LamX.ExtN H H') : ∀ {vs : List V} {ds : List PyData}, DpAll K H vs ds → DpAll K H' vs ds
  | _, _, .nil => .nil
  | _, _, .cons a b => .cons (Dp.ext e a) (DpAll.ext e b)
end
theorem Dp.same {K : PySem.W.Frag} {H H' : Hp} {v : V} {d : PyData} (h : Dp K H v d) (s : Same H H') : Dp K H' v d := Dp.ext (.of s) h
/-! ### the repr of plain data is plain -/
theorem repr_lt : ∀ c, c < 128 → (Builtin.Str.reprChar 39 c).all (· < 128) = true ∧ (Builtin.Str.reprChar 34 c).all (· < 128) = true := by decide +kernel
theorem foldl_lt (q : Nat) (hq : q = 39 ∨ q = 34) : ∀ (l : List Nat) (acc : Array Nat), (∀ c ∈ l, c < 128) → (∀ c ∈ acc.toList, c < 128) → ∀ c ∈ (l.foldl (fun out c => out ++ (Builtin.Str.reprChar q c).toArray) acc).toList, c < 128
  | [], acc, _, h => h
  | x :: l, acc, hl, h => by
    refine foldl_lt q hq l _ (fun c hc => hl c (List.mem_cons_of_mem _ hc)) fun c hc => ?_
    rw [Array.toList_append] at hc
    rcases List.mem_append.mp hc with z | z
    · exact h c z
    · obtain ⟨h1, h2⟩ := repr_lt x (hl x (List.mem_cons_self ..))
      rcases hq with rfl | rfl
      · exact of_decide_eq_true (List.all_eq_true.mp h1 c (by simpa using z))
      · exact of_decide_eq_true (List.all_eq_true.mp h2 c (by simpa using z))
theorem quote_is (x : Str) : reprQuote x = 39 ∨ reprQuote x = 34 := by
  unfold reprQuote
  split
  · exact .inr rfl
  · exact .inl rfl
theorem ascii_repr {x : Str} (h : ascii x) : ascii (reprText x) := by
  have hq := quote_is x
  intro c hc
  unfold reprText at hc
  have hc : c ∈ ((x.cps.foldl (fun out c => out ++ (Builtin.Str.reprChar (reprQuote x) c).toArray) #[reprQuote x]).push (reprQuote x)).toList := hc
  rw [Array.toList_push, ← Array.foldl_toList] at hc
  have q128 : reprQuote x < 128 := by rcases hq with e | e <;> rw [e] <;> decide
  rcases List.mem_append.mp hc with z | z
  · exact foldl_lt _ hq _ _ h (fun d hd => by rw [List.mem_singleton.mp (show d ∈ [reprQuote x] from hd)]; exact q128) c z
  · rw [List.mem_singleton.mp z]; exact q128
theorem ascii_textFrom : ∀ (ts : List Str) (k : Nat) (acc : Str), ascii acc → (∀ t ∈ ts, ascii t) → ascii (textFrom k acc ts)
  | [], k, acc, h, _ => h
  | t :: r, k, acc, h, ht => by
    show ascii (textFrom (k + 1) (acc ++ (if k > 0 then ", " else "" : String) ++ t) r)
    refine ascii_textFrom r _ _ ((h.app ?_).app (ht t (List.mem_cons_self ..))) fun x hx => ht x (List.mem_cons_of_mem _ hx)
    split
    · exact ascii_lit (by decide +kernel)
    · exact ascii_lit (by decide +kernel)
theorem ascii_listText {ts : List Str} (h : ∀ t ∈ ts, ascii t) : ascii (listText ts) := by
  unfold listText
  exact (ascii_textFrom ts 0 _ (ascii_lit (by decide +kernel)) h).app (ascii_lit (by decide +kernel))
theorem ascii_sjoin {sep : Str} (hs : ascii sep) : ∀ ts : List Str, (∀ t ∈ ts, ascii t) → ascii (Str.join sep ts)
  | [], _ => by unfold Str.join; exact ascii_lit (by decide +kernel)
  | [x], h => by unfold Str.join; exact h x (List.mem_cons_self ..)
  | x :: y :: r, h => by
    unfold Str.join
    exact ((h x (List.mem_cons_self ..)).app hs).app (ascii_sjoin hs (y :: r) fun t ht => h t (List.mem_cons_of_mem _ ht))
theorem ascii_tupleText {ts : List Str} (h : ∀ t ∈ ts, ascii t) : ascii (tupleText ts) := by
  unfold tupleText
  refine ((ascii_lit (by decide +kernel)).app (ascii_sjoin (ascii_lit (by decide +kernel)) ts h)).app ?_
  split
  · exact ascii_lit (by decide +kernel)
  · exact ascii_lit (by decide +kernel)
/-- data whose repr and str can be told -/
structure OkD (d : PyData) : Prop where
  s : d.showable = true
  n : d.hasDict = false
  p : plainD d
  w : wtD d ≤ 5000
  z : d.depth ≤ 10
  l : d.canLay0 = true
  a : ascii d.shown
def DatV (K : PySem.W.Frag) (H : Hp) (v : V) : Prop := ∃ d, OkD d ∧ Dp K H v d
theorem OkD.shown {d : PyData} (h : OkD d) : d.shown.length ≤ sizeLine := shown_fits h.p (Nat.le_trans h.w (by decide))
theorem OkD.shaped {d : PyData} (h : OkD d) : SeqAt.shaped d = true := by
  unfold SeqAt.shaped
  rw [h.l, decide_eq_true (Nat.le_trans h.z (by decide))]; rfl
theorem OkD.str {x : Str} (h : ascii x) (hl : x.length ≤ 400) : OkD (.str x) := ⟨rfl, rfl, by simp only [plainD]; exact h, by simp only [wtD]; omega, by simp [PyData.depth], lay_str h, by simp only [PyData.shown]; exact ascii_repr h⟩
theorem OkD.non : OkD .none := ⟨rfl, rfl, trivial, by decide, by decide, by decide, ascii_lit (by decide +kernel)⟩
theorem OkD.bool (b : Bool) : OkD (.bool b) := ⟨rfl, rfl, trivial, by cases b <;> decide, by cases b <;> decide, by cases b <;> decide, by cases b <;> exact ascii_lit (by decide +kernel)⟩
theorem OkD.five : OkD (.int 5) := ⟨by decide +kernel, rfl, trivial, by decide +kernel, by decide, by decide +kernel, ascii_lit (by decide +kernel)⟩
end Kb
namespace Kb
open PySem PySem.Spec PyProof.Rows L2 TL
/-- data of moderate size -/
structure SmD (d : PyData) : Prop where
  o : OkD d
  w : wtD d ≤ 900
  z : d.depth ≤ 4
theorem sm_all : ∀ ds : List PyData, (∀ d ∈ ds, SmD d) → PyData.showableAll ds = true ∧ PyData.hasDictAll ds = false ∧ plainAll ds ∧ wtAll ds ≤ 902 * ds.length ∧ PyData.depthAll ds ≤ 4 ∧ PyData.canLayAll0 ds = true ∧ ∀ t ∈ PyData.shownAll ds, ascii t
  | [], _ => by simp [PyData.showableAll, PyData.hasDictAll, plainAll, wtAll, PyData.depthAll, PyData.canLayAll0, PyData.shownAll]
  | d :: ds, h => by
    obtain ⟨a, b, c⟩ := h d (List.mem_cons_self ..)
    obtain ⟨i1, i2, i3, i4, i5, i6, i7⟩ := sm_all ds fun x hx => h x (List.mem_cons_of_mem _ hx)
    refine ⟨by simp [PyData.showableAll, a.s, i1], by simp [PyData.hasDictAll, a.n, i2], by simp only [plainAll]; exact ⟨a.p, i3⟩, ?_, ?_, by simp [PyData.canLayAll0, a.l, i6], fun t ht => ?_⟩
    · simp only [wtAll, List.length_cons]; omega
    · simp only [PyData.depthAll]; omega
    · simp only [PyData.shownAll] at ht
      rcases List.mem_cons.mp ht with rfl | q
      · exact a.a
      · exact i7 t q
theorem SmD.list {ds : List PyData} (h : ∀ d ∈ ds, SmD d) (hl : ds.length ≤ 5) : OkD (.list ds) := by
  obtain ⟨i1, i2, i3, i4, i5, i6, i7⟩ := sm_all ds h
  exact ⟨by simp [PyData.showable, i1], by simp [PyData.hasDict, i2], by simp only [plainD]; exact i3, by simp only [wtD]; omega, by simp only [PyData.depth]; omega, by simp [PyData.canLay0, i6], by simp only [PyData.shown]; exact ascii_listText i7⟩
theorem SmD.tuple {ds : List PyData} (h : ∀ d ∈ ds, SmD d) (hl : ds.length ≤ 5) : OkD (.tuple ds) := by
  obtain ⟨i1, i2, i3, i4, i5, i6, i7⟩ := sm_all ds h
  exact ⟨by simp [PyData.showable, i1], by simp [PyData.hasDict, i2], by simp only [plainD]; exact i3, by simp only [wtD]; omega, by simp only [PyData.depth]; omega, by simp [PyData.canLay0, i6], by simp only [PyData.shown]; exact ascii_tupleText i7⟩
theorem SmD.str {x : Str} (h : ascii x) (hl : x.length ≤ 60) : SmD (.str x) := ⟨OkD.str h (by omega), by simp only [wtD]; omega, by simp [PyData.depth]⟩
theorem SmD.non : SmD .none := ⟨OkD.non, by decide, by decide⟩
/-- a tuple of texts and nothing else -/
theorem shaped_pair {x y : Str} (hx : ascii x) (hy : ascii y) : SeqAt.shaped (.tuple [.str x, .str y]) = true := by
  have h1 := lay_str hx
  have h2 := lay_str hy
  simp only [PyData.canLay0] at h1 h2
  simp [SeqAt.shaped, PyData.canLay0, PyData.canLayAll0, PyData.depth, PyData.depthAll, h1, h2]
theorem SmD.all1 {a : PyData} (ha : SmD a) : ∀ d ∈ [a], SmD d := fun d hd => by rw [List.mem_singleton.mp hd]; exact ha
theorem SmD.all2 {a b : PyData} (ha : SmD a) (hb : SmD b) : ∀ d ∈ [a, b], SmD d := fun d hd => by
  simp only [List.mem_cons, List.not_mem_nil, or_false] at hd
  rcases hd with rfl | rfl
  · exact ha
  · exact hb
theorem SmD.all3 {a b c : PyData} (ha : SmD a) (hb : SmD b) (hc : SmD c) : ∀ d ∈ [a, b, c], SmD d := fun d hd => by
  simp only [List.mem_cons, List.not_mem_nil, or_false] at hd
  rcases hd with rfl | rfl | rfl
  · exact ha
  · exact hb
  · exact hc
end Kb
namespace Kb
open PySem PySem.Spec PyProof.Rows L2 TL
theorem shaped_all : ∀ ds : List PyData, (∀ d ∈ ds, d.canLay0 = true ∧ d.depth ≤ 60) → PyData.canLayAll0 ds = true ∧ PyData.depthAll ds ≤ 60
  | [], _ => by simp [PyData.canLayAll0, PyData.depthAll]
  | a :: r, h => by
    obtain ⟨h1, h2⟩ := h a (List.mem_cons_self ..)
    obtain ⟨h3, h4⟩ := shaped_all r fun d hd => h d (List.mem_cons_of_mem _ hd)
    exact ⟨by simp [PyData.canLayAll0, h1, h3], by simp only [PyData.depthAll]; omega⟩
theorem shaped_list {ds : List PyData} (h : ∀ d ∈ ds, d.canLay0 = true ∧ d.depth ≤ 60) : SeqAt.shaped (.list ds) = true := by
  obtain ⟨h1, h2⟩ := shaped_all ds h
  unfold SeqAt.shaped
  simp only [PyData.canLay0, PyData.depth, h1, Bool.true_and]
  exact decide_eq_true (by omega)
theorem shaped_tuple {ds : List PyData} (h : ∀ d ∈ ds, d.canLay0 = true ∧ d.depth ≤ 60) : SeqAt.shaped (.tuple ds) = true := by
  obtain ⟨h1, h2⟩ := shaped_all ds h
  unfold SeqAt.shaped
  simp only [PyData.canLay0, PyData.depth, h1, Bool.true_and]
  exact decide_eq_true (by omega)
theorem eqv_same {d : PyData} (h : SeqAt.shaped d = true) : PyData.eqv d d = true := SeqAt.eqv_refl _ (SeqAt.canLay_of_shaped h)
end Kb
namespace Kb
open PySem PySem.Spec PyProof.Rows L2 TL
theorem OkD.text {d : PyData} (h : OkD d) : (textD d).length ≤ 5000 := by
  have a := shown_le d h.p
  have b := h.w
  cases d with
  | str x => simp only [wtD] at b; show x.length ≤ 5000; omega
  | none => exact Nat.le_trans a b
  | bool _ => exact Nat.le_trans a b
  | int _ => exact Nat.le_trans a b
  | list _ => exact Nat.le_trans a b
  | tuple _ => exact Nat.le_trans a b
  | dict _ => exact Nat.le_trans a b
end Kb

namespace Pf
open PySem PySem.Spec PyProof.Rows L2 TL Kb
def top (i : Nat) : Stmt := PySem.Challenge.pw_crumbjar_k05_rules_checked.main.body.getD i (.Pass ⟨0, 0, 0, 0⟩)
def clsInit : Stmt → Stmt
  | .ClassDef _ _ _ body _ _ _ _ _ _ _ => body.getD 0 (.Pass ⟨0, 0, 0, 0⟩)
  | s => s
abbrev si_BadHost : Stmt := clsInit (top 2)
theorem sci_BadHost : FnScope ["self", "place"] ["self", "place"] (defScope si_BadHost) := ⟨rfl, rfl, rfl, by decide +kernel, rfl, by decide +kernel, by decide +kernel⟩
theorem oki_BadHost {K : PySem.W.Frag} {mg : Str → Option Value} {C fI : Addr} {fd : FuncData} (P : Program) (w : World) (base : Heap) (F : Fun K "__init__" "BadHost.__init__" si_BadHost fI fd) : FnOk P w K mg base CX0 1 fI fd ["self", "place"] (spInit K C "place") := by
  refine F.ok sci_BadHost (fun vs H Q E h => ?_) (fun cdv A outer s H vs Q E hr h => ?_)
  · obtain ⟨_, _, rfl, _⟩ := h; rfl
  · refine ⟨_, pss_one (ps_ost (pv 0) (pv 1)), ?_⟩
    obtain ⟨a, v, rfl, ha, T, no, hQ⟩ := h
    exact ⟨_, rfl, _, rfl, a, C, rfl, T, no, .inl ⟨ha, fun dx h1 h2 => hQ dx h1 h2⟩⟩
theorem bi_BadHost : ∀ (kV doc pm : Value) (an : Option Addr) (cdv ct : Value) (us : List Value), us.length = (["self", "place"] : List Str).length → bindArgs (PySem.W.fnOf "__init__" "BadHost.__init__" (defArgs si_BadHost) (defBody si_BadHost) (defScope si_BadHost) .none kV doc pm an cdv ct) ⟨us, []⟩ = pure ((["self", "place"] : List Str).zip us) :=
  fun _ _ _ _ _ _ us hl => match us, hl with | [_, _], _ => rfl
abbrev si_BadOrigin : Stmt := clsInit (top 4)
theorem sci_BadOrigin : FnScope ["self", "given"] ["self", "given"] (defScope si_BadOrigin) := ⟨rfl, rfl, rfl, by decide +kernel, rfl, by decide +kernel, by decide +kernel⟩
theorem oki_BadOrigin {K : PySem.W.Frag} {mg : Str → Option Value} {C fI : Addr} {fd : FuncData} (P : Program) (w : World) (base : Heap) (F : Fun K "__init__" "BadOrigin.__init__" si_BadOrigin fI fd) : FnOk P w K mg base CX0 1 fI fd ["self", "given"] (spInit K C "given") := by
  refine F.ok sci_BadOrigin (fun vs H Q E h => ?_) (fun cdv A outer s H vs Q E hr h => ?_)
  · obtain ⟨_, _, rfl, _⟩ := h; rfl
  · refine ⟨_, pss_one (ps_ost (pv 0) (pv 1)), ?_⟩
    obtain ⟨a, v, rfl, ha, T, no, hQ⟩ := h
    exact ⟨_, rfl, _, rfl, a, C, rfl, T, no, .inl ⟨ha, fun dx h1 h2 => hQ dx h1 h2⟩⟩
theorem bi_BadOrigin : ∀ (kV doc pm : Value) (an : Option Addr) (cdv ct : Value) (us : List Value), us.length = (["self", "given"] : List Str).length → bindArgs (PySem.W.fnOf "__init__" "BadOrigin.__init__" (defArgs si_BadOrigin) (defBody si_BadOrigin) (defScope si_BadOrigin) .none kV doc pm an cdv ct) ⟨us, []⟩ = pure ((["self", "given"] : List Str).zip us) :=
  fun _ _ _ _ _ _ us hl => match us, hl with | [_, _], _ => rfl
abbrev si_BadRules : Stmt := clsInit (top 3)
theorem sci_BadRules : FnScope ["self", "index"] ["self", "index"] (defScope si_BadRules) := ⟨rfl, rfl, rfl, by decide +kernel, rfl, by decide +kernel, by decide +kernel⟩
theorem oki_BadRules {K : PySem.W.Frag} {mg : Str → Option Value} {C fI : Addr} {fd : FuncData} (P : Program) (w : World) (base : Heap) (F : Fun K "__init__" "BadRules.__init__" si_BadRules fI fd) : FnOk P w K mg base CX0 1 fI fd ["self", "index"] (spInit K C "index") := by
  refine F.ok sci_BadRules (fun vs H Q E h => ?_) (fun cdv A outer s H vs Q E hr h => ?_)
  · obtain ⟨_, _, rfl, _⟩ := h; rfl
  · refine ⟨_, pss_one (ps_ost (pv 0) (pv 1)), ?_⟩
    obtain ⟨a, v, rfl, ha, T, no, hQ⟩ := h
    exact ⟨_, rfl, _, rfl, a, C, rfl, T, no, .inl ⟨ha, fun dx h1 h2 => hQ dx h1 h2⟩⟩
theorem bi_BadRules : ∀ (kV doc pm : Value) (an : Option Addr) (cdv ct : Value) (us : List Value), us.length = (["self", "index"] : List Str).length → bindArgs (PySem.W.fnOf "__init__" "BadRules.__init__" (defArgs si_BadRules) (defBody si_BadRules) (defScope si_BadRules) .none kV doc pm an cdv ct) ⟨us, []⟩ = pure ((["self", "index"] : List Str).zip us) :=
  fun _ _ _ _ _ _ us hl => match us, hl with | [_, _], _ => rfl
abbrev s_has_only : Stmt := top 7
theorem sc_has_only : FnScope ["text", "signs"] ["text", "signs"] (defScope s_has_only) := ⟨rfl, rfl, rfl, by decide +kernel, rfl, by decide +kernel, by decide +kernel⟩
abbrev s__is_label : Stmt := top 20
theorem sc__is_label : FnScope ["text"] ["text"] (defScope s__is_label) := ⟨rfl, rfl, rfl, by decide +kernel, rfl, by decide +kernel, by decide +kernel⟩
abbrev s_are_labels : Stmt := top 19
theorem sc_are_labels : FnScope ["texts", "text"] ["texts"] (defScope s_are_labels) := ⟨rfl, rfl, rfl, by decide +kernel, rfl, by decide +kernel, by decide +kernel⟩
abbrev s__is_rule : Stmt := top 40
theorem sc__is_rule : FnScope ["value", "labels"] ["value"] (defScope s__is_rule) := ⟨rfl, rfl, rfl, by decide +kernel, rfl, by decide +kernel, by decide +kernel⟩
abbrev s_need_rules : Stmt := top 33
theorem sc_need_rules : FnScope ["rules", "index", "rule"] ["rules"] (defScope s_need_rules) := ⟨rfl, rfl, rfl, by decide +kernel, rfl, by decide +kernel, by decide +kernel⟩
abbrev s_is_digits : Stmt := top 8
theorem sc_is_digits : FnScope ["text"] ["text"] (defScope s_is_digits) := ⟨rfl, rfl, rfl, by decide +kernel, rfl, by decide +kernel, by decide +kernel⟩
abbrev s__is_number : Stmt := top 22
theorem sc__is_number : FnScope ["label"] ["label"] (defScope s__is_number) := ⟨rfl, rfl, rfl, by decide +kernel, rfl, by decide +kernel, by decide +kernel⟩
abbrev s__are_four_numbers : Stmt := top 21
theorem sc__are_four_numbers : FnScope ["labels", "label"] ["labels"] (defScope s__are_four_numbers) := ⟨rfl, rfl, rfl, by decide +kernel, rfl, by decide +kernel, by decide +kernel⟩
abbrev s_is_host : Stmt := top 16
theorem sc_is_host : FnScope ["value", "labels"] ["value"] (defScope s_is_host) := ⟨rfl, rfl, rfl, by decide +kernel, rfl, by decide +kernel, by decide +kernel⟩
abbrev s__begins_host : Stmt := top 24
theorem sc__begins_host : FnScope ["text", "end"] ["text"] (defScope s__begins_host) := ⟨rfl, rfl, rfl, by decide +kernel, rfl, by decide +kernel, by decide +kernel⟩
abbrev s__place : Stmt := top 23
theorem sc__place : FnScope ["text", "many"] ["text"] (defScope s__place) := ⟨rfl, rfl, rfl, by decide +kernel, rfl, by decide +kernel, by decide +kernel⟩
abbrev s_need_host : Stmt := top 18
theorem sc_need_host : FnScope ["host"] ["host"] (defScope s_need_host) := ⟨rfl, rfl, rfl, by decide +kernel, rfl, by decide +kernel, by decide +kernel⟩
abbrev s_is_address_host : Stmt := top 17
theorem sc_is_address_host : FnScope ["value"] ["value"] (defScope s_is_address_host) := ⟨rfl, rfl, rfl, by decide +kernel, rfl, by decide +kernel, by decide +kernel⟩
abbrev s__last_labels : Stmt := top 42
theorem sc__last_labels : FnScope ["host", "many"] ["host", "many"] (defScope s__last_labels) := ⟨rfl, rfl, rfl, by decide +kernel, rfl, by decide +kernel, by decide +kernel⟩
abbrev s__size : Stmt := top 41
theorem sc__size : FnScope ["text"] ["text"] (defScope s__size) := ⟨rfl, rfl, rfl, by decide +kernel, rfl, by decide +kernel, by decide +kernel⟩
abbrev s__matches : Stmt := top 44
theorem sc__matches : FnScope ["pattern", "host", "ending"] ["pattern", "host"] (defScope s__matches) := ⟨rfl, rfl, rfl, by decide +kernel, rfl, by decide +kernel, by decide +kernel⟩
abbrev s__suffix_size : Stmt := top 43
theorem sc__suffix_size : FnScope ["rules", "host", "longest", "exception", "rule"] ["rules", "host"] (defScope s__suffix_size) := ⟨rfl, rfl, rfl, by decide +kernel, rfl, by decide +kernel, by decide +kernel⟩
abbrev s_known_suffix : Stmt := top 37
theorem sc_known_suffix : FnScope ["rules", "host"] ["rules", "host"] (defScope s_known_suffix) := ⟨rfl, rfl, rfl, by decide +kernel, rfl, by decide +kernel, by decide +kernel⟩
abbrev s_suffix_of : Stmt := top 34
theorem sc_suffix_of : FnScope ["rules", "host"] ["rules", "host"] (defScope s_suffix_of) := ⟨rfl, rfl, rfl, by decide +kernel, rfl, by decide +kernel, by decide +kernel⟩
abbrev s_known_family : Stmt := top 38
theorem sc_known_family : FnScope ["rules", "host", "suffix"] ["rules", "host"] (defScope s_known_family) := ⟨rfl, rfl, rfl, by decide +kernel, rfl, by decide +kernel, by decide +kernel⟩
abbrev s_family_of : Stmt := top 35
theorem sc_family_of : FnScope ["rules", "host"] ["rules", "host"] (defScope s_family_of) := ⟨rfl, rfl, rfl, by decide +kernel, rfl, by decide +kernel, by decide +kernel⟩
abbrev s_is_suffix : Stmt := top 36
theorem sc_is_suffix : FnScope ["rules", "host"] ["rules", "host"] (defScope s_is_suffix) := ⟨rfl, rfl, rfl, by decide +kernel, rfl, by decide +kernel, by decide +kernel⟩
abbrev s__is_scheme : Stmt := top 28
theorem sc__is_scheme : FnScope ["value"] ["value"] (defScope s__is_scheme) := ⟨rfl, rfl, rfl, by decide +kernel, rfl, by decide +kernel, by decide +kernel⟩
abbrev s_is_origin : Stmt := top 27
theorem sc_is_origin : FnScope ["value"] ["value"] (defScope s_is_origin) := ⟨rfl, rfl, rfl, by decide +kernel, rfl, by decide +kernel, by decide +kernel⟩
abbrev s_site_of : Stmt := top 39
theorem sc_site_of : FnScope ["rules", "origin", "scheme", "host"] ["rules", "origin"] (defScope s_site_of) := ⟨rfl, rfl, rfl, by decide +kernel, rfl, by decide +kernel, by decide +kernel⟩
abbrev s__law_draw : Stmt := top 47
theorem sc__law_draw : FnScope ["cell", "k"] ["cell", "k"] (defScope s__law_draw) := ⟨rfl, rfl, rfl, by decide +kernel, rfl, by decide +kernel, by decide +kernel⟩
abbrev s__law_mixed : Stmt := top 46
theorem sc__law_mixed : FnScope ["cell", "k", "one"] ["cell", "k"] (defScope s__law_mixed) := ⟨rfl, rfl, rfl, by decide +kernel, rfl, by decide +kernel, by decide +kernel⟩
abbrev s__law_digit : Stmt := top 48
theorem sc__law_digit : FnScope ["draw", "span", "j", "found"] ["draw", "span"] (defScope s__law_digit) := ⟨rfl, rfl, rfl, by decide +kernel, rfl, by decide +kernel, by decide +kernel⟩
abbrev s__law_rule : Stmt := top 49
theorem sc__law_rule : FnScope ["draw", "k", "words", "j"] ["draw", "k"] (defScope s__law_rule) := ⟨rfl, rfl, rfl, by decide +kernel, rfl, by decide +kernel, by decide +kernel⟩
abbrev s__law_rules : Stmt := top 50
theorem sc__law_rules : FnScope ["draw", "many", "items", "wrong", "odd", "at", "found", "k"] ["draw"] (defScope s__law_rules) := ⟨rfl, rfl, rfl, by decide +kernel, rfl, by decide +kernel, by decide +kernel⟩
abbrev s__law_told : Stmt := top 51
theorem sc__law_told : FnScope ["call", "e"] ["call"] (defScope s__law_told) := ⟨rfl, rfl, rfl, by decide +kernel, rfl, by decide +kernel, by decide +kernel⟩
abbrev s_law : Stmt := top 52
theorem sc_law : FnScope ["script", "k", "amount", "draw", "turn", "rules", "wrong", "due", "told", "both", "last", "odd"] ["script"] (defScope s_law) := ⟨rfl, rfl, rfl, by decide +kernel, rfl, by decide +kernel, by decide +kernel⟩
/-- what the top has written -/
structure Txt (K : PySem.W.Frag) (mg : Str → Option Value) : Prop where
  b_enumerate : mg "enumerate" = none
  b_int : mg "int" = none
  b_isinstance : mg "isinstance" = none
  b_len : mg "len" = none
  b_max : mg "max" = none
  b_min : mg "min" = none
  b_range : mg "range" = none
  b_repr : mg "repr" = none
  b_str : mg "str" = none
  b_sum : mg "sum" = none
  b_tuple : mg "tuple" = none
  c_DIGITS : ∃ u, mg "DIGITS" = some u ∧ RelV (.str "0123456789") u
  c_MOST_OF_LABEL : ∃ u, mg "MOST_OF_LABEL" = some u ∧ RelV (.int 20) u
  c_MOST_LABELS : ∃ u, mg "MOST_LABELS" = some u ∧ RelV (.int 10) u
  c_MOST_OF_HOST : ∃ u, mg "MOST_OF_HOST" = some u ∧ RelV (.int 100) u
  c_MOST_OF_NUMBER : ∃ u, mg "MOST_OF_NUMBER" = some u ∧ RelV (.int 255) u
  c_LABEL_SIGNS : ∃ u, mg "LABEL_SIGNS" = some u ∧ RelV (.str "abcdefghijklmnopqrstuvwxyz0123456789-") u
  c_ENDS : ∃ a, mg "ENDS" = some (.ref a) ∧ ∀ H, SqT K H a [(.str ""), (.str "a"), (.str ".a")]
  c_SCHEMES : ∃ a, mg "SCHEMES" = some (.ref a) ∧ ∀ H, SqT K H a [(.str "http"), (.str "https")]
  c_MOST_RULES : ∃ u, mg "MOST_RULES" = some u ∧ RelV (.int 30) u
  c_ANY : ∃ u, mg "ANY" = some u ∧ RelV (.str "*") u
  c_EXCEPTION : ∃ u, mg "EXCEPTION" = some u ∧ RelV (.str "!") u
  e_BadHost : ∃ C, Err K mg "BadHost" "place" C
  e_BadOrigin : ∃ C, Err K mg "BadOrigin" "given" C
  e_BadRules : ∃ C, Err K mg "BadRules" "index" C
  n_BadHost_BadRules : ∃ CX CY, mg "BadHost" = some (.ref CX) ∧ mg "BadRules" = some (.ref CY) ∧ PySem.W.exmOne K (.ref CX) (.ref CY) = some false
  n_BadOrigin_BadHost : ∃ CX CY, mg "BadOrigin" = some (.ref CX) ∧ mg "BadHost" = some (.ref CY) ∧ PySem.W.exmOne K (.ref CX) (.ref CY) = some false
  n_BadOrigin_BadRules : ∃ CX CY, mg "BadOrigin" = some (.ref CX) ∧ mg "BadRules" = some (.ref CY) ∧ PySem.W.exmOne K (.ref CX) (.ref CY) = some false
  d_has_only : Df K mg "has_only" s_has_only ["text", "signs"]
  d__is_label : Df K mg "_is_label" s__is_label ["text"]
  d_are_labels : Df K mg "are_labels" s_are_labels ["texts"]
  d__is_rule : Df K mg "_is_rule" s__is_rule ["value"]
  d_need_rules : Df K mg "need_rules" s_need_rules ["rules"]
  d_is_digits : Df K mg "is_digits" s_is_digits ["text"]
  d__is_number : Df K mg "_is_number" s__is_number ["label"]
  d__are_four_numbers : Df K mg "_are_four_numbers" s__are_four_numbers ["labels"]
  d_is_host : Df K mg "is_host" s_is_host ["value"]
  d__begins_host : Df K mg "_begins_host" s__begins_host ["text"]
  d__place : Df K mg "_place" s__place ["text"]
  d_need_host : Df K mg "need_host" s_need_host ["host"]
  d_is_address_host : Df K mg "is_address_host" s_is_address_host ["value"]
  d__last_labels : Df K mg "_last_labels" s__last_labels ["host", "many"]
  d__size : Df K mg "_size" s__size ["text"]
  d__matches : Df K mg "_matches" s__matches ["pattern", "host"]
  d__suffix_size : Df K mg "_suffix_size" s__suffix_size ["rules", "host"]
  d_known_suffix : Df K mg "known_suffix" s_known_suffix ["rules", "host"]
  d_suffix_of : Df K mg "suffix_of" s_suffix_of ["rules", "host"]
  d_known_family : Df K mg "known_family" s_known_family ["rules", "host"]
  d_family_of : Df K mg "family_of" s_family_of ["rules", "host"]
  d_is_suffix : Df K mg "is_suffix" s_is_suffix ["rules", "host"]
  d__is_scheme : Df K mg "_is_scheme" s__is_scheme ["value"]
  d_is_origin : Df K mg "is_origin" s_is_origin ["value"]
  d_site_of : Df K mg "site_of" s_site_of ["rules", "origin"]
  d__law_draw : Df K mg "_law_draw" s__law_draw ["cell", "k"]
  d__law_mixed : Df K mg "_law_mixed" s__law_mixed ["cell", "k"]
  d__law_digit : Df K mg "_law_digit" s__law_digit ["draw", "span"]
  d__law_rule : Df K mg "_law_rule" s__law_rule ["draw", "k"]
  d__law_rules : Df K mg "_law_rules" s__law_rules ["draw"]
  d__law_told : Df K mg "_law_told" s__law_told ["call"]
def sp_has_only : Sp := fun vs H Q _ => ∃ x g : Str, vs = [.str x, .str g] ∧ x.length ≤ 1000000 ∧ Q (.bl (onlyB (tl g) (tl x))) H
def sp__is_label : Sp := fun vs H Q _ => ∃ x : Str, vs = [.str x] ∧ x.length ≤ 1000000 ∧ Q (.bl (labB (tl x))) H
theorem one_dash (c : Nat) : decide (V.str ⟨#[c]⟩ = V.str ("-" : Str)) = decide (c = 45) := by
  rw [show ("-" : Str) = ⟨#[45]⟩ from ext_tl (by decide +kernel), dec_str, Bool.eq_iff_iff, beq_iff_eq, decide_eq_true_eq, str_eq_iff]
  show [c] = [45] ↔ _
  simp
def sp_are_labels (K : PySem.W.Frag) : Sp := fun vs H Q _ => ∃ (p : Addr) (xs : List Str), vs = [.ref p] ∧ SqL K H p (xs.map V.str) ∧ (∀ x ∈ xs, x.length ≤ 1000000) ∧ Q (.bl ((xs.map tl).all labB)) H
/-- a text, or a value that is none -/
def TxtV (K : PySem.W.Frag) (H : Hp) (v : V) : Prop := (∃ x : Str, v = .str x ∧ x.length ≤ 1000) ∨ ∃ t : Value, TyX K H v t ∧ PySem.W.kitOne K t (.type "str") = some false
/-- a value that is no host, and the place that is told of it -/
def NoHost (v : V) (k : Nat) : Prop := (∃ x : Str, v = .str x ∧ hostB (tl x) = false ∧ PlaceB (tl x) k) ∨ ((∀ x : Str, v ≠ .str x) ∧ k = 0)
def Refuses (mg : Str → Option Value) (H : Hp) (E : XK) (v : V) : Prop := ∀ (k : Nat) (C d : Addr) (H' : Hp), NoHost v k → mg "BadHost" = some (.ref C) → Same H H' → H' d = none → E (.ref C) (some d) (L2.upd H' d (.xd [(("place" : Str), .int (k : Nat))]))
theorem ty_nostr {K : PySem.W.Frag} {H : Hp} {v : V} {t : Value} (h : TyX K H v t) (hk : PySem.W.kitOne K t (.type "str") = some false) : ∀ x : Str, v ≠ .str x := fun x e => by
  subst e
  cases h with
  | base h =>
    cases h
    rw [kit_str K] at hk
    cases hk
/-- the error cn is raised with that -/
def RefO (mg : Str → Option Value) (cn f : Str) (given : V) (H : Hp) (E : XK) : Prop := ∀ (C d : Addr) (H' : Hp), mg cn = some (.ref C) → Same H H' → H' d = none → E (.ref C) (some d) (L2.upd H' d (.xd [(f, given)]))
def ruV : V → Bool
  | .str x => ruleB (tl x)
  | _ => false
def sp__is_rule (K : PySem.W.Frag) : Sp := fun vs H Q _ => ∃ v : V, vs = [v] ∧ TxtV K H v ∧ ∀ H' : Hp, Same H H' → Q (.bl (ruV v)) H'
theorem tl_bang2 : tl ("!" : Str) = [33] := by decide +kernel
theorem bang_exc2 (x : Str) : Txt.startswith x ("!" : Str) = excT (tl x) := by
  rw [startswith_tl, tl_bang2]
  unfold excT
  cases h : tl x with
  | nil => rfl
  | cons a r =>
    show ((33 == a) && List.isPrefixOf [] r) = _
    rw [Bool.eq_iff_iff, decide_eq_true_eq, List.isPrefixOf, Bool.and_true, beq_iff_eq, List.head?_cons, Option.some.injEq]
    exact ⟨Eq.symm, Eq.symm⟩
theorem tl_stardot : tl (("*" : Str) ++ ("." : Str)) = [42, 46] := by decide +kernel
/-- the item at j is right -/
def OkAt (xs : List V) (j : Nat) : Prop := j ≠ 30 ∧ ∃ v, xs[j]? = some v ∧ ruV v = true ∧ v ∉ xs.take j
/-- k is the first wrong one -/
def WrongAt (xs : List V) (k : Nat) : Prop := k < xs.length ∧ ¬ OkAt xs k ∧ ∀ j, j < k → OkAt xs j
/-- a value, seen as rules: none, where it is right; else what it is refused with -/
def RulV (K : PySem.W.Frag) (H : Hp) (v : V) (b : Option V) : Prop := (∃ t : Value, TyX K H v t ∧ PySem.W.kitOne K t (.type "tuple") = some false ∧ b = some .non) ∨
  (∃ (p : Addr) (xs : List V), v = .ref p ∧ H p = some (.tup xs) ∧ (∀ x ∈ xs, TxtV K H x) ∧ xs.length ≤ 100 ∧ (((∀ j, j < xs.length → OkAt xs j) ∧ b = none) ∨ ∃ k, WrongAt xs k ∧ b = some (.int (k : Nat))))
theorem ok_strs {xs : List V} : ∀ i, i ≤ xs.length → (∀ j, j < i → OkAt xs j) → ∃ rs : List Str, xs.take i = rs.map V.str ∧ rs.Nodup ∧ (∀ r ∈ rs, ruleB (tl r) = true) ∧ rs.length = i ∧ i ≤ 30
  | 0, _, _ => ⟨[], by simp, List.nodup_nil, by simp, rfl, by decide⟩
  | i + 1, hi, h => by
    obtain ⟨rs, e, nd, hr, hl, h30⟩ := ok_strs i (by omega) fun j hj => h j (by omega)
    obtain ⟨n30, v, hv, hru, hnot⟩ := h i (by omega)
    cases v with
    | str x =>
      refine ⟨rs ++ [x], ?_, ?_, fun r hr' => ?_, by rw [List.length_append, hl]; rfl, by omega⟩
      · rw [List.take_add_one, hv, e, List.map_append]; rfl
      · refine List.nodup_append.mpr ⟨nd, by simp, fun a ha b hb => ?_⟩
        rw [List.mem_singleton] at hb
        subst hb
        intro e2
        subst e2
        exact hnot (by rw [e]; exact List.mem_map.mpr ⟨a, ha, rfl⟩)
      · rcases List.mem_append.mp hr' with q | q
        · exact hr r q
        · rw [List.mem_singleton.mp q]; exact hru
    | _ => cases hru
theorem RulV.good {K : PySem.W.Frag} {H : Hp} {v : V} (h : RulV K H v none) : ∃ (p : Addr) (rs : List Str), v = .ref p ∧ H p = some (.tup (rs.map V.str)) ∧ rs.length ≤ 30 ∧ RulesOK rs := by
  rcases h with ⟨t, _, _, e⟩ | ⟨p, xs, rfl, hp, hx, hl, ⟨ha, _⟩ | ⟨k, _, e⟩⟩
  · cases e
  · obtain ⟨rs, e, nd, hr, hl2, h30⟩ := ok_strs xs.length (Nat.le_refl _) ha
    rw [List.take_length] at e
    subst e
    refine ⟨p, rs, rfl, hp, by omega, nd, fun r hr' => ⟨hr r hr', ?_⟩⟩
    rcases hx _ (List.mem_map.mpr ⟨r, hr', rfl⟩) with ⟨y, e, hy⟩ | ⟨t, ht, hk⟩
    · cases e; exact hy
    · exact absurd rfl (ty_nostr ht hk r)
  · cases e
theorem TxtV.same {K : PySem.W.Frag} {H H' : Hp} {v : V} (h : TxtV K H v) (s : Same H H') : TxtV K H' v := by
  rcases h with h | ⟨t, a, b⟩
  · exact .inl h
  · exact .inr ⟨t, ty_same s a, b⟩
theorem RulV.same {K : PySem.W.Frag} {H H' : Hp} {v : V} {b : Option V} (h : RulV K H v b) (s : Same H H') : RulV K H' v b := by
  rcases h with ⟨t, a, c, e⟩ | ⟨p, xs, a, c, d, e⟩
  · exact .inl ⟨t, ty_same s a, c, e⟩
  · exact .inr ⟨p, xs, a, s _ _ c, fun x hx => (d x hx).same s, e⟩
def sp_need_rules (K : PySem.W.Frag) (mg : Str → Option Value) : Sp := fun vs H Q E => ∃ (v : V) (b : Option V), vs = [v] ∧ RulV K H v b ∧ (b = none → ∀ H' : Hp, Same H H' → Q .non H') ∧ (∀ g, b = some g → RefO mg "BadRules" "index" g H E)
def sp_is_digits : Sp := fun vs H Q _ => ∃ x : Str, vs = [.str x] ∧ x.length ≤ 1000000 ∧ Q (.bl (digB (tl x))) H
def sp__is_number : Sp := fun vs H Q _ => ∃ x : Str, vs = [.str x] ∧ x.length ≤ 640 ∧ Q (.bl (numB (tl x))) H
theorem one_zero (c : Nat) : decide (V.str ⟨#[c]⟩ = V.str ("0" : Str)) = decide (c = 48) := by
  rw [show ("0" : Str) = ⟨#[48]⟩ from ext_tl (by decide +kernel), dec_str, Bool.eq_iff_iff, beq_iff_eq, decide_eq_true_eq, str_eq_iff]
  show [c] = [48] ↔ _
  simp
theorem str_zero (x : Str) : decide (V.str x = V.str ("0" : Str)) = decide (tl x = [48]) := by
  rw [Bool.eq_iff_iff, decide_eq_true_eq, decide_eq_true_eq]
  exact ⟨fun e => by rw [V.str.inj e]; decide +kernel, fun e => by rw [show x = ("0" : Str) from ext_tl (by rw [e]; decide +kernel)]⟩
def sp__are_four_numbers (K : PySem.W.Frag) : Sp := fun vs H Q _ => ∃ (p : Addr) (xs : List Str), vs = [.ref p] ∧ SqL K H p (xs.map V.str) ∧ (∀ x ∈ xs, x.length ≤ 640) ∧ Q (.bl ((xs.map tl).all numB && decide (xs.length = 4))) H
def sp_is_host (K : PySem.W.Frag) : Sp := fun vs H Q _ => ∃ (v : V) (b : Bool), vs = [v] ∧ TxV hostB K H v b ∧ ∀ H', Same H H' → Q (.bl b) H'
theorem lastL_map {P : List Str} {z : Str} {P0 : List Str} (e : P = P0 ++ [z]) : lastL (P.map tl) = tl z := by
  rw [e, List.map_append]; exact lastL_snoc _ _
def sp__begins_host : Sp := fun vs H Q _ => ∃ x : Str, vs = [.str x] ∧ x.length ≤ 1000 ∧ ∀ H' : Hp, Same H H' → Q (.bl (beginsB (tl x))) H'
def tails3 : List Str := [("" : Str), "a", ".a"]
def sp__place : Sp := fun vs H Q _ => ∃ x : Str, vs = [.str x] ∧ x.length ≤ 1000 ∧ ∀ (k : Nat) (H' : Hp), PlaceB (tl x) k → Same H H' → Q (.int (k : Nat)) H'
def sp_need_host (K : PySem.W.Frag) (mg : Str → Option Value) : Sp := fun vs H Q E => ∃ v : V, vs = [v] ∧ TxtV K H v ∧ (∀ x : Str, v = .str x → hostB (tl x) = true → ∀ H', Same H H' → Q .non H') ∧ Refuses mg H E v
def sp_is_address_host (K : PySem.W.Frag) : Sp := fun vs H Q _ => ∃ (v : V) (b : Bool), vs = [v] ∧ TxV addrB K H v b ∧ ∀ H', Same H H' → Q (.bl b) H'
def sp__last_labels : Sp := fun vs H Q _ => ∃ (x : Str) (n : Nat), vs = [.str x, .int n] ∧ x.length ≤ 1000 ∧ 1 ≤ n ∧ n ≤ 100000 ∧
  ∀ (e : Str) (H' : Hp), Same H H' → tl e = joinL [46] (lastN n (sp1 46 (tl x))) → e.length ≤ x.length → Q (.str e) H'
theorem sum_map_le {B : Nat} : ∀ L : List Str, (∀ x ∈ L, x.length ≤ B) → (L.map (·.length)).sum ≤ L.length * B
  | [], _ => by simp
  | x :: L, h => by
    have h1 := h x (List.mem_cons_self ..)
    have h2 := sum_map_le L fun y hy => h y (List.mem_cons_of_mem _ hy)
    rw [List.map_cons, List.sum_cons, List.length_cons, Nat.succ_mul]
    omega
theorem join_fits {a b : Nat} (h1 : a ≤ b * 1000) (h2 : b ≤ 1001) : a + b * 1 ≤ 16777216 := by omega
theorem joinL_drop1 {c : Nat} : ∀ L : List (List Nat), (joinL [c] (L.drop 1)).length ≤ (joinL [c] L).length
  | [] => Nat.le_refl _
  | [p] => Nat.zero_le _
  | p :: q :: r => by
    show _ ≤ (p ++ (c :: joinL [c] (q :: r))).length
    rw [List.length_append, List.length_cons, List.drop_succ_cons, List.drop_zero]
    omega
theorem joinL_drop {c : Nat} (L : List (List Nat)) : ∀ k, (joinL [c] (L.drop k)).length ≤ (joinL [c] L).length
  | 0 => Nat.le_refl _
  | k + 1 => by
    rw [← List.drop_drop]
    exact Nat.le_trans (joinL_drop1 _) (joinL_drop L k)
def sp__size : Sp := fun vs H Q _ => ∃ x : Str, vs = [.str x] ∧ Q (.int ((sp1 46 (tl x)).length : Nat)) H
def sp__matches : Sp := fun vs H Q _ => ∃ x y : Str, vs = [.str x, .str y] ∧ x.length ≤ 10000 ∧ y.length ≤ 1000 ∧ ((tl x).head? = some 42 → ∃ u, tl x = 42 :: 46 :: u) ∧
  ∀ H' : Hp, Same H H' → Q (.bl (mtL (sp1 46 (tl x)) (sp1 46 (tl y)))) H'
theorem tl_star : tl ("*" : Str) = [42] := by decide +kernel
def sp__suffix_size (K : PySem.W.Frag) : Sp := fun vs H Q _ => ∃ (p : Addr) (rs : List Str) (y : Str), vs = [.ref p, .str y] ∧ SqT K H p (rs.map V.str) ∧ (∀ r ∈ rs, ruleB (tl r) = true ∧ r.length ≤ 1000) ∧ y.length ≤ 1000 ∧
  ∀ H' : Hp, Same H H' → Q (.int (sufN (rs.map tl) (sp1 46 (tl y)) : Nat)) H'
theorem tl_bang : tl ("!" : Str) = [33] := by decide +kernel
theorem bang_exc (x : Str) : Txt.startswith x ("!" : Str) = excT (tl x) := by
  rw [startswith_tl, tl_bang]
  unfold excT
  cases h : tl x with
  | nil => rfl
  | cons a r =>
    show ((33 == a) && List.isPrefixOf [] r) = _
    rw [Bool.eq_iff_iff, decide_eq_true_eq, List.isPrefixOf, Bool.and_true, beq_iff_eq, List.head?_cons, Option.some.injEq]
    exact ⟨Eq.symm, Eq.symm⟩
theorem patL_len (t : List Nat) : (sp1 46 t).length = (patL t).length := by
  unfold patL patT
  split
  · next h =>
    unfold excT at h
    cases t with
    | nil => rfl
    | cons a r =>
      simp at h
      subst h
      obtain ⟨p, q, e⟩ := sp1_cons 46 r
      rw [sp1_miss (by decide) e, List.tail_cons, e]
      rfl
  · rfl
theorem rule_star {t : List Nat} (h : ruleB t = true) (hx : excT t = false) (hs : t.head? = some 42) : ∃ u, t = 42 :: 46 :: u := by
  unfold ruleB at h
  rw [hx] at h
  simp only [Bool.false_eq_true, if_false] at h
  by_cases g : [42, 46].isPrefixOf t = true
  · obtain ⟨u, e⟩ := List.isPrefixOf_iff_prefix.mp g
    exact ⟨u, e.symm⟩
  · rw [if_neg g] at h
    obtain ⟨p, q, e⟩ := sp1_cons 46 t
    rw [e, List.all_cons, Bool.and_eq_true] at h
    cases t with
    | nil => simp at hs
    | cons a r =>
      simp at hs
      subst hs
      obtain ⟨p2, q2, e2⟩ := sp1_cons 46 r
      rw [sp1_miss (by decide) e2] at e
      have e3 := (List.cons.inj e).1
      have := lab_sign h.1 (c := 42) (by rw [← e3]; exact List.mem_cons_self ..)
      exact absurd this (by decide)
theorem rule_star2 {t : List Nat} (h : ruleB t = true) (hx : excT t = true) : (patT t).head? ≠ some 42 := fun hs => by
  unfold ruleB at h
  unfold patT at hs
  rw [if_pos hx] at h hs
  rw [Bool.and_eq_true] at h
  obtain ⟨p, q, e⟩ := sp1_cons 46 t.tail
  rw [e, List.all_cons, Bool.and_eq_true] at h
  cases ht : t.tail with
  | nil => rw [ht] at hs; simp at hs
  | cons a r =>
    rw [ht] at hs e
    simp at hs
    subst hs
    obtain ⟨p2, q2, e2⟩ := sp1_cons 46 r
    rw [sp1_miss (by decide) e2] at e
    have e3 := (List.cons.inj e).1
    have := lab_sign h.2.1 (c := 42) (by rw [← e3]; exact List.mem_cons_self ..)
    exact absurd this (by decide)
theorem max_nat (a b : Nat) : (if (b : Int) > (a : Int) then (b : Int) else (a : Int)) = ((max a b : Nat) : Int) := by
  split <;> omega
theorem big_take {q : List Nat → Bool} {rs : List Str} {b i : Nat} {r : Str} (h : rs[i]? = some r) : bigN b q ((rs.take (i + 1)).map tl) = if q (tl r) then max (bigN b q ((rs.take i).map tl)) (patL (tl r)).length else bigN b q ((rs.take i).map tl) := by
  rw [List.take_succ, h]
  show bigN b q (((rs.take i) ++ [r]).map tl) = _
  rw [List.map_append]
  exact bigN_snoc _ _ _ _
def sp_known_suffix (K : PySem.W.Frag) : Sp := fun vs H Q _ => ∃ (p : Addr) (rs : List Str) (y : Str), vs = [.ref p, .str y] ∧ SqT K H p (rs.map V.str) ∧ rs.length ≤ 30 ∧ RulesOK rs ∧ hostB (tl y) = true ∧
  (∀ H' : Hp, Same H H' → addrB (tl y) = true → Q .non H') ∧
  ∀ (e : Str) (H' : Hp), Same H H' → addrB (tl y) = false → tl e = joinL [46] (lastN (sufN (rs.map tl) (sp1 46 (tl y))) (sp1 46 (tl y))) → Q (.str e) H'
def sp_suffix_of (K : PySem.W.Frag) (mg : Str → Option Value) : Sp := fun vs H Q E => ∃ (v u : V) (b : Option V), vs = [v, u] ∧ RulV K H v b ∧ TxtV K H u ∧ (∀ g, b = some g → RefO mg "BadRules" "index" g H E) ∧ (b = none → Refuses mg H E u) ∧
  (∀ (p : Addr) (rs : List Str) (y : Str), b = none → v = .ref p → H p = some (.tup (rs.map V.str)) → rs.length ≤ 30 → RulesOK rs → u = .str y → hostB (tl y) = true → (∀ H' : Hp, Same H H' → addrB (tl y) = true → Q .non H') ∧
    ∀ (e : Str) (H' : Hp), Same H H' → addrB (tl y) = false → tl e = joinL [46] (lastN (sufN (rs.map tl) (sp1 46 (tl y))) (sp1 46 (tl y))) → Q (.str e) H')
def famT (rs : List (List Nat)) (t : List Nat) : List Nat := if addrB t then t else joinL [46] (famL rs (sp1 46 t))
def sp_known_family (K : PySem.W.Frag) : Sp := fun vs H Q _ => ∃ (p : Addr) (rs : List Str) (y : Str), vs = [.ref p, .str y] ∧ SqT K H p (rs.map V.str) ∧ rs.length ≤ 30 ∧ RulesOK rs ∧ hostB (tl y) = true ∧
  ∀ (e : Str) (H' : Hp), Same H H' → tl e = famT (rs.map tl) (tl y) → Q (.str e) H'
def sp_family_of (K : PySem.W.Frag) (mg : Str → Option Value) : Sp := fun vs H Q E => ∃ (v u : V) (b : Option V), vs = [v, u] ∧ RulV K H v b ∧ TxtV K H u ∧ (∀ g, b = some g → RefO mg "BadRules" "index" g H E) ∧ (b = none → Refuses mg H E u) ∧
  (∀ (p : Addr) (rs : List Str) (y : Str), b = none → v = .ref p → H p = some (.tup (rs.map V.str)) → rs.length ≤ 30 → RulesOK rs → u = .str y → hostB (tl y) = true → 
    ∀ (e : Str) (H' : Hp), Same H H' → tl e = famT (rs.map tl) (tl y) → Q (.str e) H')
def ownT (rs : List (List Nat)) (t : List Nat) : Bool := !addrB t && decide (sufN rs (sp1 46 t) = (sp1 46 t).length)
def sp_is_suffix (K : PySem.W.Frag) (mg : Str → Option Value) : Sp := fun vs H Q E => ∃ (v u : V) (b : Option V), vs = [v, u] ∧ RulV K H v b ∧ TxtV K H u ∧ (∀ g, b = some g → RefO mg "BadRules" "index" g H E) ∧ (b = none → Refuses mg H E u) ∧
  (∀ (p : Addr) (rs : List Str) (y : Str), b = none → v = .ref p → H p = some (.tup (rs.map V.str)) → u = .str y → hostB (tl y) = true → ∀ (H' : Hp), Same H H' → Q (.bl (ownT (rs.map tl) (tl y))) H')
/-- a text of moderate length, or a value that is none -/
def TxA (K : PySem.W.Frag) (H : Hp) (v : V) : Prop := (∃ x : Str, v = .str x ∧ x.length ≤ 1000 ∧ ascii x) ∨ ∃ t : Value, TyX K H v t ∧ PySem.W.kitOne K t (.type "str") = some false
theorem TxA.same {K : PySem.W.Frag} {H H' : Hp} {v : V} (h : TxA K H v) (s : Same H H') : TxA K H' v := by
  rcases h with h | ⟨t, a, b⟩
  · exact .inl h
  · exact .inr ⟨t, ty_same s a, b⟩
theorem TxA.ext {K : PySem.W.Frag} {H H' : Hp} {v : V} (h : TxA K H v) (s : LamX.ExtN H H') : TxA K H' v := by
  rcases h with h | ⟨t, a, b⟩
  · exact .inl h
  · exact .inr ⟨t, ty_ext s a, b⟩
def schV : V → Bool
  | .str x => decide (x ∈ schemes2)
  | _ => false
def onV (f : List Nat → Bool) : V → Bool
  | .str x => f (tl x)
  | _ => false
theorem ty_nostr08 {K : PySem.W.Frag} {H : Hp} {v : V} {t : Value} (h : TyX K H v t) (hk : PySem.W.kitOne K t (.type "str") = some false) : ∀ x : Str, v ≠ .str x := fun x e => by
  subst e
  cases h with
  | base h =>
    cases h
    rw [kit_str K] at hk
    cases hk
theorem TxA.tx {f : List Nat → Bool} {K : PySem.W.Frag} {H : Hp} {v : V} (h : TxA K H v) : TxV f K H v (onV f v) := by
  rcases h with ⟨x, rfl, h1, _⟩ | ⟨t, a, b⟩
  · exact .inl ⟨x, rfl, by omega, rfl⟩
  · refine .inr ⟨t, a, b, ?_⟩
    have := ty_nostr08 a b
    cases v with
    | str x => exact absurd rfl (this x)
    | _ => rfl
def sp__is_scheme (K : PySem.W.Frag) : Sp := fun vs H Q _ => ∃ v : V, vs = [v] ∧ TxA K H v ∧ Q (.bl (schV v)) H
/-- a value, seen as an origin -/
def OrgV (K : PySem.W.Frag) (H : Hp) (v : V) (b : Bool) : Prop := (∃ t : Value, TyX K H v t ∧ PySem.W.kitOne K t (.type "tuple") = some false ∧ b = false) ∨
  (∃ (p : Addr) (xs : List V), v = .ref p ∧ H p = some (.tup xs) ∧ xs.length ≠ 2 ∧ b = false) ∨
  (∃ (p : Addr) (u w : V), v = .ref p ∧ H p = some (.tup [u, w]) ∧ TxA K H u ∧ TxA K H w ∧ b = (schV u && onV hostB w))
theorem OrgV.same {K : PySem.W.Frag} {H H' : Hp} {v : V} {b : Bool} (h : OrgV K H v b) (s : Same H H') : OrgV K H' v b := by
  rcases h with ⟨t, a, c, e⟩ | ⟨p, xs, a, c, e⟩ | ⟨p, u, w, a, c, d, e, f⟩
  · exact .inl ⟨t, ty_same s a, c, e⟩
  · exact .inr (.inl ⟨p, xs, a, s _ _ c, e⟩)
  · exact .inr (.inr ⟨p, u, w, a, s _ _ c, d.same s, e.same s, f⟩)
theorem OrgV.ext {K : PySem.W.Frag} {H H' : Hp} {v : V} {b : Bool} (h : OrgV K H v b) (s : LamX.ExtN H H') : OrgV K H' v b := by
  rcases h with ⟨t, a, c, e⟩ | ⟨p, xs, a, c, e⟩ | ⟨p, u, w, a, c, d, e, f⟩
  · exact .inl ⟨t, ty_ext s a, c, e⟩
  · exact .inr (.inl ⟨p, xs, a, s _ _ c (fun ps z => by cases z), e⟩)
  · exact .inr (.inr ⟨p, u, w, a, s _ _ c (fun ps z => by cases z), d.ext s, e.ext s, f⟩)
def sp_is_origin (K : PySem.W.Frag) : Sp := fun vs H Q _ => ∃ (v : V) (b : Bool), vs = [v] ∧ OrgV K H v b ∧ ∀ H', Same H H' → Q (.bl b) H'
theorem OrgV.parts {K : PySem.W.Frag} {H : Hp} {v : V} (h : OrgV K H v true) : ∃ (p : Addr) (x y : Str), v = .ref p ∧ H p = some (.tup [.str x, .str y]) ∧ x ∈ schemes2 ∧ hostB (tl y) = true := by
  rcases h with ⟨t, ht, hk, z⟩ | ⟨p, xs, rfl, hp, hl, z⟩ | ⟨p, u, w, rfl, hp, hu1, hw, z⟩
  · cases z
  · cases z
  · have z := z.symm
    rw [Bool.and_eq_true] at z
    obtain ⟨z1, z2⟩ := z
    cases u with
    | str x =>
      cases w with
      | str y => exact ⟨p, x, y, rfl, hp, of_decide_eq_true z1, z2⟩
      | _ => cases z2
    | _ => cases z1
def sp_site_of (K : PySem.W.Frag) (mg : Str → Option Value) : Sp := fun vs H Q E => ∃ (v o : V) (b : Option V) (bo : Bool), vs = [v, o] ∧ RulV K H v b ∧ OrgV K H o bo ∧ (∀ g, b = some g → RefO mg "BadRules" "index" g H E) ∧ (b = none → bo = false → RefO mg "BadOrigin" "given" o H E) ∧
  (∀ (p q : Addr) (rs : List Str) (x y : Str), b = none → bo = true → v = .ref p → H p = some (.tup (rs.map V.str)) → rs.length ≤ 30 → RulesOK rs → o = .ref q → H q = some (.tup [.str x, .str y]) → hostB (tl y) = true →
    ∀ (e : Addr) (z : Str) (H' : Hp), Same H H' → tl z = famT (rs.map tl) (tl y) → H' e = some (.tup [.str x, .str z]) → Q (.ref e) H')
/-- a new draw -/
def sp__law_draw : Sp := fun vs H Q _ => ∃ c k : Int, vs = [.int c, .int k] ∧ 0 ≤ k ∧ k ≤ 1000 ∧ ∀ (d : Addr) (H' : Hp), Same H H' → H d = none → DrawAt H' d 200000000 → Q (.ref d) H'
theorem dkv_merge (l c t : Int) : mergeK [] (dkv l c t) = dkv l c t := by
  simp [mergeK, dkv, putK, kne1, kne2, kne3]
/-- some number below 2147483647 -/
def sp__law_mixed : Sp := fun vs H Q _ => ∃ c k : Int, vs = [.int c, .int k] ∧ 0 ≤ k ∧ k ≤ 1000000000 ∧ ∀ (r : Int) (H' : Hp), Same H H' → 0 ≤ r → r < 2147483647 → Q (.int r) H'
/-- some number below the span -/
def sp__law_digit : Sp := fun vs H Q _ => ∃ (d : Addr) (sp : Int) (n : Nat), vs = [.ref d, .int sp] ∧ 0 < sp ∧ sp < 4000000000 ∧ DrawAt H d (n + 1) ∧
  ∀ (r : Int) (H' : Hp), 0 ≤ r → r < sp → Keep d H H' → DrawAt H' d n → Q (.int r) H'
theorem small15 {n : Nat} (h : n ≤ 15) : n < sizeLine := Nat.lt_of_le_of_lt h (by decide)
/-- a rule with the number k for its first label -/
def OwnR (k : Nat) (t : List Nat) : Prop := ∃ pre rest, (pre = [] ∨ pre = [42, 46] ∨ pre = [33]) ∧ (rest = [] ∨ rest.head? = some 46) ∧ t = pre ++ 110 :: (numL k ++ rest)
def sp__law_rule : Sp := fun vs H Q _ => ∃ (d : Addr) (n k : Nat), vs = [.ref d, .int (k : Nat)] ∧ k < 32 ∧ DrawAt H d (n + 20) ∧
  ∀ (x : Str) (H' : Hp), ruleB (tl x) = true → x.length ≤ 100 → OwnR k (tl x) → Keep d H H' → DrawAt H' d n → Q (.str x) H'
theorem own_lab : ∀ k : Nat, k < 32 → labB (110 :: numL k) = true := by decide +kernel
theorem ab7_at {r : Int} (h0 : 0 ≤ r) (h1 : r < 3) : ∃ c : Nat, atI ("ab7" : Str).cps.toList r = some c ∧ labB (tl (⟨#[c]⟩ : Str)) = true := by
  rcases (by omega : r = 0 ∨ r = 1 ∨ r = 2) with rfl | rfl | rfl
  · exact ⟨97, by decide +kernel, by decide⟩
  · exact ⟨98, by decide +kernel, by decide⟩
  · exact ⟨55, by decide +kernel, by decide⟩
def optN : Option Nat → V
  | none => .non
  | some k => .int (k : Nat)
def wrongIs (xs : List V) : Option Nat → Prop
  | none => ∀ j, j < xs.length → OkAt xs j
  | some k => WrongAt xs k
/-- right but for its place -/
def OkB (xs : List V) (j : Nat) : Prop := ∃ v, xs[j]? = some v ∧ ruV v = true ∧ v ∉ xs.take j
theorem OkB.at {xs : List V} {j : Nat} (h : OkB xs j) (n : j ≠ 30) : OkAt xs j := ⟨n, h⟩
def natsOf (l : List (Option Nat)) : List Int := (l.filterMap id).map fun (n : Nat) => (n : Int)
theorem optN_inj : ∀ {a b : Option Nat}, optN a = optN b → a = b
  | none, none, _ => rfl
  | none, some _, h => by cases h
  | some _, none, h => by cases h
  | some a, some b, h => by
    have h : V.int (a : Int) = V.int (b : Int) := h
    injection h with h
    rw [Int.ofNat.inj h]
theorem OwnR.inj {k j : Nat} {t : List Nat} (hk : k < 32) (hj : j < 32) (a : OwnR k t) (b : OwnR j t) : k = j := by
  obtain ⟨p1, r1, h1, e1, rfl⟩ := a
  obtain ⟨p2, r2, h2, e2, e⟩ := b
  have num : ∀ n, n < 32 → (46 ∉ numL n) := by decide +kernel
  have cut : ∀ (n : Nat) (r : List Nat), n < 32 → (r = [] ∨ r.head? = some 46) → (numL n ++ r).takeWhile (fun c => !decide (c = 46)) = numL n := fun n r hn hr => by
    rw [List.takeWhile_append_of_pos (fun c hc => by
      have : c ≠ 46 := fun z => num n hn (z ▸ hc)
      simp [this])]
    rcases hr with rfl | hr
    · simp
    · cases r with
      | nil => simp
      | cons c r => cases hr; simp
  have key : numL k ++ r1 = numL j ++ r2 := by
    rcases h1 with rfl | rfl | rfl <;> rcases h2 with rfl | rfl | rfl <;> simp at e <;> exact e
  have : numL k = numL j := by rw [← cut k r1 hk e1, key, cut j r2 hj e2]
  have all : ∀ a, a < 32 → ∀ b, b < 32 → numL a = numL b → a = b := by decide +kernel
  exact all k hk j hj this
/-- the list of k's rules -/
theorem own_ok {W : List Str} (h : ∀ j x, W[j]? = some x → ruleB (tl x) = true ∧ x.length ≤ 100 ∧ OwnR j (tl x)) (hl : W.length ≤ 32) : ∀ j, j < W.length → OkB (W.map V.str) j := by
  intro j hj
  obtain ⟨h1, h2, h3⟩ := h j W[j] (List.getElem?_eq_getElem hj)
  refine ⟨.str W[j], by rw [List.getElem?_map, List.getElem?_eq_getElem hj]; rfl, h1, fun q => ?_⟩
  obtain ⟨i, hi⟩ := List.mem_iff_getElem?.mp q
  have hij := (List.getElem?_eq_some_iff.mp hi).1
  rw [List.length_take] at hij
  rw [List.getElem?_take, if_pos (by omega), List.getElem?_map] at hi
  cases e : W[i]? with
  | none => rw [e] at hi; cases hi
  | some y =>
    rw [e] at hi
    have hi : V.str y = V.str W[j] := Option.some.inj hi
    injection hi with hi
    obtain ⟨_, _, g3⟩ := h i y e
    rw [hi] at g3
    have := OwnR.inj (by omega) (by omega) g3 h3
    omega
/-- one item exchanged for a wrong one -/
theorem own_bad {xs : List V} {a : Nat} {v : V} (h : ∀ j, j < xs.length → OkB xs j) (ha : a < xs.length) (hv : ruV v = false ∨ ∃ i, i < a ∧ xs[i]? = some v) : ¬ OkAt (xs.set a v) a ∧ ∀ j, j < a → OkB (xs.set a v) j := by
  have tk : ∀ j, j ≤ a → (xs.set a v).take j = xs.take j := fun j hj => by rw [List.take_set_of_le hj]
  refine ⟨fun ⟨_, u, e1, e2, e3⟩ => ?_, fun j hj => ?_⟩
  · rw [List.getElem?_set_self ha] at e1
    cases e1
    rcases hv with q | ⟨i, hi, q⟩
    · rw [q] at e2; cases e2
    · refine e3 ?_
      rw [tk a (Nat.le_refl _)]
      exact List.mem_iff_getElem?.mpr ⟨i, by rw [List.getElem?_take, if_pos hi]; exact q⟩
  · obtain ⟨u, e1, e2, e3⟩ := h j (by omega)
    exact ⟨u, by rw [List.getElem?_set_ne (by omega)]; exact e1, e2, by rw [tk j (by omega)]; exact e3⟩
/-- what stands behind the exchange -/
def Mid (xs : List V) : Option Nat → Prop
  | none => ∀ j, j < xs.length → OkB xs j
  | some a => a < xs.length ∧ ¬ OkAt xs a ∧ ∀ j, j < a → OkB xs j
theorem mid_end {xs : List V} {w0 w1 : Option Nat} {m : Option Nat} (h : Mid xs w0) (h1 : w1 = if 30 < xs.length then some 30 else none)
    (hm : (m = none ∧ natsOf [w0, w1] = []) ∨ ∃ k : Nat, m = some k ∧ (k : Int) ∈ natsOf [w0, w1] ∧ ∀ y ∈ natsOf [w0, w1], (k : Int) ≤ y) : wrongIs xs m := by
  subst h1
  rcases hm with ⟨rfl, e⟩ | ⟨k, rfl, hk, hle⟩
  · cases w0 with
    | some a => simp [natsOf] at e
    | none =>
      by_cases q : 30 < xs.length
      · rw [if_pos q] at e; simp [natsOf] at e
      · exact fun j hj => (h j hj).at (by omega)
  · by_cases q : 30 < xs.length
    · rw [if_pos q] at hk hle
      have h30 : k ≤ 30 := by have := hle 30 (by cases w0 <;> simp [natsOf]); omega
      have ok : ∀ j, j < k → OkB xs j := fun j hj => by
        cases w0 with
        | none => exact h j (by omega)
        | some a => exact h.2.2 j (by have := hle a (by simp [natsOf]); omega)
      refine ⟨by omega, ?_, fun j hj => (ok j hj).at (by omega)⟩
      by_cases e : k = 30
      · exact fun z => z.1 e
      · cases w0 with
        | none => simp [natsOf] at hk; omega
        | some a =>
          simp [natsOf] at hk
          obtain rfl : k = a := by omega
          exact h.2.1
    · rw [if_neg q] at hk hle
      cases w0 with
      | none => simp [natsOf] at hk
      | some a =>
        simp [natsOf] at hk
        obtain rfl : k = a := by omega
        exact ⟨h.1, h.2.1, fun j hj => (h.2.2 j hj).at (by have := h.1; omega)⟩
theorem keep_none {d L : Addr} {H H' : Hp} (k : Keep d H H') (h : H' L = none) (n : L ≠ d) : H L = none := by
  cases q : H L with
  | none => rfl
  | some o => rw [k _ _ q n] at h; cases h
/-- what may stand among the items -/
def ItemV (t : Addr) (v : V) : Prop := (∃ x : Str, v = .str x ∧ x.length ≤ 1000) ∨ v = .non ∨ v = .int 5 ∨ v = .ref t
theorem ItemV.tx {K : PySem.W.Frag} {H : Hp} {t : Addr} {v : V} (h : ItemV t v) (ht : H t = some (.tup [.str "a"])) : TxtV K H v := by
  rcases h with h | rfl | rfl | rfl
  · exact .inl h
  · exact .inr ⟨_, .base .non, kit_ty (by decide +kernel)⟩
  · exact .inr ⟨_, .base (.int 5), kit_ty (by decide +kernel)⟩
  · exact .inr ⟨_, .base (.tup ht), kit_ty (by decide +kernel)⟩
def oddL (z : Str) (t : Addr) : List V := [.non, .int 5, .str "", .str ".", .str "a.", .str ".a", .str "*", .str "!a", .str "!*.a.b", .str "a.*", .str "A", .str "a_b", .str "-a", .str z, .ref t, .str "a..b", .str "!!a.b"]
theorem odd_all {z : Str} {t : Addr} (hz : tl z = (List.replicate (21 : Int).toNat (tl ("a" : Str))).flatten) : ∀ v ∈ oddL z t, ItemV t v ∧ ruV v = false := by
  have lit : ∀ x ∈ ([("" : Str), ".", "a.", ".a", "*", "!a", "!*.a.b", "a.*", "A", "a_b", "-a", "a..b", "!!a.b"] : List Str), x.length ≤ 1000 ∧ ruleB (tl x) = false := by decide +kernel
  have lz : z.length ≤ 1000 ∧ ruleB (tl z) = false := by rw [len_tl, hz]; decide +kernel
  intro v hv
  unfold oddL at hv
  simp only [List.mem_cons, List.not_mem_nil, or_false] at hv
  have st : ∀ x : Str, x.length ≤ 1000 ∧ ruleB (tl x) = false → ItemV t (.str x) ∧ ruV (.str x) = false := fun x h => ⟨.inl ⟨x, rfl, h.1⟩, h.2⟩
  rcases hv with rfl | rfl | rfl | rfl | rfl | rfl | rfl | rfl | rfl | rfl | rfl | rfl | rfl | rfl | rfl | rfl | rfl
  · exact ⟨.inr (.inl rfl), rfl⟩
  · exact ⟨.inr (.inr (.inl rfl)), rfl⟩
  · exact st _ (lit _ (by simp))
  · exact st _ (lit _ (by simp))
  · exact st _ (lit _ (by simp))
  · exact st _ (lit _ (by simp))
  · exact st _ (lit _ (by simp))
  · exact st _ (lit _ (by simp))
  · exact st _ (lit _ (by simp))
  · exact st _ (lit _ (by simp))
  · exact st _ (lit _ (by simp))
  · exact st _ (lit _ (by simp))
  · exact st _ (lit _ (by simp))
  · exact st _ lz
  · exact ⟨.inr (.inr (.inr rfl)), rfl⟩
  · exact st _ (lit _ (by simp))
  · exact st _ (lit _ (by simp))
theorem dpAll_intsL {K : PySem.W.Frag} {H : Hp} : ∀ ns : List Int, DpAll K H (ns.map V.int) (ns.map PyData.int)
  | [] => .nil
  | n :: ns => .cons (.int n) (dpAll_intsL ns)
theorem intsL_nil (ns : List Int) : PyData.eqv (.list (ns.map PyData.int)) (.list []) = decide (ns = []) := by
  cases ns <;> simp [PyData.eqv, PyData.eqvAll]
theorem lay_intsL : ∀ ns : List Int, PyData.canLayAll0 (ns.map PyData.int) = true ∧ PyData.depthAll (ns.map PyData.int) = 0
  | [] => by simp [PyData.canLayAll0, PyData.depthAll]
  | n :: ns => by
    obtain ⟨h1, h2⟩ := lay_intsL ns
    simp [PyData.canLayAll0, PyData.depthAll, PyData.canLay0, PyData.depth, h1, h2]
theorem shaped_intsL (ns : List Int) : SeqAt.shaped (.list (ns.map PyData.int)) = true := by
  obtain ⟨h1, h2⟩ := lay_intsL ns
  unfold SeqAt.shaped
  simp only [PyData.canLay0, PyData.depth, h1, h2, Bool.true_and]
  decide
def sp__law_rules (K : PySem.W.Frag) : Sp := fun vs H Q _ => ∃ (d : Addr) (n : Nat), vs = [.ref d] ∧ DrawAt H d (n + 800) ∧
  ∀ (p q t : Addr) (xs : List V) (w : Option Nat) (H' : Hp), Keep d H H' → DrawAt H' d n → H' p = some (.tup [.ref q, optN w]) → H' q = some (.tup xs) → (∀ x ∈ xs, ItemV t x) → H' t = some (.tup [.str "a"]) → xs.length ≤ 32 → wrongIs xs w → Q (.ref p) H'
/-- what is told of a call: nothing, or the error -/
def err05 (K : PySem.W.Frag) (mg : Str → Option Value) (Q : VK) : XK := fun cls d H' => ∃ (C dx : Addr) (v : V), cls = .ref C ∧ d = some dx ∧
  ((mg "BadRules" = some (.ref C) ∧ H' dx = some (.xd [(("index" : Str), v)]) ∧ ∀ p, H' p = none → Q (.ref p) (upd H' p (.tup [.str "rules", v]))) ∨
   (mg "BadHost" = some (.ref C) ∧ H' dx = some (.xd [(("place" : Str), v)]) ∧ ∀ p, H' p = none → Q (.ref p) (upd H' p (.tup [.str "host", v]))) ∨
   (mg "BadOrigin" = some (.ref C) ∧ H' dx = some (.xd [(("given" : Str), v)]) ∧ ∃ e, OkD e ∧ Dp K H' v e ∧ ∀ p, H' p = none → Q (.ref p) (upd H' p (.tup [.str "origin", .str e.shown]))))
def tt__law_told (K : PySem.W.Frag) (mg : Str → Option Value) : LT → Hp → VK → Prop := fun tl H Q => tl (err05 K mg Q) H (fun _ H' => Q .non H')
def sp_law (K : PySem.W.Frag) (Tb : Addr) : Sp := fun vs H Q _ => ∃ (a : Addr) (ns : List Int), vs = [.ref a] ∧ SqL K H a (ns.map V.int) ∧ ns.length ≤ 63 ∧ LamX.TabS H Tb qLaw ∧ ∀ H', Q (.bl true) H'
/-- a flat value and its data -/
def FlD (x : V) (y : PyData) : Prop := (x = .non ∧ y = .none) ∨ (∃ n : Int, x = .int n ∧ y = .int n) ∨ ∃ s : Str, x = .str s ∧ y = .str s ∧ ascii s
/-- what is told of a call, and its data -/
def DueV (H : Hp) (r : V) (e : PyData) : Prop := (r = .non ∧ e = .none) ∨ ∃ (q : Addr) (a : Str) (x : V) (y : PyData), r = .ref q ∧ H q = some (.tup [.str a, x]) ∧ ascii a ∧ e = .tuple [.str a, y] ∧ FlD x y
theorem FlD.dp {K : PySem.W.Frag} {H : Hp} {x : V} {y : PyData} (h : FlD x y) : Dp K H x y := by
  rcases h with ⟨rfl, rfl⟩ | ⟨n, rfl, rfl⟩ | ⟨s, rfl, rfl, _⟩
  · exact .non
  · exact .int n
  · exact .str s
theorem FlD.lay {x : V} {y : PyData} (h : FlD x y) : y.canLay0 = true ∧ y.depth = 0 := by
  rcases h with ⟨rfl, rfl⟩ | ⟨n, rfl, rfl⟩ | ⟨s, rfl, rfl, a⟩
  · simp [PyData.canLay0, PyData.depth]
  · simp [PyData.canLay0, PyData.depth]
  · exact ⟨lay_str a, by simp [PyData.depth]⟩
theorem DueV.dp {K : PySem.W.Frag} {H : Hp} {r : V} {e : PyData} (h : DueV H r e) : Dp K H r e := by
  rcases h with ⟨rfl, rfl⟩ | ⟨q, a, x, y, rfl, hq, _, rfl, f⟩
  · exact .non
  · exact .tup (SqT.of hq) (.cons (.str _) (.cons f.dp .nil))
theorem DueV.lay {H : Hp} {r : V} {e : PyData} (h : DueV H r e) : e.canLay0 = true ∧ e.depth ≤ 60 := by
  rcases h with ⟨rfl, rfl⟩ | ⟨q, a, x, y, rfl, hq, ha, rfl, f⟩
  · simp [PyData.canLay0, PyData.depth]
  · obtain ⟨f1, f2⟩ := f.lay
    have := lay_str ha
    simp [PyData.canLay0, PyData.canLayAll0, PyData.depth, PyData.depthAll, f1, f2] at this ⊢
    exact this
theorem DueV.ext {H H' : Hp} {r : V} {e : PyData} (h : DueV H r e) (s : LamX.ExtN H H') : DueV H' r e := by
  rcases h with h | ⟨q, a, x, y, e1, hq, ha, e2, f⟩
  · exact .inl h
  · exact .inr ⟨q, a, x, y, e1, s _ _ hq (fun ps z => by cases z), ha, e2, f⟩
theorem DueV.same {H H' : Hp} {r : V} {e : PyData} (h : DueV H r e) (s : Same H H') : DueV H' r e := h.ext (.of s)
theorem DueV.put {H : Hp} {r : V} {e : PyData} {p : Addr} {xs ys : List V} (h : DueV H r e) (hp : H p = some (.lst xs)) : DueV (upd H p (.lst ys)) r e := by
  rcases h with h | ⟨q, a, x, y, e1, hq, ha, e2, f⟩
  · exact .inl h
  · exact .inr ⟨q, a, x, y, e1, (upd_ne (fun z => by rw [z, hp] at hq; cases hq)).trans hq, ha, e2, f⟩
def AllDue (H : Hp) : List V → List PyData → Prop
  | [], [] => True
  | r :: rs, e :: es => DueV H r e ∧ AllDue H rs es
  | _, _ => False
theorem AllDue.ext {H H' : Hp} (s : LamX.ExtN H H') : ∀ {rs : List V} {es : List PyData}, AllDue H rs es → AllDue H' rs es
  | [], [], _ => trivial
  | _ :: _, _ :: _, h => ⟨h.1.ext s, AllDue.ext s h.2⟩
theorem AllDue.put {H : Hp} {p : Addr} {xs ys : List V} (hp : H p = some (.lst xs)) : ∀ {rs : List V} {es : List PyData}, AllDue H rs es → AllDue (upd H p (.lst ys)) rs es
  | [], [], _ => trivial
  | _ :: _, _ :: _, h => ⟨h.1.put hp, AllDue.put hp h.2⟩
theorem AllDue.snoc {H : Hp} {r : V} {e : PyData} (hr : DueV H r e) : ∀ {rs : List V} {es : List PyData}, AllDue H rs es → AllDue H (rs ++ [r]) (es ++ [e])
  | [], [], _ => ⟨hr, trivial⟩
  | _ :: _, _ :: _, h => ⟨h.1, AllDue.snoc hr h.2⟩
theorem AllDue.dp {K : PySem.W.Frag} {H : Hp} : ∀ {rs : List V} {es : List PyData}, AllDue H rs es → DpAll K H rs es
  | [], [], _ => .nil
  | _ :: _, _ :: _, h => .cons h.1.dp (AllDue.dp h.2)
theorem AllDue.lay {H : Hp} : ∀ {rs : List V} {es : List PyData}, AllDue H rs es → ∀ e ∈ es, e.canLay0 = true ∧ e.depth ≤ 60
  | [], [], _, e, he => by cases he
  | _ :: _, _ :: _, h, e, he => by
    rcases List.mem_cons.mp he with rfl | he
    · exact h.1.lay
    · exact AllDue.lay h.2 e he
/-- the data of what is due: e0 where the rules are right -/
def dueE (w : Option Nat) (e0 : PyData) : PyData := match w with
  | none => e0
  | some k => .tuple [.str "rules", .int (k : Nat)]
def bO : Option Nat → Option V
  | none => none
  | some k => some (.int (k : Nat))
theorem rul_due {K : PySem.W.Frag} {mg : Str → Option Value} {H : Hp} {Q : VK} {w : Option Nat} {e0 : PyData} (h : ∀ r H', Same H H' → DueV H' r (dueE w e0) → Q r H') : ∀ g, bO w = some g → RefO mg "BadRules" "index" g H (err05 K mg Q) := by
  intro g hg C d H' hC s hn
  cases w with
  | none => cases hg
  | some k =>
    cases hg
    exact ⟨C, d, _, rfl, rfl, .inl ⟨hC, upd_same, fun p hp => h _ _ ((s.trans (Same.new hn)).trans (Same.new hp)) (.inr ⟨p, "rules", _, _, rfl, upd_same, ascii_lit (by decide +kernel), rfl, .inr (.inl ⟨_, rfl, rfl⟩)⟩)⟩⟩
theorem NoHost.uniq {v : V} {k j : Nat} (a : NoHost v k) (b : NoHost v j) : k = j := by
  rcases a with ⟨x, rfl, a1, a2⟩ | ⟨a1, rfl⟩ <;> rcases b with ⟨y, e, b1, b2⟩ | ⟨b1, rfl⟩
  · cases e; exact a2.uniq b2
  · exact absurd rfl (b1 x)
  · exact absurd e (a1 y)
  · rfl
theorem host_due {K : PySem.W.Frag} {mg : Str → Option Value} {H : Hp} {Q : VK} {w : Option Nat} {u : V} {k : Nat} (nh : NoHost u k) (h : ∀ r H', Same H H' → DueV H' r (dueE w (.tuple [.str "host", .int (k : Nat)])) → Q r H') : bO w = none → Refuses mg H (err05 K mg Q) u := by
  intro hb j C d H' hn hC s hd
  cases w with
  | some k => cases hb
  | none =>
    have := nh.uniq hn
    subst this
    exact ⟨C, d, _, rfl, rfl, .inr (.inl ⟨hC, upd_same, fun p hp => h _ _ ((s.trans (Same.new hd)).trans (Same.new hp)) (.inr ⟨p, "host", _, _, rfl, upd_same, ascii_lit (by decide +kernel), rfl, .inr (.inl ⟨_, rfl, rfl⟩)⟩)⟩)⟩
theorem host_good {mg : Str → Option Value} {H : Hp} {E : XK} {x : Str} (hx : hostB (tl x) = true) : Refuses mg H E (.str x) := by
  intro k C d H' hn
  rcases hn with ⟨y, e, h1, _⟩ | ⟨h1, _⟩
  · cases e; rw [hx] at h1; cases h1
  · exact absurd rfl (h1 x)
theorem good_due {H : Hp} {Q : VK} {w : Option Nat} (h : ∀ r H', Same H H' → DueV H' r (dueE w .none) → Q r H') (hw : bO w = none) : ∀ H', Same H H' → Q .non H' := fun H' s => by
  cases w with
  | some k => cases hw
  | none => exact h _ _ s (.inl ⟨rfl, rfl⟩)
section
variable {K : PySem.W.Frag} {mg : Str → Option Value} {H : Hp} {q : Addr} {w : Option Nat} {Q : VK} {tl' : LT}
theorem tellN5 (ht : ∀ E Q', sp_need_rules K mg [.ref q] H Q' E → tl' E H Q') (hr : RulV K H (.ref q) (bO w)) (h : ∀ r H', Same H H' → DueV H' r (dueE w .none) → Q r H') : tt__law_told K mg tl' H Q :=
  ht _ _ ⟨_, _, rfl, hr, good_due h, rul_due h⟩
theorem tellS5 {y : Str} (ht : ∀ E Q', sp_suffix_of K mg [.ref q, .str y] H Q' E → tl' E H Q') (hr : RulV K H (.ref q) (bO w)) (hy : hostB (tl y) = true) (h : ∀ r H', Same H H' → DueV H' r (dueE w .none) → Q r H') : tt__law_told K mg tl' H Q :=
  ht _ _ ⟨_, _, _, rfl, hr, .inl ⟨y, rfl, Nat.le_trans (hostB_len hy) (by decide)⟩, rul_due h, fun _ => host_good hy, fun p rs y' hb _ _ _ _ _ _ => ⟨fun H' s _ => good_due h hb H' s, fun e H' s _ _ => good_due h hb H' s⟩⟩
theorem tellF5 {y : Str} (ht : ∀ E Q', sp_family_of K mg [.ref q, .str y] H Q' E → tl' E H Q') (hr : RulV K H (.ref q) (bO w)) (hy : hostB (tl y) = true) (h : ∀ r H', Same H H' → DueV H' r (dueE w .none) → Q r H') : tt__law_told K mg tl' H Q :=
  ht _ _ ⟨_, _, _, rfl, hr, .inl ⟨y, rfl, Nat.le_trans (hostB_len hy) (by decide)⟩, rul_due h, fun _ => host_good hy, fun p rs y' hb _ _ _ _ _ _ e H' s _ => good_due h hb H' s⟩
theorem tellI5 {y : Str} (ht : ∀ E Q', sp_is_suffix K mg [.ref q, .str y] H Q' E → tl' E H Q') (hr : RulV K H (.ref q) (bO w)) (hy : hostB (tl y) = true) (h : ∀ r H', Same H H' → DueV H' r (dueE w .none) → Q r H') : tt__law_told K mg tl' H Q :=
  ht _ _ ⟨_, _, _, rfl, hr, .inl ⟨y, rfl, Nat.le_trans (hostB_len hy) (by decide)⟩, rul_due h, fun _ => host_good hy, fun p rs y' hb _ _ _ _ H' s => good_due h hb H' s⟩
theorem not_good {u : V} {k : Nat} {y : Str} (nh : NoHost u k) (e : u = .str y) (h : hostB (tl y) = true) : False := by
  rcases nh with ⟨x, e2, h1, _⟩ | ⟨h1, _⟩
  · rw [e] at e2; cases e2; rw [h] at h1; cases h1
  · exact h1 y e
theorem tellS6 {u : V} {k : Nat} (ht : ∀ E Q', sp_suffix_of K mg [.ref q, u] H Q' E → tl' E H Q') (hr : RulV K H (.ref q) (bO w)) (hu : TxtV K H u) (nh : NoHost u k) (h : ∀ r H', Same H H' → DueV H' r (dueE w (.tuple [.str "host", .int (k : Nat)])) → Q r H') : tt__law_told K mg tl' H Q :=
  ht _ _ ⟨_, _, _, rfl, hr, hu, rul_due h, host_due nh h, fun p rs y' hb _ _ _ _ e hy => (not_good nh e hy).elim⟩
theorem tellF6 {u : V} {k : Nat} (ht : ∀ E Q', sp_family_of K mg [.ref q, u] H Q' E → tl' E H Q') (hr : RulV K H (.ref q) (bO w)) (hu : TxtV K H u) (nh : NoHost u k) (h : ∀ r H', Same H H' → DueV H' r (dueE w (.tuple [.str "host", .int (k : Nat)])) → Q r H') : tt__law_told K mg tl' H Q :=
  ht _ _ ⟨_, _, _, rfl, hr, hu, rul_due h, host_due nh h, fun p rs y' hb _ _ _ _ e hy => (not_good nh e hy).elim⟩
theorem tellI6 {u : V} {k : Nat} (ht : ∀ E Q', sp_is_suffix K mg [.ref q, u] H Q' E → tl' E H Q') (hr : RulV K H (.ref q) (bO w)) (hu : TxtV K H u) (nh : NoHost u k) (h : ∀ r H', Same H H' → DueV H' r (dueE w (.tuple [.str "host", .int (k : Nat)])) → Q r H') : tt__law_told K mg tl' H Q :=
  ht _ _ ⟨_, _, _, rfl, hr, hu, rul_due h, host_due nh h, fun p rs y' hb _ _ e hy => (not_good nh e hy).elim⟩
end
theorem tellO5 {K : PySem.W.Frag} {mg : Str → Option Value} {H : Hp} {q : Addr} {w : Option Nat} {Q : VK} {tl' : LT} {x y : Str} {e0 : PyData} (ht : ∀ E Q', (∀ po, H po = none → sp_site_of K mg [.ref q, .ref po] (upd H po (.tup [.str x, .str y])) Q' E) → tl' E H Q') (hr : RulV K H (.ref q) (bO w))
    (h1 : x.length ≤ 60 ∧ ascii x) (h2 : y.length ≤ 60 ∧ ascii y) (hok : (schV (.str x) && onV hostB (.str y)) = true → e0 = .none) (hbad : (schV (.str x) && onV hostB (.str y)) = false → e0 = .tuple [.str "origin", .str (PyData.tuple [.str x, .str y]).shown])
    (h : ∀ r H', Same H H' → DueV H' r (dueE w e0) → Q r H') : tt__law_told K mg tl' H Q := by
  refine ht _ _ fun po hpo => ?_
  have s0 := Same.new (o := HO.tup [V.str x, V.str y]) hpo
  have okd : OkD (.tuple [.str x, .str y]) := SmD.tuple (SmD.all2 (SmD.str h1.2 h1.1) (SmD.str h2.2 h2.1)) (by simp)
  refine ⟨_, _, bO w, _, rfl, hr.same s0, .inr (.inr ⟨po, .str x, .str y, rfl, upd_same, .inl ⟨x, rfl, by omega, h1.2⟩, .inl ⟨y, rfl, by omega, h2.2⟩, rfl⟩), rul_due (fun r H' s g => h r H' (s0.trans s) g), fun hb hbo C d H' hC s hn => ?_, fun p q' rs x' y' hb hbo _ _ _ _ _ _ _ e z H' s _ _ => ?_⟩
  · cases w with
    | some k => cases hb
    | none =>
      have sn := Same.new (o := HO.xd [(("given" : Str), V.ref po)]) hn
      refine ⟨C, d, _, rfl, rfl, .inr (.inr ⟨hC, upd_same, _, okd, .tup (SqT.of (sn _ _ (s _ _ upd_same))) (.cons (.str _) (.cons (.str _) .nil)), fun p hp => ?_⟩)⟩
      refine h _ _ ((s0.trans (s.trans sn)).trans (Same.new hp)) (.inr ⟨p, "origin", _, _, rfl, upd_same, ascii_lit (by decide +kernel), hbad hbo, .inr (.inr ⟨_, rfl, rfl, okd.a⟩)⟩)
  · cases w with
    | some k => cases hb
    | none => exact h _ _ (s0.trans s) (.inl ⟨rfl, hok hbo⟩)
/-- what stands in a turn -/
structure St5 (K : PySem.W.Frag) (Tb : Addr) (Hb H : Hp) (d : Addr) (n : Nat) (q t : Addr) (xs : List V) (w : Option Nat) (uv : V) : Prop where
  i : LamInv Tb Hb H
  dr : DrawAt H d n
  mq : H q = some (.tup xs)
  mt : H t = some (.tup [.str "a"])
  hx : ∀ x ∈ xs, ItemV t x
  hl : xs.length ≤ 32
  hw : wrongIs xs w
  hu : DueV H uv (dueE w .none)
section
variable {K : PySem.W.Frag} {Tb : Addr} {Hb H H' : Hp} {d : Addr} {n : Nat} {q t : Addr} {xs : List V} {w : Option Nat} {uv : V}
theorem St5.ext (a : St5 K Tb Hb H d n q t xs w uv) (e : LamX.ExtN H H') (tt : LamX.TabS H' Tb qLaw) : St5 K Tb Hb H' d n q t xs w uv :=
  ⟨a.i.ext e tt, DrawAt.ext a.dr e, e _ _ a.mq (fun ps z => by cases z), e _ _ a.mt (fun ps z => by cases z), a.hx, a.hl, a.hw, a.hu.ext e⟩
theorem St5.same (a : St5 K Tb Hb H d n q t xs w uv) (s : Same H H') : St5 K Tb Hb H' d n q t xs w uv :=
  ⟨a.i.same s, a.dr.same s, s _ _ a.mq, s _ _ a.mt, a.hx, a.hl, a.hw, a.hu.same s⟩
theorem St5.rul (a : St5 K Tb Hb H d n q t xs w uv) : RulV K H (.ref q) (bO w) := by
  refine .inr ⟨q, xs, rfl, a.mq, fun x hx => (a.hx x hx).tx a.mt, Nat.le_trans a.hl (by decide), ?_⟩
  have hw := a.hw
  cases w with
  | none => exact .inl ⟨hw, rfl⟩
  | some k => exact .inr ⟨k, hw, rfl⟩
/-- with a list that grows -/
structure Ch5 (K : PySem.W.Frag) (Tb : Addr) (Hb H : Hp) (d : Addr) (n : Nat) (q t : Addr) (xs : List V) (w : Option Nat) (uv : V) (p : Addr) (rs : List V) (es : List PyData) : Prop where
  s : St5 K Tb Hb H d n q t xs w uv
  m : H p = some (.lst rs)
  a : AllDue H rs es
  f : FreshN Hb p
  n : d ≠ p
variable {p : Addr} {rs : List V} {es : List PyData}
theorem Ch5.ext (a : Ch5 K Tb Hb H d n q t xs w uv p rs es) (e : LamX.ExtN H H') (tt : LamX.TabS H' Tb qLaw) : Ch5 K Tb Hb H' d n q t xs w uv p rs es :=
  ⟨a.s.ext e tt, e _ _ a.m (fun ps z => by cases z), a.a.ext e, a.f, a.n⟩
theorem Ch5.same (a : Ch5 K Tb Hb H d n q t xs w uv p rs es) (s : Same H H') : Ch5 K Tb Hb H' d n q t xs w uv p rs es :=
  ⟨a.s.same s, s _ _ a.m, a.a.ext (.of s), a.f, a.n⟩
theorem Ch5.app {r : V} {e : PyData} (a : Ch5 K Tb Hb H d n q t xs w uv p rs es) (hr : DueV H r e) : Ch5 K Tb Hb (upd H p (.lst (rs ++ [r]))) d n q t xs w uv p (rs ++ [r]) (es ++ [e]) := by
  have ne : ∀ {b : Addr} {ys : List V}, H b = some (.tup ys) → b ≠ p := fun h z => by rw [z, a.m] at h; cases h
  exact ⟨⟨a.s.i.put a.f a.m, a.s.dr.upd a.n, (upd_ne (ne a.s.mq)).trans a.s.mq, (upd_ne (ne a.s.mt)).trans a.s.mt, a.s.hx, a.s.hl, a.s.hw, a.s.hu.put a.m⟩, upd_same, AllDue.put a.m (AllDue.snoc hr a.a), a.f, a.n⟩
end
theorem tellQ5 {K : PySem.W.Frag} {mg : Str → Option Value} {H : Hp} {v : V} {t : Value} {Q : VK} {tl' : LT} (ht : ∀ E Q', sp_need_rules K mg [v] H Q' E → tl' E H Q') (h1 : TyX K H v t) (h2 : PySem.W.kitOne K t (.type "tuple") = some false) (h : ∀ r H', Same H H' → DueV H' r (.tuple [.str "rules", .none]) → Q r H') : tt__law_told K mg tl' H Q := by
  refine ht _ _ ⟨v, some .non, rfl, .inl ⟨t, h1, h2, rfl⟩, (fun z => nomatch z), fun g hg C d H' hC s hn => ?_⟩
  cases hg
  exact ⟨C, d, _, rfl, rfl, .inl ⟨hC, upd_same, fun p hp => h _ _ ((s.trans (Same.new hn)).trans (Same.new hp)) (.inr ⟨p, "rules", _, _, rfl, upd_same, ascii_lit (by decide +kernel), rfl, .inl ⟨rfl, rfl⟩⟩)⟩⟩
theorem ftp_shown : PyData.tuple [.str "origin", .str "('ftp', 'a')"] = .tuple [.str "origin", .str (PyData.tuple [.str "ftp", .str "a"]).shown] := by
  rw [show (PyData.tuple [.str "ftp", .str "a"]).shown = "('ftp', 'a')" by decide +kernel]
theorem xa_host : hostB (tl ("x.a" : Str)) = true := by decide +kernel
theorem no_empty : NoHost (.str ("" : Str)) 1 := .inl ⟨_, rfl, by decide +kernel, .inl ⟨by decide +kernel, fun j hj => absurd hj (by rw [show (tl ("" : Str)).length = 0 by decide +kernel]; omega)⟩⟩
theorem no_non : NoHost .non 0 := .inr ⟨(fun x h => nomatch h), rfl⟩
theorem no_dots : NoHost (.str ("a..b" : Str)) 3 := .inl ⟨_, rfl, by decide +kernel, .inr ⟨by decide, by decide +kernel, by decide +kernel, fun j hj => by
  have : ∀ j, j < 2 → beginsB ((tl ("a..b" : Str)).take (j + 1)) = true := by decide +kernel
  exact this j (by omega)⟩⟩
section
variable {P : Program} {w : World} {K : PySem.W.Frag} {mg : Str → Option Value} {base : Heap}
theorem ok_has_only (T : Txt K mg) : Cal P w K mg base CX0 1 "has_only" ["text", "signs"] sp_has_only := by
  refine T.d_has_only.ok0 sc_has_only (fun vs H Q E h => ?_) (fun f cdv A outer s H vs Q E hr h => ?_)
  · first | (obtain ⟨_, rfl, _⟩ := h; rfl) | (obtain ⟨_, _, rfl, _⟩ := h; rfl) | (obtain ⟨_, _, _, rfl, _⟩ := h; rfl) | (obtain ⟨_, _, _, _, rfl, _⟩ := h; rfl) | (obtain ⟨_, _, _, _, _, rfl, _⟩ := h; rfl)
  · refine ⟨_, (pss_one (ps_ret (pe_and (pe_cmpR (op_ne) (pv 0) pe_str (nomark _)) (pe_one (pe_cmpR (op_eq) (pe_m1 PySem.F.slot_str_strip PySem.F.type_str_strip mt_stripChars (pv 0) (pv 1)) pe_str (nomark _)))))), ?_⟩
    obtain ⟨x, g, rfl, hx, hQ⟩ := h
    rw [← strip_only] at hQ
    refine ⟨_, rfl, rfl, _, rfl, ?_⟩
    cases hz : (!decide (V.str x = V.str ("" : Str))) with
    | false => rw [hz, Bool.false_and] at hQ; exact iteF hQ
    | true =>
      rw [hz, Bool.true_and] at hQ
      exact iteT ⟨_, rfl, ⟨_, rfl⟩, _, rfl, _, _, rfl, rfl, Nat.le_trans hx (by decide), rfl, hQ⟩
theorem ok__is_label (T : Txt K mg) : Cal P w K mg base CX0 2 "_is_label" ["text"] sp__is_label := by
  refine T.d__is_label.ok0 sc__is_label (fun vs H Q E h => ?_) (fun f cdv A outer s H vs Q E hr h => ?_)
  · first | (obtain ⟨_, rfl, _⟩ := h; rfl) | (obtain ⟨_, _, rfl, _⟩ := h; rfl) | (obtain ⟨_, _, _, rfl, _⟩ := h; rfl) | (obtain ⟨_, _, _, _, rfl, _⟩ := h; rfl) | (obtain ⟨_, _, _, _, _, rfl, _⟩ := h; rfl)
  · refine ⟨_, (pss_cons (ps_if (PW.pt (pw_or (pt_cmpR (op_gt) (pe_callB call_len_str (by rfl) T.b_len (by decide +kernel) (pa_cons (pv 0) pa_nil)) (pe_gc (by rfl) T.c_MOST_OF_LABEL) (nomark _)) (pw_or1 (pt_not (pt_val (pe_c (ok_has_only T) hr (by decide) (by rfl) pass0 (pa_cons (pv 0) (pa_cons (pe_gc (by rfl) T.c_LABEL_SIGNS) pa_nil))))))))
      (pss_one (ps_ret pe_bl))
      pss_nil)
      (pss_one (ps_ret (pe_and (pe_cmpR (op_ne) (pe_ix ix_str (pv 0) pe_int (fun _ _ => rfl)) pe_str (nomark _)) (pe_one (pe_cmpR (op_ne) (pe_ix ix_str (pv 0) (pe_un un_neg pe_int) (fun _ _ => rfl)) pe_str (nomark _))))))), ?_⟩
    obtain ⟨x, rfl, hx, hQ⟩ := h
    refine ⟨_, rfl, x, rfl, Nat.le_trans hx (by decide), _, _, rfl, rfl, _, rfl, iteB (fun h1 => ?_) (fun h1 => ?_)⟩
    · have h1 : (20 : Int) < (x.length : Int) := of_decide_eq_true h1
      have e : labB (tl x) = false := by
        unfold labB
        rw [decide_eq_false (by rw [len_tl] at h1; omega), Bool.false_and]
      rw [e] at hQ
      exact hQ
    have h1 : ¬ (20 : Int) < (x.length : Int) := of_decide_eq_false h1
    have hl : (tl x).length ≤ 20 := by rw [len_tl] at h1; omega
    unfold labB at hQ
    rw [decide_eq_true hl, Bool.true_and] at hQ
    refine ⟨_, rfl, x, _, rfl, hx, ?_⟩
    rw [tl_lsig]
    refine ⟨_, rfl, ?_⟩
    cases h2 : onlyB lsig (tl x) with
    | false =>
      rw [h2, Bool.false_and] at hQ
      exact iteT hQ
    | true =>
      rw [h2, Bool.true_and] at hQ
      refine iteF ?_
      have hne : tl x ≠ [] := by
        unfold onlyB at h2
        rw [Bool.and_eq_true, decide_eq_true_eq] at h2
        exact h2.2
      obtain ⟨r, d, er⟩ := snoc_of_ne hne
      obtain ⟨a, r2, ea⟩ : ∃ a r2, tl x = a :: r2 := List.exists_cons_of_ne_nil hne
      have h0 : atI x.cps.toList 0 = some a := by show atI (tl x) ((0 : Nat) : Int) = _; rw [ea]; exact atI_nat rfl
      have hz : atI x.cps.toList (-1) = some d := by show atI (tl x) (-1) = _; rw [er]; exact atI_last r d
      have e1 : (tl x).head? = some a := by rw [ea]; rfl
      have e2 : (tl x).getLast? = some d := by rw [er, List.getLast?_concat]
      rw [e1, e2] at hQ
      refine ⟨_, rfl, x, _, a, rfl, rfl, Nat.le_trans hx (by decide), h0, rfl, _, rfl, ?_⟩
      rw [one_dash]
      have e3 : decide (some a ≠ some 45) = !decide (a = 45) := by rw [Bool.eq_iff_iff]; simp
      have e4 : decide (some d ≠ some 45) = !decide (d = 45) := by rw [Bool.eq_iff_iff]; simp
      rw [e3, e4] at hQ
      cases h3 : decide (a = 45) with
      | true =>
        rw [h3] at hQ
        exact iteF hQ
      | false =>
        rw [h3] at hQ
        refine iteT ⟨_, rfl, _, rfl, x, _, d, rfl, rfl, Nat.le_trans hx (by decide), hz, rfl, ?_⟩
        rw [one_dash]
        exact hQ
theorem ok_are_labels (T : Txt K mg) : Cal P w K mg base CX0 3 "are_labels" ["texts"] (sp_are_labels K) := by
  refine T.d_are_labels.ok0 sc_are_labels (fun vs H Q E h => ?_) (fun f cdv A outer s H vs Q E hr h => ?_)
  · first | (obtain ⟨_, rfl, _⟩ := h; rfl) | (obtain ⟨_, _, rfl, _⟩ := h; rfl) | (obtain ⟨_, _, _, rfl, _⟩ := h; rfl) | (obtain ⟨_, _, _, _, rfl, _⟩ := h; rfl) | (obtain ⟨_, _, _, _, _, rfl, _⟩ := h; rfl)
  · refine ⟨_, (pss_cons (ps_for PassesOwn.never rfl (pi_list (pv 0)) (pg_name (i := 1) sc_are_labels.nd rfl (by first | exact Or.inl rfl | exact Or.inr rfl))
      (pss_one (ps_if (pt_not (pt_val (pe_c (ok__is_label T) hr (by decide) (by rfl) pass0 (pa_cons (pv 1) pa_nil))))
      (pss_one (ps_ret pe_bl))
      pss_nil)))
      (pss_one (ps_ret pe_bl))), ?_⟩
    obtain ⟨p, xs, rfl, hp, hx, hQ⟩ := h
    refine ⟨_, rfl, p, rfl, ⟨_, hp⟩, for_list (K := K) (a := p) (xs := xs.map V.str) (fun i σ H1 => ∃ sv, σ = [some (.ref p), sv] ∧ H1 = H ∧ ((xs.take i).map tl).all labB = true) ⟨none, rfl, rfl, by simp⟩ (fun i σ H1 _ ⟨_, _, e, _⟩ => by rw [e]; exact hp) ?_ ?_⟩
    · rintro i v σ H1 hi ⟨sv, rfl, rfl, ha⟩
      obtain ⟨x, hxi, rfl⟩ := strAt hi
      refine ⟨_, rfl, x, rfl, hx x (List.mem_of_getElem? hxi), _, rfl, ?_⟩
      cases hl : labB (tl x) with
      | true => exact iteF ⟨_, rfl, rfl, by rw [allS_at hxi, ha, hl]; rfl⟩
      | false =>
        have e : (xs.map tl).all labB = false := by
          rw [List.all_eq_false]
          exact ⟨tl x, List.mem_map.mpr ⟨x, List.mem_of_getElem? hxi, rfl⟩, by rw [hl]; exact Bool.false_ne_true⟩
        rw [e] at hQ
        exact iteT hQ
    · rintro σ H1 ⟨sv, rfl, rfl, ha⟩
      rw [List.length_map, List.take_length] at ha
      rw [ha] at hQ
      exact hQ
theorem ok__is_rule (T : Txt K mg) : Cal P w K mg base CX0 4 "_is_rule" ["value"] (sp__is_rule K) := by
  refine T.d__is_rule.ok0 sc__is_rule (fun vs H Q E h => ?_) (fun f cdv A outer s H vs Q E hr h => ?_)
  · first | (obtain ⟨_, rfl, _⟩ := h; rfl) | (obtain ⟨_, _, rfl, _⟩ := h; rfl) | (obtain ⟨_, _, _, rfl, _⟩ := h; rfl) | (obtain ⟨_, _, _, _, rfl, _⟩ := h; rfl) | (obtain ⟨_, _, _, _, _, rfl, _⟩ := h; rfl)
  · refine ⟨_, (pss_cons (ps_if (pt_not (pt_val (pe_callB call_isi (by rfl) T.b_isinstance (by decide +kernel) (pa_cons (pv 0) (pa_cons (pe_bltn (v := .ty "str") (by rfl) T.b_str (by decide +kernel) rfl) pa_nil)))))
      (pss_one (ps_ret pe_bl))
      pss_nil)
      (pss_cons (ps_if (pt_val (pe_m1 PySem.F.slot_str_startswith PySem.F.type_str_startswith mt_startswith (pv 0) (pe_gc (by rfl) T.c_EXCEPTION)))
      (pss_cons (ps_set (i := 1) sc__is_rule.nd rfl (by first | exact Or.inl rfl | exact Or.inr rfl) (pe_split (pe_slice sl_str (pv 0) (po_some pe_int) po_none) pe_str))
      (pss_one (ps_ret (pe_and (pe_cmpR (op_gt) (pe_callB call_len_seq (by rfl) T.b_len (by decide +kernel) (pa_cons (pv 1) pa_nil)) pe_int (nomark _)) (pe_one (pe_c (ok_are_labels T) hr (by decide) (by rfl) pass0 (pa_cons (pv 1) pa_nil)))))))
      pss_nil)
      (pss_one (ps_ret (pe_c (ok_are_labels T) hr (by decide) (by rfl) pass0 (pa_cons (pe_split (pe_m1 PySem.F.slot_str_removeprefix PySem.F.type_str_removeprefix mt_removeprefix (pv 0) (pe_op op_add_str (pe_gc (by rfl) T.c_ANY) pe_str)) pe_str) pa_nil)))))), ?_⟩
    obtain ⟨v, rfl, hv, hQ⟩ := h
    rcases hv with ⟨x, rfl, hx⟩ | ⟨t, ht, hk⟩
    rotate_left
    · have e : ruV v = false := by
        have := ty_nostr ht hk
        cases v with
        | str x => exact absurd rfl (this x)
        | _ => rfl
      rw [e] at hQ
      exact ⟨_, rfl, _, _, _, _, false, rfl, .ty _, ht, hk, _, rfl, iteT (hQ _ (Same.refl _))⟩
    have hQ : ∀ H' : Hp, Same H H' → Q (.bl (ruleB (tl x))) H' := hQ
    refine ⟨_, rfl, _, _, _, _, true, rfl, .ty _, .base (.str x), kit_str K, _, rfl, iteF ?_⟩
    refine ⟨_, rfl, ⟨_, rfl⟩, _, _, rfl, rfl, _, rfl, ?_⟩
    rw [bang_exc2]
    unfold ruleB at hQ
    cases hx1 : excT (tl x) with
    | true =>
      rw [hx1, if_pos rfl] at hQ
      have el : (cutS x (some 1) none).length ≤ 1000 := by
        rw [len_tl, cutS_from x (by decide), List.length_drop, ← len_tl]
        omega
      have ep : tl (cutS x (some 1) none) = (tl x).tail := by rw [cutS_from x (by decide), ← List.drop_one]; rfl
      refine iteT ⟨_, rfl, _, rfl, x, rfl, Nat.le_trans hx (by decide), ⟨_, rfl⟩, _, _, rfl, rfl, by decide +kernel, Nat.le_trans (by omega : _ ≤ 100000) (by decide), fun p hp => ?_⟩
      have e1 := split_sp1 (cutS x (some 1) none) (c := 46) (by decide)
      have ml : ∀ p ∈ Txt.split (cutS x (some 1) none) ⟨#[46]⟩, p.length ≤ 1000 := fun p hp => Nat.le_trans (split_mem_len (c := 46) (by decide) hp) el
      rw [← dot_eq] at e1 ml
      rw [ep] at e1
      rw [← e1] at hQ
      generalize Txt.split (cutS x (some 1) none) ("." : Str) = P at *
      have s1 := Same.new (o := HO.lst (P.map V.str)) hp
      have m1 : (upd H p (.lst (P.map V.str))) p = some (.lst (P.map V.str)) := upd_same
      generalize upd H p (.lst (P.map V.str)) = H1 at s1 m1 ⊢
      refine ⟨_, rfl, p, _, rfl, .inl (SqL.of m1), _, _, rfl, rfl, ?_⟩
      refine ⟨_, rfl, iteB (fun h2 => ?_) (fun h2 => ?_)⟩
      · have h2 : (1 : Int) < ((P.map V.str).length : Int) := of_decide_eq_true h2
        rw [List.length_map] at h2
        rw [decide_eq_true (by rw [List.length_map]; omega), Bool.true_and] at hQ
        exact ⟨_, rfl, p, P, rfl, SqL.of m1, fun y hy => Nat.le_trans (ml y hy) (by decide), hQ _ s1⟩
      · have h2 : ¬ (1 : Int) < ((P.map V.str).length : Int) := of_decide_eq_false h2
        rw [List.length_map] at h2
        rw [decide_eq_false (by rw [List.length_map]; omega), Bool.false_and] at hQ
        exact hQ _ s1
    | false =>
      rw [hx1, if_neg Bool.false_ne_true] at hQ
      refine iteF ?_
      obtain ⟨y, ey, hy, eq⟩ : ∃ y : Str, Txt.removeprefix x (("*" : Str) ++ ("." : Str)) = y ∧ y.length ≤ 1000 ∧ tl y = (if [42, 46].isPrefixOf (tl x) = true then (tl x).drop 2 else tl x) := by
        refine ⟨_, rfl, ?_⟩
        by_cases g : [42, 46].isPrefixOf (tl x) = true
        · obtain ⟨u, eu⟩ := List.isPrefixOf_iff_prefix.mp g
          have h1 := removeprefix_hit (x := x) (y := ("*" : Str) ++ ("." : Str)) (b := u) (by rw [tl_stardot, eu])
          rw [if_pos g, len_tl, h1, ← eu]
          rw [len_tl, ← eu] at hx
          exact ⟨by rw [List.length_append] at hx; omega, rfl⟩
        · rw [if_neg g, removeprefix_miss (by rw [tl_stardot]; exact fun q => g (List.isPrefixOf_iff_prefix.mpr q))]
          exact ⟨hx, rfl⟩
      rw [← eq] at hQ
      refine ⟨_, rfl, ⟨_, rfl⟩, _, _, rfl, rfl, by decide +kernel, _, _, rfl, rfl, Nat.le_trans hx (by decide), ?_⟩
      rw [ey]
      have e1 := split_sp1 y (c := 46) (by decide)
      have ml : ∀ p ∈ Txt.split y ⟨#[46]⟩, p.length ≤ 1000 := fun p hp => Nat.le_trans (split_mem_len (c := 46) (by decide) hp) hy
      rw [← dot_eq] at e1 ml
      rw [← e1] at hQ
      refine ⟨⟨_, rfl⟩, _, _, rfl, rfl, by decide +kernel, Nat.le_trans (by omega : _ ≤ 100000) (by decide), fun p hp => ?_⟩
      exact ⟨p, _, rfl, SqL.of upd_same, fun z hz => Nat.le_trans (ml z hz) (by decide), hQ _ (Same.new hp)⟩
theorem ok_need_rules (T : Txt K mg) : Cal P w K mg base (L2.CX P w) 5 "need_rules" ["rules"] (sp_need_rules K mg) := by
  refine T.d_need_rules.okX sc_need_rules (fun vs H Q E h => ?_) (fun f cdv A outer s H vs Q E hr h => ?_)
  · first | (obtain ⟨_, rfl, _⟩ := h; rfl) | (obtain ⟨_, _, rfl, _⟩ := h; rfl) | (obtain ⟨_, _, _, rfl, _⟩ := h; rfl) | (obtain ⟨_, _, _, _, rfl, _⟩ := h; rfl) | (obtain ⟨_, _, _, _, _, rfl, _⟩ := h; rfl)
  · obtain ⟨C_BadRules, e_BadRules⟩ := T.e_BadRules
    refine ⟨_, (pss_cons (ps_if (pt_not (pt_val (pe_callB call_isi (by rfl) T.b_isinstance (by decide +kernel) (pa_cons (pv 0) (pa_cons (pe_bltn (v := .ty "tuple") (by rfl) T.b_tuple (by decide +kernel) rfl) pa_nil)))))
      (pss_one (ps_raiseE rfl e_BadRules hr (by decide) pass0 (takes_of rfl rfl rfl rfl) (pa_cons pe_non pa_nil) (by rfl)))
      pss_nil)
      (pss_one (ps_for (passes_of rfl) rfl (pi_enumT (by rfl) T.b_enumerate (pa_cons (pv 0) pa_nil)) (pg_tup rfl (pgs_cons (pg_name (i := 1) sc_need_rules.nd rfl (by first | exact Or.inl rfl | exact Or.inr rfl)) (pgs_cons (pg_name (i := 2) sc_need_rules.nd rfl (by first | exact Or.inl rfl | exact Or.inr rfl)) pgs_nil)))
      (pss_one (ps_if (PW.pt (pw_or (pt_cmpR (op_eq) (pv 1) (pe_gc (by rfl) T.c_MOST_RULES) (nomark _)) (pw_or (pt_not (pt_val (pe_c (ok__is_rule T) hr (by decide) (by rfl) pass0 (pa_cons (pv 2) pa_nil)))) (pw_or1 (pt_cmpR (op_in_seq) (pv 2) (pe_slice sl_tupA (pv 0) po_none (po_some (pv 1))) (by with_unfolding_all rfl))))))
      (pss_one (ps_raiseE rfl e_BadRules hr (by decide) pass0 (takes_of rfl rfl rfl rfl) (pa_cons (pv 1) pa_nil) (by rfl)))
      pss_nil))))), ?_⟩
    obtain ⟨v, b, rfl, hv, q1, q2⟩ := h
    rcases hv with ⟨t, ht, hk, rfl⟩ | ⟨p, xs, rfl, hp, hx, hl, hb⟩
    · exact ⟨_, rfl, _, _, _, _, false, rfl, .ty _, ht, hk, _, rfl, iteT ⟨_, rfl, fun d hd => q2 .non rfl C_BadRules d _ e_BadRules.g (Same.refl _) hd⟩⟩
    have fin : ∀ i d H1, i < xs.length → ¬ OkAt xs i → (∀ j, j < i → OkAt xs j) → Same H H1 → H1 d = none → E (.ref C_BadRules) (some d) (L2.upd H1 d (.xd [(("index" : Str), .int (i : Nat))])) := by
      intro i d H1 hi hw ho s hd
      rcases hb with ⟨ha, _⟩ | ⟨k, hk, rfl⟩
      · exact absurd (ha i hi) hw
      · obtain rfl : k = i := by
          rcases Nat.lt_trichotomy k i with q | q | q
          · exact absurd (ho k q) hk.2.1
          · exact q
          · exact absurd (hk.2.2 i q) hw
        exact q2 _ rfl C_BadRules d _ e_BadRules.g s hd
    refine ⟨_, rfl, _, _, _, _, true, rfl, .ty _, .base (.tup hp), kit_ty (by decide +kernel), _, rfl, iteF ?_⟩
    refine ⟨_, rfl, p, _, rfl, SqT.of hp, for_enumT (K := K) (a := p) (xs := xs) (fun i σ H1 => ∃ v1 v2, σ = [some (.ref p), v1, v2] ∧ Same H H1 ∧ ∀ j, j < i → OkAt xs j) ⟨none, none, rfl, Same.refl _, fun j hj => absurd hj (Nat.not_lt_zero j)⟩ (fun i σ H1 _ ⟨_, _, _, s, _⟩ => SqT.of (s _ _ hp)) ?_ ?_⟩
    · rintro i v T σ H1 hi ⟨v1, v2, rfl, s1, ho⟩ hT
      have hil := (List.getElem?_eq_some_iff.mp hi).1
      have s2 := s1.trans (Same.new (o := HO.tup [V.int (i : Nat), v]) hT)
      refine ⟨T, _, rfl, SqT.of upd_same, rfl, _, _, rfl, _, _, rfl, rfl, ?_⟩
      generalize upd H1 T (.tup [V.int (i : Nat), v]) = H2 at s2 ⊢
      refine ⟨_, rfl, rfl, _, rfl, iteB (fun h30 => ?_) (fun h30 => ?_)⟩
      · have h30 : i = 30 := by rw [dec_int] at h30; have := beq_iff_eq.mp h30; omega
        exact iteT ⟨_, rfl, _, rfl, fun d hd => fin i d _ hil (fun z => z.1 h30) ho s2 hd⟩
    
      have h30 : i ≠ 30 := fun e => by rw [dec_int] at h30; exact beq_eq_false_iff_ne.mp h30 (by omega)
      refine ⟨_, rfl, v, rfl, (hx v (List.mem_of_getElem? hi)).same s2, fun H3 s3 => ⟨_, rfl, ?_⟩⟩
      have s4 := s2.trans s3
      cases hru : ruV v with
      | false => exact iteT (iteT ⟨_, rfl, _, rfl, fun d hd => fin i d _ hil (fun ⟨_, v', e1, e2, _⟩ => by rw [hi] at e1; cases e1; rw [hru] at e2; cases e2) ho s4 hd⟩)
      | true =>
        refine iteF ?_
        have hq := SqT.of (K := K) (s4 _ _ hp)
        obtain ⟨r, rfl⟩ : ∃ r : Str, v = .str r := by
          cases v with
          | str x => exact ⟨x, rfl⟩
          | _ => cases hru
        refine ⟨_, rfl, _, rfl, _, rfl, _, rfl, p, _, rfl, hq, fun hw => ?_, fun _ p2 hp2 => ?_⟩
        · exfalso
          have := hw.2
          rw [show HT.sIx xs.length xs.length (some ((i : Nat) : Int)) = min i xs.length from HT.sIx_nat _ _ _] at this
          omega
        · rw [cutV_to _ (by omega : (0 : Int) ≤ (i : Nat)), Int.toNat_natCast]
          obtain ⟨rs, ers, nd, hr, hl2, h30'⟩ := ok_strs i (by omega) ho
          rw [ers]
          have s5 := s4.trans (Same.new (o := HO.tup (rs.map V.str)) hp2)
          refine ⟨p2, _, rfl, .inr (SqT.of upd_same), rfl, flat_strs _, ?_⟩
          rw [in_strs]
          refine ⟨_, rfl, ?_⟩
          refine iteB (fun hin => ?_) (fun hin => ?_)
          · have hin : r ∈ rs := of_decide_eq_true hin
            refine ⟨_, rfl, _, rfl, fun d hd => fin i d _ hil (fun ⟨_, v', e1, _, e3⟩ => ?_) ho s5 hd⟩
            rw [hi] at e1; cases e1
            exact e3 (by rw [ers]; exact List.mem_map.mpr ⟨r, hin, rfl⟩)
          · have hin : r ∉ rs := of_decide_eq_false hin
            refine ⟨_, _, rfl, s5, fun j hj => ?_⟩
            rcases Nat.lt_succ_iff_lt_or_eq.mp hj with q | rfl
            · exact ho j q
            · refine ⟨h30, _, hi, hru, fun z => ?_⟩
              rw [ers] at z
              obtain ⟨y, hy, e⟩ := List.mem_map.mp z
              cases e
              exact hin hy
    · rintro σ H1 ⟨v1, v2, rfl, s1, ho⟩
      rcases hb with ⟨ha, rfl⟩ | ⟨k, hk, _⟩
      · exact q1 rfl _ s1
      · exact absurd (ho k hk.1) hk.2.1
theorem ok_is_digits (T : Txt K mg) : Cal P w K mg base CX0 2 "is_digits" ["text"] sp_is_digits := by
  refine T.d_is_digits.ok0 sc_is_digits (fun vs H Q E h => ?_) (fun f cdv A outer s H vs Q E hr h => ?_)
  · first | (obtain ⟨_, rfl, _⟩ := h; rfl) | (obtain ⟨_, _, rfl, _⟩ := h; rfl) | (obtain ⟨_, _, _, rfl, _⟩ := h; rfl) | (obtain ⟨_, _, _, _, rfl, _⟩ := h; rfl) | (obtain ⟨_, _, _, _, _, rfl, _⟩ := h; rfl)
  · refine ⟨_, (pss_one (ps_ret (pe_c (ok_has_only T) hr (by decide) (by rfl) pass0 (pa_cons (pv 0) (pa_cons (pe_gc (by rfl) T.c_DIGITS) pa_nil))))), ?_⟩
    obtain ⟨x, rfl, hx, hQ⟩ := h
    exact ⟨_, rfl, x, _, rfl, hx, by rw [tl_digs]; exact hQ⟩
theorem ok__is_number (T : Txt K mg) : Cal P w K mg base CX0 3 "_is_number" ["label"] sp__is_number := by
  refine T.d__is_number.ok0 sc__is_number (fun vs H Q E h => ?_) (fun f cdv A outer s H vs Q E hr h => ?_)
  · first | (obtain ⟨_, rfl, _⟩ := h; rfl) | (obtain ⟨_, _, rfl, _⟩ := h; rfl) | (obtain ⟨_, _, _, rfl, _⟩ := h; rfl) | (obtain ⟨_, _, _, _, rfl, _⟩ := h; rfl) | (obtain ⟨_, _, _, _, _, rfl, _⟩ := h; rfl)
  · refine ⟨_, (pss_cons (ps_if (PW.pt (pw_or (pt_not (pt_val (pe_c (ok_is_digits T) hr (by decide) (by rfl) pass0 (pa_cons (pv 0) pa_nil)))) (pw_or1 (pt_cmpR (op_gt) (pe_callTy call_int_str (by rfl) T.b_int (by decide +kernel) (pa_cons (pv 0) pa_nil)) (pe_gc (by rfl) T.c_MOST_OF_NUMBER) (nomark _)))))
      (pss_one (ps_ret pe_bl))
      pss_nil)
      (pss_one (ps_ret (pe_or (pe_cmpR (op_eq) (pv 0) pe_str (nomark _)) (pe_one (pe_cmpR (op_ne) (pe_ix ix_str (pv 0) pe_int (fun _ _ => rfl)) pe_str (nomark _))))))), ?_⟩
    obtain ⟨x, rfl, hx, hQ⟩ := h
    unfold numB at hQ
    refine ⟨_, rfl, x, rfl, Nat.le_trans hx (by decide), _, rfl, ?_⟩
    cases h1 : digB (tl x) with
    | false =>
      rw [h1, Bool.false_and] at hQ
      exact iteT hQ
    | true =>
      rw [h1, Bool.true_and] at hQ
      refine iteF ⟨_, rfl, x, _, rfl, int_dig h1 hx, hx, _, _, rfl, rfl, _, rfl, ?_⟩
      refine iteB (fun h2 => ?_) (fun h2 => ?_)
      · have h2 : (255 : Int) < ((NumText.digitsVal (tl x) : Nat) : Int) := of_decide_eq_true h2
        rw [decide_eq_false (by omega), Bool.false_and] at hQ
        exact hQ
      · have h2 : ¬ (255 : Int) < ((NumText.digitsVal (tl x) : Nat) : Int) := of_decide_eq_false h2
        rw [decide_eq_true (by omega), Bool.true_and] at hQ
        refine ⟨_, rfl, rfl, _, rfl, ?_⟩
        rw [str_zero]
        cases h3 : decide (tl x = [48]) with
        | true =>
          rw [h3, Bool.true_or] at hQ
          exact iteT hQ
        | false =>
          rw [h3, Bool.false_or] at hQ
          obtain ⟨a, r2, ea⟩ : ∃ a r2, tl x = a :: r2 := List.exists_cons_of_ne_nil (digB_iff.mp h1).2
          have h0 : atI x.cps.toList 0 = some a := by show atI (tl x) ((0 : Nat) : Int) = _; rw [ea]; exact atI_nat rfl
          refine iteF ⟨_, rfl, x, _, a, rfl, rfl, Nat.le_trans hx (by decide), h0, rfl, ?_⟩
          rw [one_zero]
          have e3 : decide ((tl x).head? ≠ some 48) = !decide (a = 48) := by rw [ea, Bool.eq_iff_iff]; simp
          rw [e3] at hQ
          exact hQ
theorem ok__are_four_numbers (T : Txt K mg) : Cal P w K mg base CX0 4 "_are_four_numbers" ["labels"] (sp__are_four_numbers K) := by
  refine T.d__are_four_numbers.ok0 sc__are_four_numbers (fun vs H Q E h => ?_) (fun f cdv A outer s H vs Q E hr h => ?_)
  · first | (obtain ⟨_, rfl, _⟩ := h; rfl) | (obtain ⟨_, _, rfl, _⟩ := h; rfl) | (obtain ⟨_, _, _, rfl, _⟩ := h; rfl) | (obtain ⟨_, _, _, _, rfl, _⟩ := h; rfl) | (obtain ⟨_, _, _, _, _, rfl, _⟩ := h; rfl)
  · refine ⟨_, (pss_cons (ps_for PassesOwn.never rfl (pi_list (pv 0)) (pg_name (i := 1) sc__are_four_numbers.nd rfl (by first | exact Or.inl rfl | exact Or.inr rfl))
      (pss_one (ps_if (pt_not (pt_val (pe_c (ok__is_number T) hr (by decide) (by rfl) pass0 (pa_cons (pv 1) pa_nil))))
      (pss_one (ps_ret pe_bl))
      pss_nil)))
      (pss_one (ps_ret (pe_cmpR (op_eq) (pe_callB call_len_seq (by rfl) T.b_len (by decide +kernel) (pa_cons (pv 0) pa_nil)) pe_int (nomark _))))), ?_⟩
    obtain ⟨p, xs, rfl, hp, hx, hQ⟩ := h
    refine ⟨_, rfl, p, rfl, ⟨_, hp⟩, for_list (K := K) (a := p) (xs := xs.map V.str) (fun i σ H1 => ∃ sv, σ = [some (.ref p), sv] ∧ H1 = H ∧ ((xs.take i).map tl).all numB = true) ⟨none, rfl, rfl, by simp⟩ (fun i σ H1 _ ⟨_, _, e, _⟩ => by rw [e]; exact hp) ?_ ?_⟩
    · rintro i v σ H1 hi ⟨sv, rfl, rfl, ha⟩
      obtain ⟨x, hxi, rfl⟩ := strAt hi
      refine ⟨_, rfl, x, rfl, hx x (List.mem_of_getElem? hxi), _, rfl, ?_⟩
      cases hl : numB (tl x) with
      | true => exact iteF ⟨_, rfl, rfl, by rw [allS_at hxi, ha, hl]; rfl⟩
      | false =>
        have e : (xs.map tl).all numB = false := by
          rw [List.all_eq_false]
          exact ⟨tl x, List.mem_map.mpr ⟨x, List.mem_of_getElem? hxi, rfl⟩, by rw [hl]; exact Bool.false_ne_true⟩
        rw [e, Bool.false_and] at hQ
        exact iteT hQ
    · rintro σ H1 ⟨sv, rfl, rfl, ha⟩
      rw [List.length_map, List.take_length] at ha
      rw [ha, Bool.true_and] at hQ
      refine ⟨_, rfl, p, _, rfl, .inl hp, rfl, ?_⟩
      have e : decide (V.int ((xs.map V.str).length : Nat) = V.int 4) = decide (xs.length = 4) := by
        rw [dec_int, Bool.eq_iff_iff, beq_iff_eq, decide_eq_true_eq, List.length_map]; omega
      rw [e]
      exact hQ
theorem ok_is_host (T : Txt K mg) : Cal P w K mg base CX0 5 "is_host" ["value"] (sp_is_host K) := by
  refine T.d_is_host.ok0 sc_is_host (fun vs H Q E h => ?_) (fun f cdv A outer s H vs Q E hr h => ?_)
  · first | (obtain ⟨_, rfl, _⟩ := h; rfl) | (obtain ⟨_, _, rfl, _⟩ := h; rfl) | (obtain ⟨_, _, _, rfl, _⟩ := h; rfl) | (obtain ⟨_, _, _, _, rfl, _⟩ := h; rfl) | (obtain ⟨_, _, _, _, _, rfl, _⟩ := h; rfl)
  · refine ⟨_, (pss_cons (ps_if (PW.pt (pw_or (pt_not (pt_val (pe_callB call_isi (by rfl) T.b_isinstance (by decide +kernel) (pa_cons (pv 0) (pa_cons (pe_bltn (v := .ty "str") (by rfl) T.b_str (by decide +kernel) rfl) pa_nil))))) (pw_or1 (pt_cmpR (op_gt) (pe_callB call_len_str (by rfl) T.b_len (by decide +kernel) (pa_cons (pv 0) pa_nil)) (pe_gc (by rfl) T.c_MOST_OF_HOST) (nomark _)))))
      (pss_one (ps_ret pe_bl))
      pss_nil)
      (pss_cons (ps_set (i := 1) sc_is_host.nd rfl (by first | exact Or.inl rfl | exact Or.inr rfl) (pe_split (pv 0) pe_str))
      (pss_cons (ps_if (PW.pt (pw_or (pt_cmpR (op_gt) (pe_callB call_len_seq (by rfl) T.b_len (by decide +kernel) (pa_cons (pv 1) pa_nil)) (pe_gc (by rfl) T.c_MOST_LABELS) (nomark _)) (pw_or1 (pt_not (pt_val (pe_c (ok_are_labels T) hr (by decide) (by rfl) pass0 (pa_cons (pv 1) pa_nil)))))))
      (pss_one (ps_ret pe_bl))
      pss_nil)
      (pss_one (ps_ret (pe_or (pe_not (pe_c (ok_is_digits T) hr (by decide) (by rfl) pass0 (pa_cons (pe_ix ix_list (pv 1) (pe_un un_neg pe_int) (fun _ _ => rfl)) pa_nil))) (pe_one (pe_c (ok__are_four_numbers T) hr (by decide) (by rfl) pass0 (pa_cons (pv 1) pa_nil))))))))), ?_⟩
    obtain ⟨v, b, rfl, hv, hQ⟩ := h
    rcases hv with ⟨x, rfl, hx, rfl⟩ | ⟨t, ht, hk, rfl⟩
    · refine ⟨_, rfl, _, _, _, _, true, rfl, .ty _, .base (.str x), kit_str K, _, rfl, iteF ?_⟩
      refine ⟨_, rfl, x, rfl, Nat.le_trans hx (by decide), _, _, rfl, rfl, _, rfl, iteB (fun h1 => ?_) (fun h1 => ?_)⟩
      · have h1 : (100 : Int) < (x.length : Int) := of_decide_eq_true h1
        have e : hostB (tl x) = false := by
          unfold hostB
          rw [decide_eq_false (by rw [len_tl] at h1; omega), Bool.false_and]
        rw [e] at hQ
        exact hQ _ (Same.refl _)
      have h1 : ¬ (100 : Int) < (x.length : Int) := of_decide_eq_false h1
      have hl : (tl x).length ≤ 100 := by rw [len_tl] at h1; omega
      have hl2 : x.length ≤ 100 := by rw [len_tl]; exact hl
      unfold hostB at hQ
      rw [decide_eq_true hl, Bool.true_and] at hQ
      refine ⟨_, rfl, ⟨_, rfl⟩, _, _, rfl, rfl, by decide +kernel, Nat.le_trans (by omega : _ ≤ 10000) (by decide), fun p hp => ?_⟩
      have e1 := split_sp1 x (c := 46) (by decide)
      have ml : ∀ p ∈ Txt.split x ⟨#[46]⟩, p.length ≤ x.length := fun p hp => split_mem_len (c := 46) (by decide) hp
      rw [← dot_eq] at e1 ml
      rw [← e1] at hQ
      have hne : Txt.split x ("." : Str) ≠ [] := fun e => by rw [e] at e1; exact sp1_ne _ _ e1.symm
      generalize Txt.split x ("." : Str) = P at *
      obtain ⟨P0, z, eP⟩ : ∃ P0 z, P = P0 ++ [z] := ⟨P.dropLast, P.getLast hne, (List.dropLast_concat_getLast hne).symm⟩
      have s1 := Same.new (o := HO.lst (P.map V.str)) hp
      have m1 : (upd H p (.lst (P.map V.str))) p = some (.lst (P.map V.str)) := upd_same
      generalize upd H p (.lst (P.map V.str)) = H1 at s1 m1 ⊢
      unfold hostL at hQ
      refine ⟨_, rfl, p, _, rfl, .inl (SqL.of m1), _, _, rfl, rfl, _, rfl, iteB (fun h2 => ?_) (fun h2 => ?_)⟩
      · have h2 : (10 : Int) < ((P.map V.str).length : Int) := of_decide_eq_true h2
        rw [List.length_map] at h2
        rw [decide_eq_false (by rw [List.length_map]; omega), Bool.false_and] at hQ
        exact hQ _ s1
      have h2 : ¬ (10 : Int) < ((P.map V.str).length : Int) := of_decide_eq_false h2
      rw [List.length_map] at h2
      rw [decide_eq_true (by rw [List.length_map]; omega), Bool.true_and] at hQ
      refine ⟨_, rfl, p, P, rfl, SqL.of m1, fun y hy => Nat.le_trans (ml y hy) (by omega), _, rfl, ?_⟩
      cases h3 : (P.map tl).all labB with
      | false =>
        rw [h3, Bool.false_and] at hQ
        exact iteT (hQ _ s1)
      | true =>
        rw [h3, Bool.true_and, lastL_map eP] at hQ
        refine iteF ?_
        have ha : atI (P.map V.str) (-1) = some (.str z) := by rw [eP, List.map_append]; exact atI_last _ _
        refine ⟨_, rfl, _, rfl, p, _, _, _, rfl, rfl, SqL.of m1, ha, z, rfl, Nat.le_trans (ml z (by rw [eP]; simp)) (by omega), _, rfl, _, rfl, ?_⟩
        cases h4 : digB (tl z) with
        | false =>
          rw [h4] at hQ
          exact iteT (hQ _ s1)
        | true =>
          rw [h4] at hQ
          refine iteF ⟨_, rfl, p, P, rfl, SqL.of m1, fun y hy => Nat.le_trans (ml y hy) (by omega), ?_⟩
          rw [List.length_map] at hQ
          exact hQ _ s1
    · refine ⟨_, rfl, _, _, _, _, false, rfl, .ty _, ht, hk, _, rfl, iteT ?_⟩
      exact hQ _ (Same.refl _)
theorem ok__begins_host (T : Txt K mg) : Cal P w K mg base CX0 6 "_begins_host" ["text"] sp__begins_host := by
  refine T.d__begins_host.ok0 sc__begins_host (fun vs H Q E h => ?_) (fun f cdv A outer s H vs Q E hr h => ?_)
  · first | (obtain ⟨_, rfl, _⟩ := h; rfl) | (obtain ⟨_, _, rfl, _⟩ := h; rfl) | (obtain ⟨_, _, _, rfl, _⟩ := h; rfl) | (obtain ⟨_, _, _, _, rfl, _⟩ := h; rfl) | (obtain ⟨_, _, _, _, _, rfl, _⟩ := h; rfl)
  · obtain ⟨a_ENDS, hm_ENDS, sq_ENDS⟩ := T.c_ENDS
    refine ⟨_, (pss_cons (ps_for PassesOwn.never rfl (pi_tup (pe_gt (by rfl) hm_ENDS)) (pg_name (i := 1) sc__begins_host.nd rfl (by first | exact Or.inl rfl | exact Or.inr rfl))
      (pss_one (ps_if (pt_val (pe_c (ok_is_host T) hr (by decide) (by rfl) pass0 (pa_cons (pe_op op_add_str (pv 0) (pv 1)) pa_nil)))
      (pss_one (ps_ret pe_bl))
      pss_nil)))
      (pss_one (ps_ret pe_bl))), ?_⟩
    obtain ⟨x, rfl, hx, hQ⟩ := h
    have hE : ∀ e ∈ tails3, e.length ≤ 2 := by decide +kernel
    have eB : beginsB (tl x) = (tails3.map fun e => hostB (tl x ++ tl e)).any id := by
      unfold beginsB tails3
      simp only [List.map_cons, List.map_nil, List.any_cons, List.any_nil, id, Bool.or_false]
      rw [show tl ("" : Str) = [] by decide +kernel, show tl ("a" : Str) = [97] by decide +kernel, show tl (".a" : Str) = [46, 97] by decide +kernel, List.append_nil]
    have sq : ∀ H1 : Hp, SqT K H1 a_ENDS (tails3.map V.str) := sq_ENDS
    refine ⟨_, rfl, ⟨_, sq H⟩, for_tup (K := K) (a := a_ENDS) (xs := tails3.map V.str) (fun i σ H1 => ∃ sv, σ = [some (.str x), sv] ∧ Same H H1 ∧ ((tails3.take i).map fun e => hostB (tl x ++ tl e)).any id = false) ⟨none, rfl, Same.refl _, rfl⟩ (fun i σ H1 _ _ => sq H1) ?_ ?_⟩
    · rintro i v σ H1 hi ⟨sv, rfl, s1, hno⟩
      obtain ⟨e, he, rfl⟩ := strAt hi
      have hem := hE e (List.mem_of_getElem? he)
      refine ⟨_, rfl, _, rfl, _, _, rfl, rfl, Nat.le_trans (by omega : _ ≤ 2000) (by decide), .str (x ++ e), _, rfl, .inl ⟨_, rfl, by rw [Str.length_append]; omega, rfl⟩, fun H2 s2 => ⟨_, rfl, ?_⟩⟩
      rw [tl_append]
      cases hb : hostB (tl x ++ tl e) with
      | true =>
        refine iteT ?_
        have q := hQ _ (s1.trans s2)
        rw [eB, show (tails3.map fun e => hostB (tl x ++ tl e)).any id = true from List.any_eq_true.mpr ⟨true, List.mem_map.mpr ⟨e, List.mem_of_getElem? he, hb⟩, rfl⟩] at q
        exact q
      | false =>
        refine iteF ⟨_, rfl, s1.trans s2, ?_⟩
        rw [List.take_succ, he]
        show ((tails3.take i ++ [e]).map fun e => hostB (tl x ++ tl e)).any id = false
        rw [List.map_append, List.any_append, hno]
        simp [hb]
    · rintro σ H1 ⟨sv, rfl, s1, hno⟩
      rw [List.length_map, List.take_length] at hno
      have q := hQ _ s1
      rw [eB, hno] at q
      exact q
theorem ok__place (T : Txt K mg) : Cal P w K mg base CX0 7 "_place" ["text"] sp__place := by
  refine T.d__place.ok0 sc__place (fun vs H Q E h => ?_) (fun f cdv A outer s H vs Q E hr h => ?_)
  · first | (obtain ⟨_, rfl, _⟩ := h; rfl) | (obtain ⟨_, _, rfl, _⟩ := h; rfl) | (obtain ⟨_, _, _, rfl, _⟩ := h; rfl) | (obtain ⟨_, _, _, _, rfl, _⟩ := h; rfl) | (obtain ⟨_, _, _, _, _, rfl, _⟩ := h; rfl)
  · refine ⟨_, (pss_cons (ps_for PassesOwn.never rfl (pi_range2 (by rfl) T.b_range (pa_cons pe_int (pa_cons (pe_op op_add (pe_callB call_len_str (by rfl) T.b_len (by decide +kernel) (pa_cons (pv 0) pa_nil)) pe_int) pa_nil))) (pg_name (i := 1) sc__place.nd rfl (by first | exact Or.inl rfl | exact Or.inr rfl))
      (pss_one (ps_if (pt_not (pt_val (pe_c (ok__begins_host T) hr (by decide) (by rfl) pass0 (pa_cons (pe_slice sl_str (pv 0) po_none (po_some (pv 1))) pa_nil))))
      (pss_one (ps_ret (pv 1)))
      pss_nil)))
      (pss_one (ps_ret (pe_op op_add (pe_callB call_len_str (by rfl) T.b_len (by decide +kernel) (pa_cons (pv 0) pa_nil)) pe_int)))), ?_⟩
    obtain ⟨x, rfl, hx, hQ⟩ := h
    have sz : x.length ≤ sizeLine := Nat.le_trans (by omega : _ ≤ 1000) (by decide)
    refine ⟨_, rfl, x, rfl, sz, _, _, rfl, rfl, 1, _, rfl, ⟨by decide, by decide, by omega, by omega⟩, ?_⟩
    rw [show ((x.length : Int) + 1 - 1).toNat = x.length by omega]
    refine for_range (n := x.length) (fun i σ H1 => ∃ v1, σ = [some (.str x), v1] ∧ Same H H1 ∧ ∀ j, j < i → beginsB ((tl x).take (j + 1)) = true) ⟨none, rfl, Same.refl _, fun j hj => absurd hj (Nat.not_lt_zero j)⟩ ?_ ?_
    · rintro i σ H1 hi ⟨v1, rfl, s1, hg⟩
      refine ⟨_, rfl, _, rfl, _, rfl, x, rfl, sz, _, rfl, Nat.le_trans cut_len hx, fun H2 s2 => ⟨_, rfl, ?_⟩⟩
      rw [cutS_to x (by omega), show (1 + (i : Int)).toNat = i + 1 by omega]
      cases hb : beginsB ((tl x).take (i + 1)) with
      | true =>
        refine iteF ⟨_, rfl, s1.trans s2, fun j hj => ?_⟩
        rcases Nat.lt_succ_iff_lt_or_eq.mp hj with q | q
        · exact hg j q
        · rw [q]; exact hb
      | false =>
        refine iteT ⟨_, rfl, ?_⟩
        have := hQ (i + 1) _ (.inr ⟨by omega, by rw [← len_tl]; omega, hb, fun j hj => hg j (by omega)⟩) (s1.trans s2)
        rw [show ((i + 1 : Nat) : Int) = 1 + (i : Int) by omega] at this
        exact this
    · rintro σ H1 ⟨v1, rfl, s1, hg⟩
      refine ⟨_, rfl, x, rfl, sz, _, _, rfl, rfl, ?_⟩
      have := hQ (x.length + 1) _ (.inl ⟨by rw [← len_tl], fun j hj => hg j (by rw [len_tl]; exact hj)⟩) s1
      exact this
theorem ok_need_host (T : Txt K mg) : Cal P w K mg base (L2.CX P w) 8 "need_host" ["host"] (sp_need_host K mg) := by
  refine T.d_need_host.okX sc_need_host (fun vs H Q E h => ?_) (fun f cdv A outer s H vs Q E hr h => ?_)
  · first | (obtain ⟨_, rfl, _⟩ := h; rfl) | (obtain ⟨_, _, rfl, _⟩ := h; rfl) | (obtain ⟨_, _, _, rfl, _⟩ := h; rfl) | (obtain ⟨_, _, _, _, rfl, _⟩ := h; rfl) | (obtain ⟨_, _, _, _, _, rfl, _⟩ := h; rfl)
  · obtain ⟨C_BadHost, e_BadHost⟩ := T.e_BadHost
    refine ⟨_, (pss_cons (ps_if (pt_not (pt_val (pe_callB call_isi (by rfl) T.b_isinstance (by decide +kernel) (pa_cons (pv 0) (pa_cons (pe_bltn (v := .ty "str") (by rfl) T.b_str (by decide +kernel) rfl) pa_nil)))))
      (pss_one (ps_raiseE rfl e_BadHost hr (by decide) pass0 (takes_of rfl rfl rfl rfl) (pa_cons pe_int pa_nil) (by rfl)))
      pss_nil)
      (pss_one (ps_if (pt_not (pt_val (pe_c (ok_is_host T) hr (by decide) (by rfl) pass0 (pa_cons (pv 0) pa_nil))))
      (pss_one (ps_raiseE rfl e_BadHost hr (by decide) pass0 (takes_of rfl rfl rfl rfl) (pa_cons (pe_c (ok__place T) hr (by decide) (by rfl) pass0 (pa_cons (pv 0) pa_nil)) pa_nil) (by rfl)))
      pss_nil))), ?_⟩
    obtain ⟨v, rfl, h, q1, q2⟩ := h
    rcases h with ⟨x, rfl, hx⟩ | ⟨t, ht, hk⟩
    · refine ⟨_, rfl, _, _, _, _, true, rfl, .ty _, .base (.str x), kit_str K, _, rfl, iteF ?_⟩
      refine ⟨_, rfl, .str x, _, rfl, .inl ⟨x, rfl, by omega, rfl⟩, fun H1 s1 => ⟨_, rfl, ?_⟩⟩
      cases hb : hostB (tl x) with
      | true => exact iteF (q1 x rfl hb _ s1)
      | false => exact iteT ⟨_, rfl, x, rfl, hx, fun k H2 hk s2 => ⟨_, rfl, fun d hd => q2 k C_BadHost d _ (.inl ⟨x, rfl, hb, hk⟩) e_BadHost.g (s1.trans s2) hd⟩⟩
    · exact ⟨_, rfl, _, _, _, _, false, rfl, .ty _, ht, hk, _, rfl, iteT ⟨_, rfl, fun d hd => q2 0 C_BadHost d _ (.inr ⟨ty_nostr ht hk, rfl⟩) e_BadHost.g (Same.refl _) hd⟩⟩
theorem ok_is_address_host (T : Txt K mg) : Cal P w K mg base CX0 6 "is_address_host" ["value"] (sp_is_address_host K) := by
  refine T.d_is_address_host.ok0 sc_is_address_host (fun vs H Q E h => ?_) (fun f cdv A outer s H vs Q E hr h => ?_)
  · first | (obtain ⟨_, rfl, _⟩ := h; rfl) | (obtain ⟨_, _, rfl, _⟩ := h; rfl) | (obtain ⟨_, _, _, rfl, _⟩ := h; rfl) | (obtain ⟨_, _, _, _, rfl, _⟩ := h; rfl) | (obtain ⟨_, _, _, _, _, rfl, _⟩ := h; rfl)
  · refine ⟨_, (pss_one (ps_ret (pe_and (pe_c (ok_is_host T) hr (by decide) (by rfl) pass0 (pa_cons (pv 0) pa_nil)) (pe_one (pe_c (ok_is_digits T) hr (by decide) (by rfl) pass0 (pa_cons (pe_ix ix_list (pe_split (pv 0) pe_str) (pe_un un_neg pe_int) (fun _ _ => rfl)) pa_nil)))))), ?_⟩
    obtain ⟨v, b, rfl, hv, hQ⟩ := h
    rcases hv with ⟨x, rfl, hx, rfl⟩ | ⟨t, ht, hk, rfl⟩
    · refine ⟨_, rfl, .str x, _, rfl, .inl ⟨x, rfl, hx, rfl⟩, fun H1 s1 => ⟨_, rfl, ?_⟩⟩
      unfold addrB at hQ
      cases h1 : hostB (tl x) with
      | false =>
        rw [h1, Bool.false_and] at hQ
        exact iteF (hQ _ s1)
      | true =>
        rw [h1, Bool.true_and] at hQ
        have hl := hostB_len h1
        refine iteT ⟨_, rfl, ⟨_, rfl⟩, _, _, rfl, rfl, by decide +kernel, Nat.le_trans (by omega : _ ≤ 10000) (by decide), fun p hp => ?_⟩
        have e1 := split_sp1 x (c := 46) (by decide)
        rw [← dot_eq] at e1
        rw [← e1] at hQ
        have hne : Txt.split x ("." : Str) ≠ [] := fun e => by rw [e] at e1; exact sp1_ne _ _ e1.symm
        generalize ePx : Txt.split x ("." : Str) = P at *
        obtain ⟨P0, z, eP⟩ : ∃ P0 z, P = P0 ++ [z] := ⟨P.dropLast, P.getLast hne, (List.dropLast_concat_getLast hne).symm⟩
        rw [eP] at ePx
        have s2 := Same.new (o := HO.lst (P.map V.str)) hp
        rw [lastL_map eP] at hQ
        have hz : z.length ≤ 1000000 := Nat.le_trans (split_mem_len (x := x) (c := 46) (by decide) (by rw [← dot_eq, ePx]; simp)) hx
        have ha : atI (P.map V.str) (-1) = some (.str z) := by rw [eP, List.map_append]; exact atI_last _ _
        exact ⟨_, rfl, p, _, _, _, rfl, rfl, SqL.of upd_same, ha, z, rfl, hz, hQ _ (s1.trans s2)⟩
    · refine ⟨_, rfl, v, false, rfl, .inr ⟨t, ht, hk, rfl⟩, fun H1 s1 => ⟨_, rfl, iteF ?_⟩⟩
      exact hQ _ s1
theorem ok__last_labels (T : Txt K mg) : Cal P w K mg base CX0 1 "_last_labels" ["host", "many"] sp__last_labels := by
  refine T.d__last_labels.ok0 sc__last_labels (fun vs H Q E h => ?_) (fun f cdv A outer s H vs Q E hr h => ?_)
  · first | (obtain ⟨_, rfl, _⟩ := h; rfl) | (obtain ⟨_, _, rfl, _⟩ := h; rfl) | (obtain ⟨_, _, _, rfl, _⟩ := h; rfl) | (obtain ⟨_, _, _, _, rfl, _⟩ := h; rfl) | (obtain ⟨_, _, _, _, _, rfl, _⟩ := h; rfl)
  · refine ⟨_, (pss_one (ps_ret (pe_join pe_str (pe_slice sl_list (pe_split (pv 0) pe_str) (po_some (pe_un un_neg (pv 1))) po_none)))), ?_⟩
    obtain ⟨x, n, rfl, hx, hn, hn2, hQ⟩ := h
    refine ⟨⟨_, rfl⟩, _, rfl, ⟨_, rfl⟩, _, _, rfl, rfl, by decide +kernel, Nat.le_trans (by omega : _ ≤ 100000) (by decide), fun p hp => ?_⟩
    have s1 := Same.new (o := HO.lst ((Txt.split x ("." : Str)).map V.str)) hp
    have hm : upd H p (.lst ((Txt.split x ("." : Str)).map V.str)) p = some (.lst ((Txt.split x ("." : Str)).map V.str)) := upd_same
    generalize upd H p (.lst ((Txt.split x ("." : Str)).map V.str)) = H1 at s1 hm ⊢
    refine ⟨_, rfl, _, rfl, _, rfl, p, _, rfl, SqL.of hm, fun p2 hp2 => ?_⟩
    rw [cutV_last _ hn, show lastN n ((Txt.split x ("." : Str)).map V.str) = (lastN n (Txt.split x ("." : Str))).map V.str by unfold lastN; rw [List.length_map, List.map_drop]]
    have es := split_sp1 x (c := 46) (by decide)
    rw [← dot_eq] at es
    have hb : ∀ z ∈ lastN n (Txt.split x ("." : Str)), z.length ≤ 1000 := fun z hz => by
      have := lastN_mem hz
      rw [dot_eq] at this
      exact Nat.le_trans (split_mem_len (by decide) this) hx
    have hl : (lastN n (Txt.split x ("." : Str))).length ≤ 1001 := by
      have h1 := split_length x (c := 46) (by decide)
      rw [← dot_eq] at h1
      rw [lastN_len]
      omega
    have hs := sum_map_le _ hb
    have hd : ("." : Str).length = 1 := by decide +kernel
    refine ⟨_, p2, _, rfl, rfl, .inl (SqL.of upd_same), by rw [hd]; exact join_fits hs hl, ?_⟩
    have et : tl (Txt.join ("." : Str) (lastN n (Txt.split x ("." : Str)))) = joinL [46] (lastN n (sp1 46 (tl x))) := by
      rw [join_tl, tl_dot, ← es]
      unfold lastN
      rw [List.length_map, List.map_drop]
    refine hQ _ _ (s1.trans (Same.new hp2)) et ?_
    rw [len_tl, et, len_tl]
    have := joinL_drop (c := 46) (sp1 46 (tl x)) ((sp1 46 (tl x)).length - n)
    rw [joinL_sp1] at this
    exact this
theorem ok__size (T : Txt K mg) : Cal P w K mg base CX0 1 "_size" ["text"] sp__size := by
  refine T.d__size.ok0 sc__size (fun vs H Q E h => ?_) (fun f cdv A outer s H vs Q E hr h => ?_)
  · first | (obtain ⟨_, rfl, _⟩ := h; rfl) | (obtain ⟨_, _, rfl, _⟩ := h; rfl) | (obtain ⟨_, _, _, rfl, _⟩ := h; rfl) | (obtain ⟨_, _, _, _, rfl, _⟩ := h; rfl) | (obtain ⟨_, _, _, _, _, rfl, _⟩ := h; rfl)
  · refine ⟨_, (pss_one (ps_ret (pe_op op_add (pe_m1 PySem.F.slot_str_count PySem.F.type_str_count mt_count (pv 0) pe_str) pe_int))), ?_⟩
    obtain ⟨x, rfl, hQ⟩ := h
    refine ⟨_, rfl, ⟨_, rfl⟩, _, _, rfl, rfl, ?_⟩
    rw [← count_sp1, ← dot_eq] at hQ
    exact ⟨_, _, rfl, rfl, hQ⟩
theorem ok__matches (T : Txt K mg) : Cal P w K mg base CX0 2 "_matches" ["pattern", "host"] sp__matches := by
  refine T.d__matches.ok0 sc__matches (fun vs H Q E h => ?_) (fun f cdv A outer s H vs Q E hr h => ?_)
  · first | (obtain ⟨_, rfl, _⟩ := h; rfl) | (obtain ⟨_, _, rfl, _⟩ := h; rfl) | (obtain ⟨_, _, _, rfl, _⟩ := h; rfl) | (obtain ⟨_, _, _, _, rfl, _⟩ := h; rfl) | (obtain ⟨_, _, _, _, _, rfl, _⟩ := h; rfl)
  · refine ⟨_, (pss_cons (ps_if (pt_cmpR (op_gt) (pe_c (ok__size T) hr (by decide) (by rfl) pass0 (pa_cons (pv 0) pa_nil)) (pe_c (ok__size T) hr (by decide) (by rfl) pass0 (pa_cons (pv 1) pa_nil)) (nomark _))
      (pss_one (ps_ret pe_bl))
      pss_nil)
      (pss_cons (ps_set (i := 2) sc__matches.nd rfl (by first | exact Or.inl rfl | exact Or.inr rfl) (pe_c (ok__last_labels T) hr (by decide) (by rfl) pass0 (pa_cons (pv 1) (pa_cons (pe_c (ok__size T) hr (by decide) (by rfl) pass0 (pa_cons (pv 0) pa_nil)) pa_nil))))
      (pss_cons (ps_if (pt_val (pe_m1 PySem.F.slot_str_startswith PySem.F.type_str_startswith mt_startswith (pv 0) (pe_gc (by rfl) T.c_ANY)))
      (pss_one (ps_ret (pe_cmpR (op_eq) (pe_ix ix_tup (pe_partition (pv 2) pe_str) pe_int (fun _ _ => rfl)) (pe_ix ix_tup (pe_partition (pv 0) pe_str) pe_int (fun _ _ => rfl)) (nomark _))))
      pss_nil)
      (pss_one (ps_ret (pe_cmpR (op_eq) (pv 2) (pv 0) (nomark _))))))), ?_⟩
    obtain ⟨x, y, rfl, hx, hy, hs, hQ⟩ := h
    unfold mtL at hQ
    refine ⟨_, rfl, x, rfl, _, rfl, y, rfl, _, _, rfl, rfl, _, rfl, iteB (fun h1 => ?_) (fun h1 => ?_)⟩
    · have h1 : ((sp1 46 (tl y)).length : Int) < ((sp1 46 (tl x)).length : Int) := of_decide_eq_true h1
      rw [decide_eq_false (by omega : ¬ (sp1 46 (tl x)).length ≤ (sp1 46 (tl y)).length)] at hQ
      exact hQ _ (Same.refl _)
    have h1 : ¬ ((sp1 46 (tl y)).length : Int) < ((sp1 46 (tl x)).length : Int) := of_decide_eq_false h1
    rw [decide_eq_true (by omega : (sp1 46 (tl x)).length ≤ (sp1 46 (tl y)).length), Bool.true_and] at hQ
    have lx := sp1_length (c := 46) (tl x)
    have px : 1 ≤ (sp1 46 (tl x)).length := List.length_pos_iff.mpr (sp1_ne _ _)
    rw [← len_tl] at lx
    refine ⟨_, rfl, _, rfl, x, rfl, y, _, rfl, hy, px, by omega, fun e H1 s1 ee le => ?_⟩
    refine ⟨_, rfl, ⟨_, rfl⟩, _, _, rfl, rfl, _, rfl, ?_⟩
    rw [startswith_tl, tl_star]
    have hmem : ∀ l ∈ sp1 46 (tl y), 46 ∉ l := sp1_free 46 (tl y)
    by_cases g : (tl x).head? = some 42
    · obtain ⟨u, eu⟩ := hs g
      have e1 : [42].isPrefixOf (tl x) = true := by rw [eu]; simp [List.isPrefixOf]
      have eP : sp1 46 (tl x) = [42] :: sp1 46 u := by
        rw [eu]
        show sp1 46 ([42] ++ 46 :: u) = _
        rw [sp1_app]
        rfl
      rw [if_pos (by rw [eP]; rfl)] at hQ
      rw [e1]
      refine iteT ?_
      have hn : 2 ≤ (sp1 46 (tl x)).length := by
        rw [eP, List.length_cons]
        have := List.length_pos_iff.mpr (sp1_ne 46 u)
        omega
      obtain ⟨a, M, eM⟩ : ∃ a M, lastN (sp1 46 (tl x)).length (sp1 46 (tl y)) = a :: M := List.exists_cons_of_ne_nil fun q => by
        have := lastN_len (sp1 46 (tl x)).length (sp1 46 (tl y))
        rw [q, List.length_nil] at this
        omega
      have hM : M ≠ [] := fun q => by
        have := lastN_len (sp1 46 (tl x)).length (sp1 46 (tl y))
        rw [eM, q, List.length_cons, List.length_nil] at this
        omega
      have ha : 46 ∉ a := hmem a (lastN_mem (n := (sp1 46 (tl x)).length) (by rw [eM]; exact List.mem_cons_self ..))
      have hMf : ∀ l ∈ M, 46 ∉ l := fun l hl => hmem l (lastN_mem (n := (sp1 46 (tl x)).length) (by rw [eM]; exact List.mem_cons_of_mem _ hl))
      have e2 : tl e = a ++ 46 :: joinL [46] M := by rw [ee, eM]; exact joinL_app (L := [a]) (by simp) hM
      have b1 := partition_behind e2 ha
      have b2 : tl (Txt.partition x ⟨#[46]⟩).2.2 = u := partition_behind (a := [42]) (by rw [eu]; rfl) (by decide)
      refine ⟨_, rfl, ⟨_, rfl⟩, _, _, rfl, rfl, by decide +kernel, Nat.le_trans (by omega : _ ≤ 100000) (by decide), fun p hp => ?_⟩
      refine ⟨p, _, _, _, rfl, rfl, SqT.of upd_same, (rfl : atI _ ((2 : Nat) : Int) = _), ?_⟩
      refine ⟨_, rfl, ⟨_, rfl⟩, _, _, rfl, rfl, by decide +kernel, Nat.le_trans (by omega : _ ≤ 100000) (by decide), fun p2 hp2 => ?_⟩
      refine ⟨p2, _, _, _, rfl, rfl, SqT.of upd_same, (rfl : atI _ ((2 : Nat) : Int) = _), rfl, ?_⟩
      have fin := hQ _ ((s1.trans (Same.new (o := HO.tup [V.str (Txt.partition e ("." : Str)).1, V.str (Txt.partition e ("." : Str)).2.1, V.str (Txt.partition e ("." : Str)).2.2]) hp)).trans (Same.new (o := HO.tup [V.str (Txt.partition x ("." : Str)).1, V.str (Txt.partition x ("." : Str)).2.1, V.str (Txt.partition x ("." : Str)).2.2]) hp2))
      have ed : decide (V.str (Txt.partition e ("." : Str)).2.2 = V.str (Txt.partition x ("." : Str)).2.2) = decide ((lastN (sp1 46 (tl x)).length (sp1 46 (tl y))).tail = (sp1 46 (tl x)).tail) := by
        rw [dot_eq, eM, eP, Bool.eq_iff_iff, decide_eq_true_eq, decide_eq_true_eq, V.str.injEq, str_eq_iff, b1, b2]
        show joinL [46] M = u ↔ M = sp1 46 u
        constructor
        · intro q; rw [← q, sp1_joinL hM hMf]
        · intro q; rw [q, joinL_sp1]
      rw [← ed] at fin
      exact fin
    · have e1 : [42].isPrefixOf (tl x) = false := by
        cases hc : tl x with
        | nil => rfl
        | cons a r =>
          rw [hc] at g
          simp only [List.head?_cons, Option.some.injEq] at g
          simp [List.isPrefixOf, Ne.symm g]
      have e2 : ¬ (sp1 46 (tl x)).head? = some [42] := fun e => by
        have := joinL_sp1 46 (tl x)
        obtain ⟨p, r, ep⟩ := sp1_cons 46 (tl x)
        rw [ep] at e this
        simp only [List.head?_cons, Option.some.injEq] at e
        subst e
        cases r with
        | nil => rw [← this] at g; exact g rfl
        | cons q r => rw [← this] at g; exact g rfl
      rw [if_neg e2] at hQ
      rw [e1]
      refine iteF ?_
      refine ⟨_, rfl, _, rfl, rfl, ?_⟩
      have ed : decide (V.str e = V.str x) = decide (lastN (sp1 46 (tl x)).length (sp1 46 (tl y)) = sp1 46 (tl x)) := by
        have hne : lastN (sp1 46 (tl x)).length (sp1 46 (tl y)) ≠ [] := fun q => by
          have := lastN_len (sp1 46 (tl x)).length (sp1 46 (tl y))
          rw [q, List.length_nil] at this
          omega
        rw [Bool.eq_iff_iff, decide_eq_true_eq, decide_eq_true_eq, V.str.injEq, str_eq_iff, ee]
        constructor
        · intro q; have h := sp1_joinL (c := 46) hne fun l hl => hmem l (lastN_mem hl); rw [q] at h; exact h.symm
        · intro q; rw [q, joinL_sp1]
      rw [← ed] at hQ
      exact hQ _ s1
theorem ok__suffix_size (T : Txt K mg) : Cal P w K mg base CX0 3 "_suffix_size" ["rules", "host"] (sp__suffix_size K) := by
  refine T.d__suffix_size.ok0 sc__suffix_size (fun vs H Q E h => ?_) (fun f cdv A outer s H vs Q E hr h => ?_)
  · first | (obtain ⟨_, rfl, _⟩ := h; rfl) | (obtain ⟨_, _, rfl, _⟩ := h; rfl) | (obtain ⟨_, _, _, rfl, _⟩ := h; rfl) | (obtain ⟨_, _, _, _, rfl, _⟩ := h; rfl) | (obtain ⟨_, _, _, _, _, rfl, _⟩ := h; rfl)
  · refine ⟨_, (pss_cons (ps_set (i := 2) sc__suffix_size.nd rfl (by first | exact Or.inl rfl | exact Or.inr rfl) pe_int)
      (pss_cons (ps_set (i := 3) sc__suffix_size.nd rfl (by first | exact Or.inl rfl | exact Or.inr rfl) pe_int)
      (pss_cons (ps_for PassesOwn.never rfl (pi_tup (pv 0)) (pg_name (i := 4) sc__suffix_size.nd rfl (by first | exact Or.inl rfl | exact Or.inr rfl))
      (pss_one (ps_if (pt_val (pe_m1 PySem.F.slot_str_startswith PySem.F.type_str_startswith mt_startswith (pv 4) (pe_gc (by rfl) T.c_EXCEPTION)))
      (pss_one (ps_if (pt_val (pe_c (ok__matches T) hr (by decide) (by rfl) pass0 (pa_cons (pe_slice sl_str (pv 4) (po_some pe_int) po_none) (pa_cons (pv 1) pa_nil))))
      (pss_one (ps_set (i := 3) sc__suffix_size.nd rfl (by first | exact Or.inl rfl | exact Or.inr rfl) (pe_callB (call_max2 rfl) (by rfl) T.b_max (by decide +kernel) (pa_cons (pv 3) (pa_cons (pe_c (ok__size T) hr (by decide) (by rfl) pass0 (pa_cons (pv 4) pa_nil)) pa_nil)))))
      pss_nil))
      (pss_one (ps_if (pt_val (pe_c (ok__matches T) hr (by decide) (by rfl) pass0 (pa_cons (pv 4) (pa_cons (pv 1) pa_nil))))
      (pss_one (ps_set (i := 2) sc__suffix_size.nd rfl (by first | exact Or.inl rfl | exact Or.inr rfl) (pe_callB (call_max2 rfl) (by rfl) T.b_max (by decide +kernel) (pa_cons (pv 2) (pa_cons (pe_c (ok__size T) hr (by decide) (by rfl) pass0 (pa_cons (pv 4) pa_nil)) pa_nil)))))
      pss_nil)))))
      (pss_cons (ps_if (pt_cmpR (op_gt) (pv 3) pe_int (nomark _))
      (pss_one (ps_ret (pe_op op_sub (pv 3) pe_int)))
      pss_nil)
      (pss_one (ps_ret (pv 2))))))), ?_⟩
    obtain ⟨p, rs, y, rfl, hp, hr, hy, hQ⟩ := h
    let w := sp1 46 (tl y)
    refine ⟨_, rfl, _, rfl, ⟨_, hp⟩, for_tup (K := K) (a := p) (xs := rs.map V.str) (fun i σ H1 => ∃ sv, σ = [some (.ref p), some (.str y), some (.int (bigN 1 (fun t => !excT t && mtL (patL t) w) ((rs.take i).map tl) : Nat)), some (.int (bigN 0 (fun t => excT t && mtL (patL t) w) ((rs.take i).map tl) : Nat)), sv] ∧ Same H H1) ⟨none, rfl, Same.refl _⟩ (fun i σ H1 _ ⟨_, _, s⟩ => Same.seqT s hp) ?_ ?_⟩
    · rintro i v σ H1 hi ⟨sv, rfl, s1⟩
      obtain ⟨r, hri, rfl⟩ := strAt hi
      obtain ⟨hr1, hr2⟩ := hr r (List.mem_of_getElem? hri)
      rw [big_take hri, big_take hri]
      refine ⟨_, rfl, ⟨_, rfl⟩, _, _, rfl, rfl, _, rfl, ?_⟩
      rw [bang_exc]
      cases hx : excT (tl r) with
      | true =>
        refine iteT ⟨_, rfl, _, rfl, _, rfl, ?_⟩
        have ep : tl (cutS r (some 1) none) = patT (tl r) := by
          rw [cutS_from r (by decide)]
          unfold patT
          rw [if_pos hx, ← List.drop_one]
          rfl
        have el : (cutS r (some 1) none).length ≤ 1000 := by
          rw [len_tl, cutS_from r (by decide), List.length_drop, ← len_tl]
          omega
        refine ⟨Nat.le_trans hr2 (by decide), _, rfl, _, y, rfl, Nat.le_trans el (by decide), hy, fun hs => absurd hs (by rw [ep]; exact rule_star2 hr1 hx), fun H2 s2 => ⟨_, rfl, ?_⟩⟩
        rw [ep]
        simp only [Bool.not_true, Bool.true_and, Bool.false_and, Bool.false_eq_true, if_false]
        have e0 : mtL (sp1 46 (patT (tl r))) (sp1 46 (tl y)) = mtL (patL (tl r)) w := rfl
        rw [e0]
        cases hm : mtL (patL (tl r)) w with
        | true =>
          refine iteT ⟨_, rfl, _, rfl, r, rfl, _, _, rfl, ?_⟩
          rw [patL_len, max_nat]
          exact ⟨_, rfl, s1.trans s2⟩
        | false => exact iteF ⟨_, rfl, s1.trans s2⟩
      | false =>
        refine iteF ⟨_, rfl, _, rfl, r, y, rfl, by omega, hy, fun hs => rule_star hr1 hx hs, fun H2 s2 => ⟨_, rfl, ?_⟩⟩
        have e1 : sp1 46 (tl r) = patL (tl r) := by unfold patL patT; rw [hx]; rfl
        rw [e1]
        simp only [Bool.not_false, Bool.true_and, Bool.false_and, Bool.false_eq_true, if_false]
        cases hm : mtL (patL (tl r)) w with
        | true =>
          refine iteT ⟨_, rfl, _, rfl, r, rfl, _, _, rfl, ?_⟩
          rw [e1, max_nat]
          exact ⟨_, rfl, s1.trans s2⟩
        | false => exact iteF ⟨_, rfl, s1.trans s2⟩
    · rintro σ H1 ⟨sv, rfl, s1⟩
      rw [List.length_map, List.take_length]
      refine ⟨_, rfl, _, _, rfl, rfl, _, rfl, iteB (fun h0 => ?_) (fun h0 => ?_)⟩
      · have h0 : (0 : Int) < ((excN (rs.map tl) w : Nat) : Int) := of_decide_eq_true h0
        refine ⟨_, rfl, _, _, rfl, rfl, ?_⟩
        have := hQ _ s1
        unfold sufN at this
        rw [if_pos (by show 0 < excN (rs.map tl) w; omega)] at this
        rw [show ((excN (rs.map tl) (sp1 46 (tl y)) - 1 : Nat) : Int) = ((excN (rs.map tl) w : Nat) : Int) - 1 by show ((excN (rs.map tl) w - 1 : Nat) : Int) = _; omega] at this
        exact this
      · have h0 : ¬ (0 : Int) < ((excN (rs.map tl) w : Nat) : Int) := of_decide_eq_false h0
        have := hQ _ s1
        unfold sufN at this
        rw [if_neg (by show ¬ 0 < excN (rs.map tl) w; omega)] at this
        exact ⟨_, rfl, this⟩
theorem ok_known_suffix (T : Txt K mg) : Cal P w K mg base CX0 7 "known_suffix" ["rules", "host"] (sp_known_suffix K) := by
  refine T.d_known_suffix.ok0 sc_known_suffix (fun vs H Q E h => ?_) (fun f cdv A outer s H vs Q E hr h => ?_)
  · first | (obtain ⟨_, rfl, _⟩ := h; rfl) | (obtain ⟨_, _, rfl, _⟩ := h; rfl) | (obtain ⟨_, _, _, rfl, _⟩ := h; rfl) | (obtain ⟨_, _, _, _, rfl, _⟩ := h; rfl) | (obtain ⟨_, _, _, _, _, rfl, _⟩ := h; rfl)
  · refine ⟨_, (pss_cons (ps_if (pt_val (pe_c (ok_is_address_host T) hr (by decide) (by rfl) pass0 (pa_cons (pv 1) pa_nil)))
      (pss_one (ps_ret pe_non))
      pss_nil)
      (pss_one (ps_ret (pe_c (ok__last_labels T) hr (by decide) (by rfl) pass0 (pa_cons (pv 1) (pa_cons (pe_c (ok__suffix_size T) hr (by decide) (by rfl) pass0 (pa_cons (pv 0) (pa_cons (pv 1) pa_nil))) pa_nil)))))), ?_⟩
    obtain ⟨p, rs, y, rfl, hp, hl, hr, hh, q1, q2⟩ := h
    have hy := hostB_len hh
    refine ⟨_, rfl, .str y, _, rfl, TxV.of (by omega), fun H3 s3 => ⟨_, rfl, ?_⟩⟩
    have s4 := s3
    cases ha : addrB (tl y) with
    | true => exact iteT (q1 _ s4 ha)
    | false =>
      refine iteF ?_
      have hg := sufN_ge (rs := rs.map tl) (w := sp1 46 (tl y)) (fun t ht => by obtain ⟨r, hr2, rfl⟩ := List.mem_map.mp ht; exact (hr.2 r hr2).1) (sp1_ne _ _)
      have hl2 := sp1_length (c := 46) (tl y)
      rw [← len_tl] at hl2
      refine ⟨_, rfl, _, rfl, _, rfl, p, rs, y, rfl, Same.seqT s4 hp, hr.2, by omega, fun H5 s5 => ?_⟩
      exact ⟨y, _, rfl, by omega, hg.1, by omega, fun e H6 s6 ee _ => q2 e _ ((s4.trans s5).trans s6) ha ee⟩
theorem ok_suffix_of (T : Txt K mg) : Cal P w K mg base (L2.CX P w) 9 "suffix_of" ["rules", "host"] (sp_suffix_of K mg) := by
  refine T.d_suffix_of.okX sc_suffix_of (fun vs H Q E h => ?_) (fun f cdv A outer s H vs Q E hr h => ?_)
  · first | (obtain ⟨_, rfl, _⟩ := h; rfl) | (obtain ⟨_, _, rfl, _⟩ := h; rfl) | (obtain ⟨_, _, _, rfl, _⟩ := h; rfl) | (obtain ⟨_, _, _, _, rfl, _⟩ := h; rfl) | (obtain ⟨_, _, _, _, _, rfl, _⟩ := h; rfl)
  · refine ⟨_, (pss_cons (ps_expr (pe_cX (ok_need_rules T) hr (by decide) (by rfl) (takes_of rfl rfl rfl rfl) (pa_cons (pv 0) pa_nil)))
      (pss_cons (ps_expr (pe_cX (ok_need_host T) hr (by decide) (by rfl) (takes_of rfl rfl rfl rfl) (pa_cons (pv 1) pa_nil)))
      (pss_one (ps_ret (pe_c (ok_known_suffix T) hr (by decide) (by rfl) pass0 (pa_cons (pv 0) (pa_cons (pv 1) pa_nil))))))), ?_⟩
    obtain ⟨v, u, b, rfl, hv, hu', q1, q2, q3⟩ := h
    refine ⟨_, rfl, v, b, rfl, hv, fun hb H1 s1 => ?_, q1⟩
    subst hb
    obtain ⟨p, rs, rfl, hp, hl, hr⟩ := hv.good
    refine ⟨_, rfl, u, rfl, hu'.same s1, fun y ey hb2 H2 s2 => ?_, fun k C d H' hn hC s2 hd => q2 rfl k C d H' hn hC (s1.trans s2) hd⟩
    subst ey
    have s12 := s1.trans s2
    obtain ⟨q4, q5⟩ := q3 p rs y rfl rfl hp hl hr rfl hb2
    exact ⟨_, rfl, _, rfl, p, rs, y, rfl, SqT.of (s12 _ _ hp), hl, hr, hb2, fun H3 s3 ha => q4 _ (s12.trans s3) ha, fun e H3 s3 ha ee => q5 e _ (s12.trans s3) ha ee⟩
theorem ok_known_family (T : Txt K mg) : Cal P w K mg base CX0 8 "known_family" ["rules", "host"] (sp_known_family K) := by
  refine T.d_known_family.ok0 sc_known_family (fun vs H Q E h => ?_) (fun f cdv A outer s H vs Q E hr h => ?_)
  · first | (obtain ⟨_, rfl, _⟩ := h; rfl) | (obtain ⟨_, _, rfl, _⟩ := h; rfl) | (obtain ⟨_, _, _, rfl, _⟩ := h; rfl) | (obtain ⟨_, _, _, _, rfl, _⟩ := h; rfl) | (obtain ⟨_, _, _, _, _, rfl, _⟩ := h; rfl)
  · refine ⟨_, (pss_cons (ps_set (i := 2) sc_known_family.nd rfl (by first | exact Or.inl rfl | exact Or.inr rfl) (pe_c (ok_known_suffix T) hr (by decide) (by rfl) pass0 (pa_cons (pv 0) (pa_cons (pv 1) pa_nil))))
      (pss_cons (ps_if (pt_cmpR (op_isN) (pv 2) pe_non (nomark _))
      (pss_one (ps_ret (pv 1)))
      pss_nil)
      (pss_one (ps_ret (pe_c (ok__last_labels T) hr (by decide) (by rfl) pass0 (pa_cons (pv 1) (pa_cons (pe_op op_add (pe_c (ok__size T) hr (by decide) (by rfl) pass0 (pa_cons (pv 2) pa_nil)) pe_int) pa_nil))))))), ?_⟩
    obtain ⟨p, rs, y, rfl, hp, hl, hr, hh, hQ⟩ := h
    have hy := hostB_len hh
    refine ⟨_, rfl, _, rfl, p, rs, y, rfl, hp, hl, hr, hh, fun H1 s1 ha => ?_, fun e H1 s1 ha ee => ?_⟩
    · refine ⟨_, rfl, rfl, _, rfl, iteT ⟨_, rfl, hQ y _ s1 ?_⟩⟩
      unfold famT
      rw [if_pos ha]
    · have hrs : ∀ t ∈ rs.map tl, ruleB t = true := fun t ht => by obtain ⟨r, hr2, rfl⟩ := List.mem_map.mp ht; exact (hr.2 r hr2).1
      have hg := sufN_ge (rs := rs.map tl) (w := sp1 46 (tl y)) hrs (sp1_ne _ _)
      have hl2 := sp1_length (c := 46) (tl y)
      rw [← len_tl] at hl2
      have hn : lastN (sufN (rs.map tl) (sp1 46 (tl y))) (sp1 46 (tl y)) ≠ [] := fun q => by
        have := lastN_len (sufN (rs.map tl) (sp1 46 (tl y))) (sp1 46 (tl y))
        rw [q, List.length_nil] at this
        omega
      have e2 : sp1 46 (tl e) = lastN (sufN (rs.map tl) (sp1 46 (tl y))) (sp1 46 (tl y)) := by
        rw [ee]
        exact sp1_joinL hn fun l hl => sp1_free 46 (tl y) l (lastN_mem hl)
      have hlen : (sp1 46 (tl e)).length ≤ 101 := by rw [e2, lastN_len]; omega
      refine ⟨_, rfl, rfl, _, rfl, iteF ?_⟩
      refine ⟨_, rfl, _, rfl, e, rfl, _, _, rfl, rfl, y, (sp1 46 (tl e)).length + 1, rfl, by omega, by omega, by omega, fun e3 H3 s3 e4 _ => hQ e3 _ (s1.trans s3) ?_⟩
      unfold famT famL
      rw [ha, e4, e2]
      rfl
theorem ok_family_of (T : Txt K mg) : Cal P w K mg base (L2.CX P w) 9 "family_of" ["rules", "host"] (sp_family_of K mg) := by
  refine T.d_family_of.okX sc_family_of (fun vs H Q E h => ?_) (fun f cdv A outer s H vs Q E hr h => ?_)
  · first | (obtain ⟨_, rfl, _⟩ := h; rfl) | (obtain ⟨_, _, rfl, _⟩ := h; rfl) | (obtain ⟨_, _, _, rfl, _⟩ := h; rfl) | (obtain ⟨_, _, _, _, rfl, _⟩ := h; rfl) | (obtain ⟨_, _, _, _, _, rfl, _⟩ := h; rfl)
  · refine ⟨_, (pss_cons (ps_expr (pe_cX (ok_need_rules T) hr (by decide) (by rfl) (takes_of rfl rfl rfl rfl) (pa_cons (pv 0) pa_nil)))
      (pss_cons (ps_expr (pe_cX (ok_need_host T) hr (by decide) (by rfl) (takes_of rfl rfl rfl rfl) (pa_cons (pv 1) pa_nil)))
      (pss_one (ps_ret (pe_c (ok_known_family T) hr (by decide) (by rfl) pass0 (pa_cons (pv 0) (pa_cons (pv 1) pa_nil))))))), ?_⟩
    obtain ⟨v, u, b, rfl, hv, hu', q1, q2, q3⟩ := h
    refine ⟨_, rfl, v, b, rfl, hv, fun hb H1 s1 => ?_, q1⟩
    subst hb
    obtain ⟨p, rs, rfl, hp, hl, hr⟩ := hv.good
    refine ⟨_, rfl, u, rfl, hu'.same s1, fun y ey hb2 H2 s2 => ?_, fun k C d H' hn hC s2 hd => q2 rfl k C d H' hn hC (s1.trans s2) hd⟩
    subst ey
    have s12 := s1.trans s2
    exact ⟨_, rfl, _, rfl, p, rs, y, rfl, SqT.of (s12 _ _ hp), hl, hr, hb2, fun e H3 s3 ee => q3 p rs y rfl rfl hp hl hr rfl hb2 e _ (s12.trans s3) ee⟩
theorem ok_is_suffix (T : Txt K mg) : Cal P w K mg base (L2.CX P w) 10 "is_suffix" ["rules", "host"] (sp_is_suffix K mg) := by
  refine T.d_is_suffix.okX sc_is_suffix (fun vs H Q E h => ?_) (fun f cdv A outer s H vs Q E hr h => ?_)
  · first | (obtain ⟨_, rfl, _⟩ := h; rfl) | (obtain ⟨_, _, rfl, _⟩ := h; rfl) | (obtain ⟨_, _, _, rfl, _⟩ := h; rfl) | (obtain ⟨_, _, _, _, rfl, _⟩ := h; rfl) | (obtain ⟨_, _, _, _, _, rfl, _⟩ := h; rfl)
  · refine ⟨_, (pss_one (ps_ret (pe_cmpR (op_eq) (pe_cX (ok_suffix_of T) hr (by decide) (by rfl) (takes_of rfl rfl rfl rfl) (pa_cons (pv 0) (pa_cons (pv 1) pa_nil))) (pv 1) (nomark _)))), ?_⟩
    obtain ⟨v, u, b, rfl, hv, hu', q1, q2, q3⟩ := h
    refine ⟨_, rfl, _, rfl, v, u, b, rfl, hv, hu', q1, q2, fun p rs y hb ev hp hl hr eu hh => ?_⟩
    have hQ := q3 p rs y hb ev hp eu hh
    subst ev eu
    refine ⟨fun H1 s1 ha => ?_, fun e H1 s1 ha ee => ?_⟩
    · refine ⟨_, rfl, rfl, ?_⟩
      have := hQ _ s1
      unfold ownT at this
      rw [ha] at this
      exact this
    · refine ⟨_, rfl, rfl, ?_⟩
      have := hQ _ s1
      unfold ownT at this
      rw [ha] at this
      have hrs : ∀ t ∈ rs.map tl, ruleB t = true := fun t ht => by obtain ⟨r, hr2, rfl⟩ := List.mem_map.mp ht; exact (hr.2 r hr2).1
      have hg := sufN_ge (rs := rs.map tl) (w := sp1 46 (tl y)) hrs (sp1_ne _ _)
      have hn : lastN (sufN (rs.map tl) (sp1 46 (tl y))) (sp1 46 (tl y)) ≠ [] := fun q => by
        have := lastN_len (sufN (rs.map tl) (sp1 46 (tl y))) (sp1 46 (tl y))
        rw [q, List.length_nil] at this
        omega
      have ed : decide (V.str e = V.str y) = decide (sufN (rs.map tl) (sp1 46 (tl y)) = (sp1 46 (tl y)).length) := by
        rw [Bool.eq_iff_iff, decide_eq_true_eq, decide_eq_true_eq, V.str.injEq, str_eq_iff, ee]
        constructor
        · intro q
          have h := sp1_joinL (c := 46) hn fun l hl => sp1_free 46 (tl y) l (lastN_mem hl)
          rw [q] at h
          have := congrArg List.length h
          rw [lastN_len] at this
          omega
        · intro q
          rw [lastN_all (by omega), joinL_sp1]
      rw [ed]
      exact this
theorem ok__is_scheme (T : Txt K mg) : Cal P w K mg base CX0 1 "_is_scheme" ["value"] (sp__is_scheme K) := by
  refine T.d__is_scheme.ok0 sc__is_scheme (fun vs H Q E h => ?_) (fun f cdv A outer s H vs Q E hr h => ?_)
  · first | (obtain ⟨_, rfl, _⟩ := h; rfl) | (obtain ⟨_, _, rfl, _⟩ := h; rfl) | (obtain ⟨_, _, _, rfl, _⟩ := h; rfl) | (obtain ⟨_, _, _, _, rfl, _⟩ := h; rfl) | (obtain ⟨_, _, _, _, _, rfl, _⟩ := h; rfl)
  · obtain ⟨a_SCHEMES, hm_SCHEMES, sq_SCHEMES⟩ := T.c_SCHEMES
    refine ⟨_, (pss_one (ps_ret (pe_and (pe_callB call_isi (by rfl) T.b_isinstance (by decide +kernel) (pa_cons (pv 0) (pa_cons (pe_bltn (v := .ty "str") (by rfl) T.b_str (by decide +kernel) rfl) pa_nil))) (pe_one (pe_cmpR (op_in_seq) (pv 0) (pe_gt (by rfl) hm_SCHEMES) (by with_unfolding_all rfl)))))), ?_⟩
    obtain ⟨v, rfl, hv, hQ⟩ := h
    have sq : ∀ H1 : Hp, SqT K H1 a_SCHEMES (schemes2.map V.str) := sq_SCHEMES
    rcases hv with ⟨x, rfl, h1, _⟩ | ⟨t, ht, hk⟩
    · refine ⟨_, rfl, _, _, _, _, true, rfl, .ty _, .base (.str x), kit_str K, _, rfl, iteT ?_⟩
      refine ⟨_, rfl, a_SCHEMES, schemes2.map V.str, rfl, .inr (sq H), rfl, by decide +kernel, ?_⟩
      rw [in_strs]
      exact hQ
    · refine ⟨_, rfl, _, _, _, _, false, rfl, .ty _, ht, hk, _, rfl, iteF ?_⟩
      have := ty_nostr08 ht hk
      have e : schV v = false := by
        cases v with
        | str x => exact absurd rfl (this x)
        | _ => rfl
      rw [e] at hQ
      exact hQ
theorem ok_is_origin (T : Txt K mg) : Cal P w K mg base CX0 6 "is_origin" ["value"] (sp_is_origin K) := by
  refine T.d_is_origin.ok0 sc_is_origin (fun vs H Q E h => ?_) (fun f cdv A outer s H vs Q E hr h => ?_)
  · first | (obtain ⟨_, rfl, _⟩ := h; rfl) | (obtain ⟨_, _, rfl, _⟩ := h; rfl) | (obtain ⟨_, _, _, rfl, _⟩ := h; rfl) | (obtain ⟨_, _, _, _, rfl, _⟩ := h; rfl) | (obtain ⟨_, _, _, _, _, rfl, _⟩ := h; rfl)
  · refine ⟨_, (pss_cons (ps_if (PW.pt (pw_or (pt_not (pt_val (pe_callB call_isi (by rfl) T.b_isinstance (by decide +kernel) (pa_cons (pv 0) (pa_cons (pe_bltn (v := .ty "tuple") (by rfl) T.b_tuple (by decide +kernel) rfl) pa_nil))))) (pw_or1 (pt_cmpR (op_ne) (pe_callB call_len_seq (by rfl) T.b_len (by decide +kernel) (pa_cons (pv 0) pa_nil)) pe_int (nomark _)))))
      (pss_one (ps_ret pe_bl))
      pss_nil)
      (pss_one (ps_ret (pe_and (pe_c (ok__is_scheme T) hr (by decide) (by rfl) pass0 (pa_cons (pe_ix ix_tup (pv 0) pe_int (fun _ _ => rfl)) pa_nil)) (pe_one (pe_c (ok_is_host T) hr (by decide) (by rfl) pass0 (pa_cons (pe_ix ix_tup (pv 0) pe_int (fun _ _ => rfl)) pa_nil))))))), ?_⟩
    obtain ⟨v, b, rfl, hv, hQ⟩ := h
    rcases hv with ⟨t, ht, hk, rfl⟩ | ⟨p, xs, rfl, hp, hl, rfl⟩ | ⟨p, u, w, rfl, hp, hu1, hw, rfl⟩
    · exact ⟨_, rfl, _, _, _, _, false, rfl, .ty _, ht, hk, _, rfl, iteT (hQ _ (Same.refl _))⟩
    · refine ⟨_, rfl, _, _, _, _, true, rfl, .ty _, .base (.tup hp), kit_ty (by decide +kernel), _, rfl, iteF ?_⟩
      refine ⟨_, rfl, p, _, rfl, .inr (SqT.of hp), rfl, _, rfl, ?_⟩
      rw [show (!decide (V.int (xs.length : Int) = V.int 2)) = true by rw [dec_int]; simp; omega]
      exact iteT (hQ _ (Same.refl _))
    · refine ⟨_, rfl, _, _, _, _, true, rfl, .ty _, .base (.tup hp), kit_ty (by decide +kernel), _, rfl, iteF ?_⟩
      refine ⟨_, rfl, p, _, rfl, .inr (SqT.of hp), rfl, _, rfl, iteF ?_⟩
      refine ⟨_, rfl, p, _, _, _, rfl, rfl, SqT.of hp, rfl, u, rfl, hu1, _, rfl, ?_⟩
      cases hs : schV u with
      | false => exact iteF (by rw [hs, Bool.false_and] at hQ; exact hQ _ (Same.refl _))
      | true =>
        rw [hs, Bool.true_and] at hQ
        exact iteT ⟨_, rfl, p, _, _, _, rfl, rfl, SqT.of hp, rfl, w, _, rfl, hw.tx, hQ⟩
theorem ok_site_of (T : Txt K mg) : Cal P w K mg base (L2.CX P w) 9 "site_of" ["rules", "origin"] (sp_site_of K mg) := by
  refine T.d_site_of.okX sc_site_of (fun vs H Q E h => ?_) (fun f cdv A outer s H vs Q E hr h => ?_)
  · first | (obtain ⟨_, rfl, _⟩ := h; rfl) | (obtain ⟨_, _, rfl, _⟩ := h; rfl) | (obtain ⟨_, _, _, rfl, _⟩ := h; rfl) | (obtain ⟨_, _, _, _, rfl, _⟩ := h; rfl) | (obtain ⟨_, _, _, _, _, rfl, _⟩ := h; rfl)
  · obtain ⟨C_BadOrigin, e_BadOrigin⟩ := T.e_BadOrigin
    refine ⟨_, (pss_cons (ps_expr (pe_cX (ok_need_rules T) hr (by decide) (by rfl) (takes_of rfl rfl rfl rfl) (pa_cons (pv 0) pa_nil)))
      (pss_cons (ps_if (pt_not (pt_val (pe_c (ok_is_origin T) hr (by decide) (by rfl) pass0 (pa_cons (pv 1) pa_nil))))
      (pss_one (ps_raiseE rfl e_BadOrigin hr (by decide) pass0 (takes_of rfl rfl rfl rfl) (pa_cons (pv 1) pa_nil) (by rfl)))
      pss_nil)
      (pss_cons (ps_asg (pv 1) (pg_tup rfl (pgs_cons (pg_name (i := 2) sc_site_of.nd rfl (by first | exact Or.inl rfl | exact Or.inr rfl)) (pgs_cons (pg_name (i := 3) sc_site_of.nd rfl (by first | exact Or.inl rfl | exact Or.inr rfl)) pgs_nil))))
      (pss_one (ps_ret (pe_tup (pa_cons (pv 2) (pa_cons (pe_c (ok_known_family T) hr (by decide) (by rfl) pass0 (pa_cons (pv 0) (pa_cons (pv 3) pa_nil))) pa_nil)))))))), ?_⟩
    obtain ⟨v, o, b, bo, rfl, hv, ho, q1, q2, q3⟩ := h
    refine ⟨_, rfl, v, b, rfl, hv, fun hb H1 s1 => ?_, q1⟩
    subst hb
    refine ⟨_, rfl, o, bo, rfl, ho.same s1, fun H2 s2 => ⟨_, rfl, ?_⟩⟩
    cases bo with
    | false => exact iteT ⟨_, rfl, _, rfl, fun d hd => q2 rfl rfl C_BadOrigin d _ e_BadOrigin.g (s1.trans s2) hd⟩
    | true =>
      refine iteF ?_
      obtain ⟨p, rs, rfl, hp, hl, hr⟩ := hv.good
      obtain ⟨q, x, y, rfl, hq, hx, hy⟩ := ho.parts
      have s12 := s1.trans s2
      refine ⟨_, rfl, q, _, rfl, SqT.of (s12 _ _ hq), rfl, _, _, rfl, _, _, rfl, rfl, ?_⟩
      refine ⟨_, rfl, _, rfl, _, rfl, p, rs, y, rfl, SqT.of (s12 _ _ hp), hl, hr, hy, fun e H3 s3 ez => ⟨by show 2 ≤ sizeLine; decide, fun r hr' => ?_⟩⟩
      exact q3 p q rs x y rfl rfl rfl hp hl hr rfl hq hy r e _ ((s12.trans s3).trans (Same.new hr')) ez upd_same
theorem ok__law_draw (T : Txt K mg) : Cal P w K mg base CX0 1 "_law_draw" ["cell", "k"] sp__law_draw := by
  refine T.d__law_draw.ok0 sc__law_draw (fun vs H Q E h => ?_) (fun f cdv A outer s H vs Q E hr h => ?_)
  · first | (obtain ⟨_, rfl, _⟩ := h; rfl) | (obtain ⟨_, _, rfl, _⟩ := h; rfl) | (obtain ⟨_, _, _, rfl, _⟩ := h; rfl) | (obtain ⟨_, _, _, _, rfl, _⟩ := h; rfl) | (obtain ⟨_, _, _, _, _, rfl, _⟩ := h; rfl)
  · refine ⟨_, (pss_one (ps_ret (pe_disp (pps_cons pe_str (pe_ifExp (pt_cmpR (op_ge) (pv 0) (pe_op op_pow pe_int pe_int) (nomark _)) (pv 0) pe_int) (pps_cons pe_str (pv 0) (pps_cons pe_str (pe_op op_mul pe_int (pv 1)) pps_nil))) rfl rfl (by simp) (by decide)))), ?_⟩
    obtain ⟨c, k, rfl, hk0, hk1, hQ⟩ := h
    have fin : ∀ l : Int, 0 ≤ l → ∀ p, H p = none → Q (.ref p) (upd (upd H p (.dK [])) p (.dK (mergeK [] (dkv l c (1000 * k))))) := fun l hl p hp =>
      hQ _ _ (fun b o e => by rw [upd_ne (ne_of_none e hp), upd_ne (ne_of_none e hp)]; exact e) hp ⟨l, c, 1000 * k, by rw [upd_same, dkv_merge], hl, by omega, by omega⟩
    intro p hp
    refine ⟨_, rfl, _, _, rfl, rfl, ⟨by decide, by decide, by decide⟩, _, _, rfl, rfl, _, rfl, ?_⟩
    refine iteB (fun hb => ?_) (fun hb => ?_)
    · have hc : (10 : Int) ^ (18 : Int).toNat ≤ c := of_decide_eq_true hb
      have h0 : (0 : Int) ≤ (10 : Int) ^ (18 : Int).toNat := by decide
      refine ⟨_, rfl, _, rfl, _, rfl, _, _, rfl, rfl, .inl ⟨by decide, by decide⟩, upd_same, dkv c c (1000 * k), rfl, by show 3 ≤ 15; decide, fin c (by omega) p hp⟩
    · refine ⟨_, rfl, _, rfl, _, _, rfl, rfl, .inl ⟨by decide, by decide⟩, upd_same, dkv 0 c (1000 * k), rfl, by show 3 ≤ 15; decide, fin 0 (by omega) p hp⟩
theorem ok__law_mixed (T : Txt K mg) : Cal P w K mg base CX0 1 "_law_mixed" ["cell", "k"] sp__law_mixed := by
  refine T.d__law_mixed.ok0 sc__law_mixed (fun vs H Q E h => ?_) (fun f cdv A outer s H vs Q E hr h => ?_)
  · first | (obtain ⟨_, rfl, _⟩ := h; rfl) | (obtain ⟨_, _, rfl, _⟩ := h; rfl) | (obtain ⟨_, _, _, rfl, _⟩ := h; rfl) | (obtain ⟨_, _, _, _, rfl, _⟩ := h; rfl) | (obtain ⟨_, _, _, _, _, rfl, _⟩ := h; rfl)
  · refine ⟨_, (pss_cons (ps_set (i := 2) sc__law_mixed.nd rfl (by first | exact Or.inl rfl | exact Or.inr rfl) (pe_op op_add (pe_op op_add (pe_op op_mod (pe_callTy call_int1 (by rfl) T.b_int (by decide +kernel) (pa_cons (pv 0) pa_nil)) (pe_ix ix_list (pe_lst (pa_cons pe_int (pa_cons pe_int (pa_cons pe_int (pa_cons pe_int pa_nil))))) (pe_op op_mod (pe_callTy call_int1 (by rfl) T.b_int (by decide +kernel) (pa_cons (pv 1) pa_nil)) pe_int) (fun _ _ => rfl))) (pe_op op_mul pe_int (pv 1))) pe_int))
      (pss_one (ps_ret (pe_op op_mod (pe_callTy call_int1 (by rfl) T.b_int (by decide +kernel) (pa_cons (pe_op op_mul (pe_op op_mod (pe_callTy call_int1 (by rfl) T.b_int (by decide +kernel) (pa_cons (pe_op op_mul (pv 2) (pv 2)) pa_nil)) pe_int) pe_int) pa_nil)) pe_int)))), ?_⟩
    obtain ⟨c, k, rfl, hk0, hk1, hQ⟩ := h
    refine ⟨_, rfl, .inl ⟨_, rfl, ?_⟩⟩
    refine ⟨by show 4 ≤ sizeLine; decide, fun p hp => ?_⟩
    refine ⟨_, rfl, .inl ⟨_, rfl, ?_⟩⟩
    refine ⟨_, _, rfl, rfl, by show (0 : Int) < 4; decide, ?_⟩
    obtain ⟨v, hv, ha⟩ := menu (xs := [V.int 1000000007, V.int 998244353, V.int 2147483629, V.int 1000000009]) (i := k % 4) (by omega) (by show k % 4 < 4; omega)
    obtain ⟨m, rfl, hm0, hm1⟩ : ∃ m : Int, v = .int m ∧ 0 < m ∧ m < 2147483647 := by
      simp only [List.mem_cons, List.not_mem_nil, or_false] at hv
      rcases hv with rfl | rfl | rfl | rfl <;> exact ⟨_, rfl, by decide, by decide⟩
    refine ⟨p, _, _, _, rfl, rfl, SqL.of upd_same, ha, ?_⟩
    refine ⟨_, _, rfl, rfl, hm0, ?_⟩
    refine ⟨_, rfl, _, _, rfl, rfl, .inl ⟨by decide, by decide⟩, ?_⟩
    refine ⟨_, _, rfl, rfl, ?_⟩
    refine ⟨_, _, rfl, rfl, ?_⟩
    have h1 : 0 ≤ c % m := Int.emod_nonneg _ (by omega)
    have h2 : c % m < m := Int.emod_lt_of_pos _ hm0
    generalize c % m = q at h1 h2 ⊢
    refine ⟨_, rfl, _, rfl, _, _, rfl, rfl, .inl ⟨by show (-(2 ^ 64) : Int) < q + 7919 * k + 13; omega, by show q + 7919 * k + 13 < (2 ^ 64 : Int); omega⟩, ?_⟩
    refine .inl ⟨_, rfl, ?_⟩
    refine ⟨_, _, rfl, rfl, by show (0 : Int) < 2147483647; decide, ?_⟩
    refine ⟨_, _, rfl, rfl, .inr ⟨by decide, by decide⟩, ?_⟩
    refine .inl ⟨_, rfl, ?_⟩
    refine ⟨_, _, rfl, rfl, by show (0 : Int) < 2147483647; decide, ?_⟩
    exact hQ _ _ (Same.new hp) (Int.emod_nonneg _ (by decide)) (Int.emod_lt_of_pos _ (by decide))
theorem ok__law_digit (T : Txt K mg) : Cal P w K mg base CX0 2 "_law_digit" ["draw", "span"] sp__law_digit := by
  refine T.d__law_digit.ok0 sc__law_digit (fun vs H Q E h => ?_) (fun f cdv A outer s H vs Q E hr h => ?_)
  · first | (obtain ⟨_, rfl, _⟩ := h; rfl) | (obtain ⟨_, _, rfl, _⟩ := h; rfl) | (obtain ⟨_, _, _, rfl, _⟩ := h; rfl) | (obtain ⟨_, _, _, _, rfl, _⟩ := h; rfl) | (obtain ⟨_, _, _, _, _, rfl, _⟩ := h; rfl)
  · have hu := hu_of hr
    refine ⟨_, (Evl.pss_cut (ps_if (pt_cmpR (op_eq) (pe_dget hu (pv 0) pe_str (fun _ _ => rfl)) pe_int (nomark _))
      (pss_one (ps_for PassesOwn.never rfl (pi_range1 (by rfl) T.b_range (pa_cons pe_int pa_nil)) (pg_name (i := 2) sc__law_digit.nd rfl (by first | exact Or.inl rfl | exact Or.inr rfl))
      (pss_cons (ps_dput hu (pv 0) pe_str (pe_op op_add (pe_dget hu (pv 0) pe_str (fun _ _ => rfl)) pe_int) rfl)
      (pss_one (ps_dput hu (pv 0) pe_str (pe_op op_add (pe_op op_mul (pe_dget hu (pv 0) pe_str (fun _ _ => rfl)) pe_int) (pe_c (ok__law_mixed T) hr (by decide) (by rfl) pass0 (pa_cons (pe_dget hu (pv 0) pe_str (fun _ _ => rfl)) (pa_cons (pe_dget hu (pv 0) pe_str (fun _ _ => rfl)) pa_nil)))) rfl)))))
      pss_nil)
      (pss_cons (ps_set (i := 3) sc__law_digit.nd rfl (by first | exact Or.inl rfl | exact Or.inr rfl) (pe_op op_mod (pe_callTy call_int1 (by rfl) T.b_int (by decide +kernel) (pa_cons (pe_dget hu (pv 0) pe_str (fun _ _ => rfl)) pa_nil)) (pv 1)))
      (pss_cons (ps_dput hu (pv 0) pe_str (pe_op op_fdivW (pe_callTy call_int1 (by rfl) T.b_int (by decide +kernel) (pa_cons (pe_dget hu (pv 0) pe_str (fun _ _ => rfl)) pa_nil)) (pv 1)) rfl)
      (pss_one (ps_ret (pv 3)))))), ?_⟩
    obtain ⟨d, sp, n, rfl, hs0, hs1, ⟨l, c, t, hd, hl, ht, hn⟩, hQ⟩ := h
    refine ⟨fun σ' H' => ∃ (j : Option V) (l1 t1 : Int), σ' = [some (.ref d), some (.int sp), j, none] ∧ Keep d H H' ∧ H' d = some (.dK (dkv l1 c t1)) ∧ 0 ≤ l1 ∧ 0 ≤ t1 ∧ t1 + 4 * (n : Int) ≤ 1000000000, ?_, ?_⟩
    · refine ⟨_, rfl, d, _, rfl, dget_left hd, rfl, _, rfl, ?_⟩
      refine iteB (fun hb => ?_) (fun hb => ?_)
      · refine ⟨4, rfl, by decide, by decide, for_range (n := 4) (fun i σ H1 => ∃ (j : Option V) (l1 t1 : Int), σ = [some (.ref d), some (.int sp), j, none] ∧ Keep d H H1 ∧ H1 d = some (.dK (dkv l1 c t1)) ∧ 0 ≤ l1 ∧ 0 ≤ t1 ∧ t1 = t + i) ⟨none, l, t, rfl, Keep.refl, hd, hl, ht, by simp⟩ ?_ ?_⟩
        · rintro i σ H1 hi ⟨j, l1, t1, rfl, k1, h1, hl1, ht1, et⟩
          refine ⟨_, rfl, d, _, rfl, dget_turns h1, _, _, rfl, rfl, _, rfl, d, _, rfl, dput_turns _ h1, ?_⟩
          have h2 : (upd H1 d (.dK (dkv l1 c (t1 + 1)))) d = some (.dK (dkv l1 c (t1 + 1))) := upd_same
          refine ⟨_, rfl, d, _, rfl, dget_left h2, _, _, rfl, rfl, .inr ⟨by decide, by decide⟩, _, rfl, d, _, rfl, dget_cell h2, _, rfl, d, _, rfl, dget_turns h2, ?_⟩
          refine ⟨_, _, rfl, by omega, by omega, fun r H3 s3 hr0 hr1 => ?_⟩
          refine ⟨_, _, rfl, rfl, _, rfl, d, _, rfl, dput_left _ (s3 _ _ h2), ?_⟩
          exact ⟨_, _, _, rfl, ((k1.upd).same s3).upd, upd_same, by omega, by omega, by omega⟩
        · rintro σ H1 ⟨j, l1, t1, rfl, k1, h1, hl1, ht1, et⟩
          exact ⟨j, l1, t1, rfl, k1, h1, hl1, ht1, by omega⟩
      · exact ⟨none, l, t, rfl, Keep.refl, hd, hl, ht, by omega⟩
    · rintro σ' H1 ⟨j, l1, t1, rfl, k1, h1, hl1, ht1, ht2⟩
      refine ⟨_, rfl, d, _, rfl, dget_left h1, .inl ⟨_, rfl, _, rfl, _, _, rfl, rfl, hs0, ?_⟩⟩
      refine ⟨_, rfl, d, _, rfl, dget_left h1, .inl ⟨_, rfl, _, rfl, _, _, rfl, rfl, ?_, _, rfl, d, _, rfl, dput_left _ h1, ?_⟩⟩
      · exact wide_div (b := 32) hs0 (by omega) (by decide) (by decide)
      · exact ⟨_, rfl, hQ _ _ (Int.emod_nonneg _ (by omega)) (Int.emod_lt_of_pos _ hs0) k1.upd ⟨_, _, _, upd_same, Int.ediv_nonneg hl1 (by omega), ht1, ht2⟩⟩
theorem ok__law_rule (T : Txt K mg) : Cal P w K mg base CX0 3 "_law_rule" ["draw", "k"] sp__law_rule := by
  refine T.d__law_rule.ok0 sc__law_rule (fun vs H Q E h => ?_) (fun f cdv A outer s H vs Q E hr h => ?_)
  · first | (obtain ⟨_, rfl, _⟩ := h; rfl) | (obtain ⟨_, _, rfl, _⟩ := h; rfl) | (obtain ⟨_, _, _, rfl, _⟩ := h; rfl) | (obtain ⟨_, _, _, _, rfl, _⟩ := h; rfl) | (obtain ⟨_, _, _, _, _, rfl, _⟩ := h; rfl)
  · refine ⟨_, (pss_cons (ps_set (i := 2) sc__law_rule.nd rfl (by first | exact Or.inl rfl | exact Or.inr rfl) (pe_op op_cat (pe_lst (pa_cons (pe_op op_add_str pe_str (pe_callTy call_str_int (by rfl) T.b_str (by decide +kernel) (pa_cons (pv 1) pa_nil))) pa_nil)) (pe_lc (own := [(("j" : Str), 3)]) rfl sc__law_rule.nd (pi_range1 (by rfl) T.b_range (pa_cons (pe_op op_add pe_int (pe_ix ix_list (pe_lst (pa_cons pe_int (pa_cons pe_int (pa_cons pe_int (pa_cons pe_int pa_nil))))) (pe_c (ok__law_digit T) hr (by decide) (by rfl) pass0 (pa_cons (pv 0) (pa_cons pe_int pa_nil))) (fun _ _ => rfl))) pa_nil)) (blkOk_by (N := ["draw", "k", "words", "j"]) (sc := defScope s__law_rule) (by decide +kernel)) (fun _ _ _ _ _ => (pg_name (i := 3) sc__law_rule.nd rfl (by first | exact Or.inl rfl | exact Or.inr rfl))) (fun _ _ _ _ _ => pts_nil) (fun _ _ _ _ _ => (pe_ix ix_str pe_str (pe_c (ok__law_digit T) hr (by decide) (by rfl) pass0 (pa_cons (pv 0) (pa_cons pe_int pa_nil))) (fun _ _ => rfl))))))
      (pss_one (ps_ret (pe_ix ix_list (pe_lst (pa_cons (pe_join pe_str (pv 2)) (pa_cons (pe_op op_add_str pe_str (pe_join pe_str (pv 2))) (pa_cons (pe_op op_add_str pe_str (pe_join pe_str (pv 2))) (pa_cons (pe_ix ix_list (pv 2) pe_int (fun _ _ => rfl)) pa_nil))))) (pe_c (ok__law_digit T) hr (by decide) (by rfl) pass0 (pa_cons (pv 0) (pa_cons pe_int pa_nil))) (fun _ _ => rfl))))), ?_⟩
    obtain ⟨d, n, k, rfl, hk, D, hQ⟩ := h
    have hlog : ((k : Nat) : Int).natAbs.log2 < 1920 := by
      have : ((k : Nat) : Int).natAbs < 2 ^ 8 := by rw [Int.natAbs_natCast]; omega
      exact Nat.lt_of_lt_of_le (PySem.Flt.log2_lt_of (by decide) this) (by decide)
    have nk := num_ok k (by omega)
    simp only [Bool.and_eq_true, decide_eq_true_eq] at nk
    have tn : tl (Str.ofString (toString ((k : Nat) : Int))) = numL k := tl_num k
    have lh : (tl (("n" : Str) ++ Str.ofString (toString ((k : Nat) : Int)))) = 110 :: numL k := by rw [tl_append, tn]; rfl
    refine ⟨_, rfl, _, rfl, hlog, _, _, rfl, rfl, Nat.le_trans (by rw [len_tl, len_tl, tn, show (tl ("n" : Str)).length = 1 by decide +kernel]; omega : _ ≤ 1000) (by decide), by show 1 ≤ sizeLine; decide, fun p1 hp1 => ?_⟩
    generalize ("n" : Str) ++ Str.ofString (toString ((k : Nat) : Int)) = X at *
    have d1 := D.ne hp1
    refine ⟨by show 4 ≤ sizeLine; decide, fun p2 hp2 => ?_⟩
    have m1 := (Same.new (o := HO.lst [V.int 0, V.int 1, V.int 2, V.int 11]) hp2) _ _ (upd_same (H := H) (a := p1) (o := HO.lst [V.str X]))
    have D1 := D.upd (o := HO.lst [V.str X]) d1.symm
    have d2 := D1.ne hp2
    have k0 : Keep d H _ := (Same.keep (Same.new (o := HO.lst [V.str X]) hp1)).same (Same.new (o := HO.lst [V.int 0, V.int 1, V.int 2, V.int 11]) hp2)
    refine ⟨_, rfl, d, 4, n + 19, rfl, by decide, by decide, (D1.upd d2.symm), fun r1 H1 h01 h11 k1 D1' => ?_⟩
    obtain ⟨v, hv, ha⟩ := menu (xs := [V.int 0, V.int 1, V.int 2, V.int 11]) (i := r1) h01 (by show r1 < 4; omega)
    obtain ⟨m, rfl, hm⟩ : ∃ m : Nat, v = .int (m : Int) ∧ m ≤ 11 := by
      simp only [List.mem_cons, List.not_mem_nil, or_false] at hv
      rcases hv with rfl | rfl | rfl | rfl
      · exact ⟨0, rfl, by decide⟩
      · exact ⟨1, rfl, by decide⟩
      · exact ⟨2, rfl, by decide⟩
      · exact ⟨11, rfl, by decide⟩
    refine ⟨p2, _, _, _, rfl, rfl, SqL.of (k1 _ _ upd_same d2), ha, _, _, rfl, rfl, _, rfl, by omega, by omega, fun L hL => ?_⟩
    have m1 := k1 _ _ m1 d1
    have k0 := k0.trans k1
    have hdL : L ≠ d := D1'.ne hL
    refine lc_range (n := ((1 : Int) + (m : Int)).toNat) (fun i H4 => ∃ W : List Str, W.length = i ∧ (∀ w ∈ W, labB (tl w) = true ∧ (tl w).length ≤ 1) ∧ H4 L = some (.lst (W.map V.str)) ∧ Keep d H1 H4 ∧ DrawAt H4 d (n + 19 - i)) ⟨[], rfl, by simp, upd_same, Keep.refl.updN hL, D1'.upd hdL.symm⟩ ?_ ?_
    · rintro i H4 hi ⟨W, hW, hw, hlw, k4, D4⟩
      refine ⟨rfl, ?_⟩
      refine ⟨_, rfl, d, 3, n + 19 - i - 1, rfl, by decide, by decide, D4.less (by omega), fun r H5 h0 h1 k5 D5 => ?_⟩
      obtain ⟨c, hc, hal⟩ := ab7_at h0 h1
      have hl5 : H5 L = some (.lst (W.map V.str)) := k5 L _ hlw hdL
      refine ⟨_, _, c, rfl, rfl, by decide +kernel, hc, ?_⟩
      refine ⟨_, hl5, Nat.lt_of_le_of_lt (by rw [List.length_map]; omega : _ ≤ 1000) (by decide), W ++ [⟨#[c]⟩], by rw [List.length_append, hW]; rfl, fun w hw' => ?_, by rw [upd_same, List.map_append]; rfl, (k4.trans k5).updN hL, (D5.less (by omega)).upd hdL.symm⟩
      rcases List.mem_append.mp hw' with q | q
      · exact hw w q
      · rw [List.mem_singleton.mp q]; exact ⟨hal, by show 1 ≤ 1; decide⟩
    rintro H4 ⟨W, hW, hw, hlw, k4, D4⟩
    have m4 := k4 _ _ m1 d1
    have k0 := k0.trans k4
    refine ⟨_, _, _, _, rfl, rfl, m4, hlw, Nat.le_trans (by simp only [List.length_map, List.length_cons, List.length_nil]; omega : _ ≤ 100) (by decide), fun p3 hp3 => ?_⟩
    have d3 := D4.ne hp3
    have n3 := Same.new (o := HO.lst ([V.str X] ++ W.map V.str)) hp3
    have m3 : (upd H4 p3 (.lst ([V.str X] ++ W.map V.str))) p3 = some (.lst ((X :: W).map V.str)) := upd_same
    have k0 := k0.same n3
    have D3 := D4.same n3
    generalize upd H4 p3 (.lst ([V.str X] ++ W.map V.str)) = H3 at *
    have lX : (tl X).length ≤ 4 := by rw [lh, List.length_cons]; omega
    have eJ := words_join (X :: W)
    have hWl : W.length = 1 + m := by omega
    have dot1 : ("." : Str).length = 1 := by decide +kernel
    have hs : ((X :: W).map (·.length)).sum ≤ (X :: W).length * 4 := words_len fun x hx => by
      rcases List.mem_cons.mp hx with rfl | hx
      · exact lX
      · have := (hw x hx).2; omega
    have hJ : (Txt.join ("." : Str) (X :: W)).length ≤ 80 := by
      rw [len_tl, eJ]
      have := joinL_len (c := 46) (B := 4) ((X :: W).map tl) fun l hl => by
        obtain ⟨w, hw', rfl⟩ := List.mem_map.mp hl
        rcases List.mem_cons.mp hw' with rfl | hx
        · exact lX
        · have := (hw w hx).2; omega
      rw [List.length_map, List.length_cons] at this
      omega
    have hsz : ((X :: W).map (·.length)).sum + (X :: W).length * ("." : Str).length ≤ 16777216 := by rw [dot1]; simp only [List.length_cons] at hs ⊢; omega
    have all : ∀ l ∈ (X :: W).map tl, labB l = true := fun l hl => by
      obtain ⟨w, hw', rfl⟩ := List.mem_map.mp hl
      rcases List.mem_cons.mp hw' with rfl | hx
      · rw [lh]; exact own_lab k hk
      · exact (hw w hx).1
    have ne : (X :: W).map tl ≠ [] := by simp
    have s2 : ("*." : Str).length = 2 := by decide +kernel
    have s1 : ("!" : Str).length = 1 := by decide +kernel
    refine ⟨⟨_, rfl⟩, _, rfl, _, p3, X :: W, rfl, rfl, .inl (SqL.of m3), hsz, ?_⟩
    refine ⟨⟨_, rfl⟩, _, rfl, _, p3, X :: W, rfl, rfl, .inl (SqL.of m3), hsz, _, _, rfl, rfl, Nat.le_trans (by omega : _ ≤ 1000) (by decide), ?_⟩
    refine ⟨⟨_, rfl⟩, _, rfl, _, p3, X :: W, rfl, rfl, .inl (SqL.of m3), hsz, _, _, rfl, rfl, Nat.le_trans (by omega : _ ≤ 1000) (by decide), ?_⟩
    refine ⟨_, rfl, p3, _, _, _, rfl, rfl, SqL.of m3, (show atI ((X :: W).map V.str) ((0 : Nat) : Int) = some (V.str X) from atI_nat rfl), ?_⟩
    generalize hJe : Txt.join ("." : Str) (X :: W) = J at *
    refine ⟨by show 4 ≤ sizeLine; decide, fun p4 hp4 => ?_⟩
    have d4 := D3.ne hp4
    refine ⟨_, rfl, d, 4, n + 1, rfl, by decide, by decide, (D3.upd d4.symm).less (by omega), fun r6 H6 h06 h16 k6 D6 => ?_⟩
    obtain ⟨v, hv, ha⟩ := menu (xs := [V.str J, V.str (("*." : Str) ++ J), V.str (("!" : Str) ++ J), V.str X]) (i := r6) h06 (by show r6 < 4; omega)
    refine ⟨p4, _, _, _, rfl, rfl, SqL.of (k6 _ _ upd_same d4), ha, ?_⟩
    have kf := k0.trans (Same.then (Same.new hp4) k6)
    have D6 := D6.less (show n ≤ n + 1 by omega)
    have own : ∃ rest, (rest = [] ∨ rest.head? = some 46) ∧ tl J = 110 :: (numL k ++ rest) := by
      rw [eJ, List.map_cons, lh]
      cases W with
      | nil => exact ⟨[], .inl rfl, by simp [joinL]⟩
      | cons w W => exact ⟨46 :: joinL [46] ((w :: W).map tl), .inr rfl, by simp [joinL]⟩
    obtain ⟨rest, hr, eo⟩ := own
    have spJ : sp1 46 (tl J) = (X :: W).map tl := by rw [eJ]; exact sp1_joinL ne fun l hl => dot_free (all l hl)
    have ex0 : excT (tl J) = false := by rw [eo]; rfl
    simp only [List.mem_cons, List.not_mem_nil, or_false] at hv
    rcases hv with rfl | rfl | rfl | rfl
    · refine hQ _ _ ?_ (by omega) ⟨[], rest, .inl rfl, hr, eo⟩ kf D6
      unfold ruleB
      rw [ex0, if_neg Bool.false_ne_true, if_neg (by rw [eo]; simp [List.isPrefixOf]), spJ]
      exact List.all_eq_true.mpr all
    · have e : tl (("*." : Str) ++ J) = 42 :: 46 :: tl J := by rw [tl_append]; rfl
      refine hQ _ _ ?_ (by rw [Str.length_append]; omega) ⟨[42, 46], rest, .inr (.inl rfl), hr, by rw [e, eo]; rfl⟩ kf D6
      rw [e]
      unfold ruleB
      rw [show excT (42 :: 46 :: tl J) = false from rfl, if_neg Bool.false_ne_true, if_pos (by simp [List.isPrefixOf])]
      show (sp1 46 (tl J)).all labB = true
      rw [spJ]
      exact List.all_eq_true.mpr all
    · have e : tl (("!" : Str) ++ J) = 33 :: tl J := by rw [tl_append]; rfl
      refine hQ _ _ ?_ (by rw [Str.length_append]; omega) ⟨[33], rest, .inr (.inr rfl), hr, by rw [e, eo]; rfl⟩ kf D6
      rw [e]
      unfold ruleB
      rw [show excT (33 :: tl J) = true from rfl, if_pos rfl, Bool.and_eq_true]
      show _ ∧ (sp1 46 (tl J)).all labB = true
      refine ⟨decide_eq_true ?_, ?_⟩
      · show 1 < (sp1 46 (tl J)).length
        rw [spJ, List.length_map, List.length_cons]; omega
      · rw [spJ]; exact List.all_eq_true.mpr all
    · refine hQ _ _ ?_ (by rw [len_tl]; omega) ⟨[], [], .inl rfl, .inl rfl, by rw [lh]; simp⟩ kf D6
      have lx := all (tl X) (by simp)
      unfold ruleB
      rw [show excT (tl X) = false by rw [lh]; rfl, if_neg Bool.false_ne_true, if_neg (by rw [lh]; simp [List.isPrefixOf]), sp1_of_free (dot_free lx)]
      simp [lx]
theorem ok__law_rules (T : Txt K mg) : Cal P w K mg base CX0 4 "_law_rules" ["draw"] (sp__law_rules K) := by
  refine T.d__law_rules.ok0 sc__law_rules (fun vs H Q E h => ?_) (fun f cdv A outer s H vs Q E hr h => ?_)
  · first | (obtain ⟨_, rfl, _⟩ := h; rfl) | (obtain ⟨_, _, rfl, _⟩ := h; rfl) | (obtain ⟨_, _, _, rfl, _⟩ := h; rfl) | (obtain ⟨_, _, _, _, rfl, _⟩ := h; rfl) | (obtain ⟨_, _, _, _, _, rfl, _⟩ := h; rfl)
  · refine ⟨_, (pss_cons (ps_set (i := 1) sc__law_rules.nd rfl (by first | exact Or.inl rfl | exact Or.inr rfl) (pe_ix ix_list (pe_lst (pa_cons pe_int (pa_cons pe_int (pa_cons pe_int (pa_cons pe_int (pa_cons pe_int (pa_cons pe_int (pa_cons pe_int (pa_cons pe_int pa_nil))))))))) (pe_c (ok__law_digit T) hr (by decide) (by rfl) pass0 (pa_cons (pv 0) (pa_cons pe_int pa_nil))) (fun _ _ => rfl)))
      (pss_cons (ps_par (i := 2) (j := 3) rfl sc__law_rules.nd rfl rfl (by decide) rfl rfl (pa_cons (pe_lc (own := [(("k" : Str), 7)]) rfl sc__law_rules.nd (pi_range1 (by rfl) T.b_range (pa_cons (pv 1) pa_nil)) (blkOk_by (N := ["draw", "many", "items", "wrong", "odd", "at", "found", "k"]) (sc := defScope s__law_rules) (by decide +kernel)) (fun _ _ _ _ _ => (pg_name (i := 7) sc__law_rules.nd rfl (by first | exact Or.inl rfl | exact Or.inr rfl))) (fun _ _ _ _ _ => pts_nil) (fun _ _ _ _ _ => (pe_c (ok__law_rule T) hr (by decide) (by rfl) pass0 (pa_cons (pv 0) (pa_cons (pv 7) pa_nil))))) (pa_cons (pe_lst (pa_cons pe_non (pa_cons pe_non pa_nil))) pa_nil)) (by rfl))
      (pss_cons (ps_set (i := 4) sc__law_rules.nd rfl (by first | exact Or.inl rfl | exact Or.inr rfl) (pe_lst (pa_cons pe_non (pa_cons pe_int (pa_cons pe_str (pa_cons pe_str (pa_cons pe_str (pa_cons pe_str (pa_cons pe_str (pa_cons pe_str (pa_cons pe_str (pa_cons pe_str (pa_cons pe_str (pa_cons pe_str (pa_cons pe_str (pa_cons (pe_op op_mulS pe_str pe_int) pa_nil))))))))))))))))
      (pss_cons (ps_set (i := 4) sc__law_rules.nd rfl (by first | exact Or.inl rfl | exact Or.inr rfl) (pe_op op_cat (pv 4) (pe_lst (pa_cons (pe_tup (pa_cons pe_str pa_nil)) (pa_cons pe_str (pa_cons pe_str pa_nil))))))
      (Evl.pss_cut (ps_if (PW.pt (pw_and (pt_cmpR (op_gt) (pv 1) pe_int (nomark _)) (pw_and1 (pt_cmpR (op_eq) (pe_c (ok__law_digit T) hr (by decide) (by rfl) pass0 (pa_cons (pv 0) (pa_cons pe_int pa_nil))) pe_int (nomark _)))))
      (pss_cons (ps_set (i := 5) sc__law_rules.nd rfl (by first | exact Or.inl rfl | exact Or.inr rfl) (pe_c (ok__law_digit T) hr (by decide) (by rfl) pass0 (pa_cons (pv 0) (pa_cons (pv 1) pa_nil))))
      (pss_cons (ps_asg (pv 5) (pg_sub (pv 3) pe_int set_list))
      (pss_cons (ps_asg (pe_ix ix_list (pv 4) (pe_c (ok__law_digit T) hr (by decide) (by rfl) pass0 (pa_cons (pv 0) (pa_cons pe_int pa_nil))) (fun _ _ => rfl)) (pg_sub (pv 2) (pv 5) set_list))
      (pss_one (ps_if (PW.pt (pw_and (pt_cmpR (op_gt) (pv 5) pe_int (nomark _)) (pw_and1 (pt_cmpR (op_eq) (pe_c (ok__law_digit T) hr (by decide) (by rfl) pass0 (pa_cons (pv 0) (pa_cons pe_int pa_nil))) pe_int (nomark _)))))
      (pss_one (ps_asg (pe_ix ix_list (pv 2) (pe_c (ok__law_digit T) hr (by decide) (by rfl) pass0 (pa_cons (pv 0) (pa_cons (pv 5) pa_nil))) (fun _ _ => rfl)) (pg_sub (pv 2) (pv 5) set_list)))
      pss_nil)))))
      pss_nil)
      (Evl.pss_cut (ps_asg (pe_ifExp (pt_cmpR (op_gt) (pv 1) pe_int (nomark _)) pe_int pe_non) (pg_sub (pv 3) pe_int set_list))
      (pss_cons (ps_setLc (i := 6) (own := [(("at" : Str), 5)]) rfl sc__law_rules.nd rfl rfl (sw_true rfl rfl rfl (by decide +kernel)) (pi_list (pv 3)) (blkOk_by (N := ["draw", "many", "items", "wrong", "odd", "at", "found", "k"]) (sc := defScope s__law_rules) (by decide +kernel)) (fun _ _ _ _ _ => (pg_name (i := 5) sc__law_rules.nd rfl (by first | exact Or.inl rfl | exact Or.inr rfl))) (fun _ _ _ _ _ => (pts_one (pt_cmpR (op_notN) (pv 5) pe_non (nomark _)))) (fun _ _ _ _ _ => (pv 5)))
      (pss_one (ps_ret (pe_tup (pa_cons (pe_callTy call_tuple_of (by rfl) T.b_tuple (by decide +kernel) (pa_cons (pv 2) pa_nil)) (pa_cons (pe_ifExp (pt_cmpR (op_neD hr.units) (pv 6) (pe_lst pa_nil) (nomark _)) (pe_callB (cr_min rfl) (by rfl) T.b_min (by decide +kernel) (pa_cons (pv 6) pa_nil)) pe_non) pa_nil)))))))))))), ?_⟩
    obtain ⟨d, n, rfl, D, hQ⟩ := h
    refine ⟨by show 8 ≤ sizeLine; decide, fun p1 hp1 => ?_⟩
    have d1 := D.ne hp1
    have D1 := D.upd (o := HO.lst [V.int 0, V.int 1, V.int 2, V.int 5, V.int 29, V.int 30, V.int 31, V.int 32]) d1.symm
    refine ⟨_, rfl, d, 8, n + 799, rfl, by decide, by decide, D1, fun r1 H1 h01 h11 k1 D1' => ?_⟩
    obtain ⟨v, hv, ha⟩ := menu (xs := [V.int 0, V.int 1, V.int 2, V.int 5, V.int 29, V.int 30, V.int 31, V.int 32]) (i := r1) h01 (by show r1 < 8; omega)
    obtain ⟨m, rfl, hm⟩ : ∃ m : Nat, v = .int (m : Int) ∧ m ≤ 32 := by
      simp only [List.mem_cons, List.not_mem_nil, or_false] at hv
      rcases hv with rfl | rfl | rfl | rfl | rfl | rfl | rfl | rfl
      · exact ⟨0, rfl, by decide⟩
      · exact ⟨1, rfl, by decide⟩
      · exact ⟨2, rfl, by decide⟩
      · exact ⟨5, rfl, by decide⟩
      · exact ⟨29, rfl, by decide⟩
      · exact ⟨30, rfl, by decide⟩
      · exact ⟨31, rfl, by decide⟩
      · exact ⟨32, rfl, by decide⟩
    have k0 : Keep d H H1 := Same.then (Same.new hp1) k1
    refine ⟨p1, _, _, _, rfl, rfl, SqL.of (k1 _ _ upd_same d1), ha, ?_⟩
    refine ⟨_, rfl, _, rfl, by omega, by omega, fun L hL => ?_⟩
    have hdL : L ≠ d := D1'.ne hL
    refine lc_range (n := (m : Int).toNat) (fun i H4 => ∃ W : List Str, W.length = i ∧ (∀ j x, W[j]? = some x → ruleB (tl x) = true ∧ x.length ≤ 100 ∧ OwnR j (tl x)) ∧ H4 L = some (.lst (W.map V.str)) ∧ Keep d H1 H4 ∧ DrawAt H4 d (n + 799 - 20 * i)) ⟨[], rfl, by simp, upd_same, Keep.refl.updN hL, D1'.upd hdL.symm⟩ ?_ ?_
    · rintro i H4 hi ⟨W, hW, hw, hlw, k4, D4⟩
      refine ⟨rfl, ?_⟩
      refine ⟨_, rfl, _, rfl, d, n + 799 - 20 * i - 20, 0 + i, rfl, by omega, D4.less (by omega), fun x H5 hr hx ho k5 D5 => ?_⟩
      rw [Nat.zero_add] at ho
      refine ⟨_, k5 L _ hlw hdL, Nat.lt_of_le_of_lt (by rw [List.length_map]; omega : _ ≤ 1000) (by decide), W ++ [x], by rw [List.length_append, hW]; rfl, fun j y hj => ?_, by rw [upd_same, List.map_append]; rfl, (k4.trans k5).updN hL, (D5.less (by omega)).upd hdL.symm⟩
      rw [List.getElem?_append] at hj
      split at hj
      · exact hw j y hj
      · rename_i hlt
        rw [List.getElem?_singleton] at hj
        split at hj
        · cases hj
          obtain rfl : j = i := by omega
          exact ⟨hr, hx, ho⟩
        · cases hj
    rintro H4 ⟨W, hW, hw, hlw, k4, D4⟩
    have hWl : W.length = m := by omega
    have k01 := k0
    have k0 := k0.trans k4
    have D4 := D4.less (show n + 100 ≤ n + 799 - 20 * (m : Int).toNat by omega)
    refine ⟨by show 2 ≤ sizeLine; decide, fun p2 hp2 => ⟨_, _, rfl, ?_⟩⟩
    have fL : H L = none := keep_none k01 hL hdL
    have f2 : H p2 = none := keep_none k0 hp2 (D4.ne hp2)
    have d2 := D4.ne hp2
    have nL2 : L ≠ p2 := fun e => by rw [e, hp2] at hlw; cases hlw
    have s5 := Same.new (o := HO.lst [V.non, V.non]) hp2
    have m2 : (upd H4 p2 (.lst [V.non, V.non])) p2 = some (.lst [V.non, V.non]) := upd_same
    have mL := s5 _ _ hlw
    have k5 := k0.same s5
    have D5 := D4.same s5
    generalize upd H4 p2 (.lst [V.non, V.non]) = H5 at *
    refine ⟨_, _, rfl, rfl, by decide, by decide, by decide +kernel, fun z hz => ⟨by show 14 ≤ sizeLine; decide, fun p5 hp5 => ?_⟩⟩
    refine ⟨_, rfl, by show 1 ≤ sizeLine; decide, fun t ht => ⟨by show 3 ≤ sizeLine; decide, fun p6 hp6 => ⟨_, _, _, _, rfl, rfl, (Same.new hp6) _ _ ((Same.new ht) _ _ upd_same), upd_same, Nat.le_trans (by show 14 + 3 ≤ 100; decide) (by decide), fun p7 hp7 => ?_⟩⟩⟩
    have s7 : Same H5 (upd (upd (upd (upd H5 p5 (HO.lst [V.non, V.int 5, V.str (""), V.str ("."), V.str ("a."), V.str (".a"), V.str ("*"), V.str ("!a"), V.str ("!*.a.b"), V.str ("a.*"), V.str ("A"), V.str ("a_b"), V.str ("-a"), V.str z])) t (HO.tup [V.str ("a")])) p6 (HO.lst [V.ref t, V.str ("a..b"), V.str ("!!a.b")])) p7 (HO.lst ([V.non, V.int 5, V.str (""), V.str ("."), V.str ("a."), V.str (".a"), V.str ("*"), V.str ("!a"), V.str ("!*.a.b"), V.str ("a.*"), V.str ("A"), V.str ("a_b"), V.str ("-a"), V.str z] ++ [V.ref t, V.str ("a..b"), V.str ("!!a.b")]))) := (((Same.new hp5).trans (Same.new ht)).trans (Same.new hp6)).trans (Same.new hp7)
    have m7 : (upd (upd (upd (upd H5 p5 (HO.lst [V.non, V.int 5, V.str (""), V.str ("."), V.str ("a."), V.str (".a"), V.str ("*"), V.str ("!a"), V.str ("!*.a.b"), V.str ("a.*"), V.str ("A"), V.str ("a_b"), V.str ("-a"), V.str z])) t (HO.tup [V.str ("a")])) p6 (HO.lst [V.ref t, V.str ("a..b"), V.str ("!!a.b")])) p7 (HO.lst ([V.non, V.int 5, V.str (""), V.str ("."), V.str ("a."), V.str (".a"), V.str ("*"), V.str ("!a"), V.str ("!*.a.b"), V.str ("a.*"), V.str ("A"), V.str ("a_b"), V.str ("-a"), V.str z] ++ [V.ref t, V.str ("a..b"), V.str ("!!a.b")]))) p7 = some (.lst (oddL z t)) := upd_same
    have mt : (upd (upd (upd (upd H5 p5 (HO.lst [V.non, V.int 5, V.str (""), V.str ("."), V.str ("a."), V.str (".a"), V.str ("*"), V.str ("!a"), V.str ("!*.a.b"), V.str ("a.*"), V.str ("A"), V.str ("a_b"), V.str ("-a"), V.str z])) t (HO.tup [V.str ("a")])) p6 (HO.lst [V.ref t, V.str ("a..b"), V.str ("!!a.b")])) p7 (HO.lst ([V.non, V.int 5, V.str (""), V.str ("."), V.str ("a."), V.str (".a"), V.str ("*"), V.str ("!a"), V.str ("!*.a.b"), V.str ("a.*"), V.str ("A"), V.str ("a_b"), V.str ("-a"), V.str z] ++ [V.ref t, V.str ("a..b"), V.str ("!!a.b")]))) t = some (.tup [V.str "a"]) := (Same.new hp7) _ _ ((Same.new hp6) _ _ upd_same)
    have nt : ∀ b o, H5 b = some o → b ≠ t := fun b o e => ne_of_none ((Same.new hp5) _ _ e) ht
    have n7 : ∀ b o, H5 b = some o → b ≠ p7 := fun b o e => ne_of_none (((Same.new hp5).trans (Same.new ht)).trans (Same.new hp6) _ _ e) hp7
    generalize (upd (upd (upd (upd H5 p5 (HO.lst [V.non, V.int 5, V.str (""), V.str ("."), V.str ("a."), V.str (".a"), V.str ("*"), V.str ("!a"), V.str ("!*.a.b"), V.str ("a.*"), V.str ("A"), V.str ("a_b"), V.str ("-a"), V.str z])) t (HO.tup [V.str ("a")])) p6 (HO.lst [V.ref t, V.str ("a..b"), V.str ("!!a.b")])) p7 (HO.lst ([V.non, V.int 5, V.str (""), V.str ("."), V.str ("a."), V.str (".a"), V.str ("*"), V.str ("!a"), V.str ("!*.a.b"), V.str ("a.*"), V.str ("A"), V.str ("a_b"), V.str ("-a"), V.str z] ++ [V.ref t, V.str ("a..b"), V.str ("!!a.b")]))) = H7 at s7 m7 mt ⊢
    have n72 := n7 _ _ m2
    have n7L := n7 _ _ mL
    have nt2 := nt _ _ m2
    have ntL := nt _ _ mL
    have ndt : t ≠ d := by obtain ⟨_, _, _, e, _⟩ := D5; exact (nt _ _ e).symm
    have nd7 : p7 ≠ d := by obtain ⟨_, _, _, e, _⟩ := D5; exact (n7 _ _ e).symm
    have D7 := D5.same s7
    have k7 := k5.same s7
    have m2 := s7 _ _ m2
    have mL := s7 _ _ mL
    have hodd := odd_all (t := t) hz
    have hW1 : ∀ x ∈ W.map V.str, ItemV t x := fun x hx => by
      obtain ⟨y, hy, rfl⟩ := List.mem_map.mp hx
      obtain ⟨j, hj⟩ := List.mem_iff_getElem?.mp hy
      exact .inl ⟨y, rfl, by have := (hw j y hj).2.1; omega⟩
    have hok : ∀ j, j < (W.map V.str).length → OkB (W.map V.str) j := fun j hj => own_ok hw (by omega) j (by rw [List.length_map] at hj; exact hj)
    have hXl : (W.map V.str).length = m := by rw [List.length_map]; exact hWl
    generalize W.map V.str = X at *
    refine ⟨fun σ' H' => ∃ (v5 : Option V) (w0 : Option Nat) (xs : List V), σ' = [some (.ref d), some (.int (m : Nat)), some (.ref L), some (.ref p2), some (.ref p7), v5, none, none] ∧ H' L = some (.lst xs) ∧ H' p2 = some (.lst [optN w0, .non]) ∧ H' t = some (.tup [.str "a"]) ∧ xs.length = m ∧ (∀ x ∈ xs, ItemV t x) ∧ Mid xs w0 ∧ Keep d H H' ∧ DrawAt H' d (n + 50), ?_, ?_⟩
    · have nochange : ∀ H', Keep d H7 H' → DrawAt H' d (n + 50) → ∃ (v5 : Option V) (w0 : Option Nat) (xs : List V), [some (.ref d), some (.int (m : Nat)), some (.ref L), some (.ref p2), some (.ref p7), none, none, none] = [some (.ref d), some (.int (m : Nat)), some (.ref L), some (.ref p2), some (.ref p7), v5, none, none] ∧ H' L = some (.lst xs) ∧ H' p2 = some (.lst [optN w0, .non]) ∧ H' t = some (.tup [.str "a"]) ∧ xs.length = m ∧ (∀ x ∈ xs, ItemV t x) ∧ Mid xs w0 ∧ Keep d H H' ∧ DrawAt H' d (n + 50) := fun H' k D => ⟨none, none, X, rfl, k _ _ mL hdL, k _ _ m2 d2, k _ _ mt ndt, hXl, hW1, hok, k7.trans k, D⟩
      refine ⟨_, rfl, _, _, rfl, rfl, _, rfl, iteB (fun hm0 => ?_) (fun hm0 => iteF (nochange _ Keep.refl (D7.less (by omega))))⟩
      have hm0 : (0 : Int) < (m : Int) := of_decide_eq_true hm0
      refine ⟨_, rfl, d, 2, n + 99, rfl, by decide, by decide, D7, fun r2 H8 h02 h12 k8 D8 => ⟨rfl, _, rfl, iteB (fun hr2 => ?_) (fun hr2 => nochange _ k8 (D8.less (by omega)))⟩⟩
      refine ⟨_, rfl, _, rfl, d, m, n + 98, rfl, by omega, by omega, D8.less (by omega), fun r3 H9 h03 h13 k9 D9 => ?_⟩
      obtain ⟨a, rfl⟩ : ∃ a : Nat, r3 = (a : Int) := ⟨r3.toNat, by omega⟩
      have ham : a < m := by omega
      have k9 := k8.trans k9
      refine ⟨_, rfl, _, rfl, p2, _, 0, 0, rfl, rfl, k9 _ _ m2 d2, rfl, ?_⟩
      have m2' : (upd H9 p2 (.lst ([V.non, V.non].set 0 (V.int (a : Nat))))) p2 = some (.lst [optN (some a), .non]) := upd_same
      have mL' : (upd H9 p2 (.lst ([V.non, V.non].set 0 (V.int (a : Nat))))) L = some (.lst X) := (upd_ne nL2).trans (k9 _ _ mL hdL)
      have m7' : (upd H9 p2 (.lst ([V.non, V.non].set 0 (V.int (a : Nat))))) p7 = some (.lst (oddL z t)) := (upd_ne n72.symm).trans (k9 _ _ m7 nd7)
      have mt' : (upd H9 p2 (.lst ([V.non, V.non].set 0 (V.int (a : Nat))))) t = some (.tup [.str "a"]) := (upd_ne nt2.symm).trans (k9 _ _ mt ndt)
      have D9 := D9.upd (o := .lst ([V.non, V.non].set 0 (V.int (a : Nat)))) d2.symm
      have k9 := (k7.trans k9).updN (o := .lst ([V.non, V.non].set 0 (V.int (a : Nat)))) f2
      generalize upd H9 p2 (.lst ([V.non, V.non].set 0 (V.int (a : Nat)))) = H10 at *
      refine ⟨_, rfl, _, rfl, d, 17, n + 97, rfl, by decide, by decide, D9, fun r4 H11 h04 h14 k11 D11 => ?_⟩
      obtain ⟨v, hv, ha4⟩ := menu (xs := oddL z t) (i := r4) h04 (by show r4 < 17; omega)
      obtain ⟨hv1, hv2⟩ := hodd v hv
      refine ⟨p7, _, _, _, rfl, rfl, SqL.of (k11 _ _ m7' nd7), ha4, ?_⟩
      refine ⟨_, rfl, _, rfl, L, _, _, a, rfl, rfl, k11 _ _ mL' hdL, Evl.ixN_nat (by omega), ?_⟩
      have mL2 : (upd H11 L (.lst (X.set a v))) L = some (.lst (X.set a v)) := upd_same
      have m22 : (upd H11 L (.lst (X.set a v))) p2 = some (.lst [optN (some a), .non]) := (upd_ne nL2.symm).trans (k11 _ _ m2' d2)
      have mt2 : (upd H11 L (.lst (X.set a v))) t = some (.tup [.str "a"]) := (upd_ne ntL.symm).trans (k11 _ _ mt' ndt)
      have D11 := D11.upd (o := .lst (X.set a v)) hdL.symm
      have k11 := (k9.trans k11).updN (o := .lst (X.set a v)) fL
      generalize upd H11 L (.lst (X.set a v)) = H12 at *
      have done : ∀ (u : V) H', ItemV t u → (ruV u = false ∨ ∃ i, i < a ∧ X[i]? = some u) → H' L = some (.lst (X.set a u)) → H' p2 = some (.lst [optN (some a), .non]) → H' t = some (.tup [.str "a"]) → Keep d H H' → DrawAt H' d (n + 50) →
          ∃ (v5 : Option V) (w0 : Option Nat) (xs : List V), [some (.ref d), some (.int (m : Nat)), some (.ref L), some (.ref p2), some (.ref p7), some (V.int (a : Nat)), none, none] = [some (.ref d), some (.int (m : Nat)), some (.ref L), some (.ref p2), some (.ref p7), v5, none, none] ∧ H' L = some (.lst xs) ∧ H' p2 = some (.lst [optN w0, .non]) ∧ H' t = some (.tup [.str "a"]) ∧ xs.length = m ∧ (∀ x ∈ xs, ItemV t x) ∧ Mid xs w0 ∧ Keep d H H' ∧ DrawAt H' d (n + 50) := by
        intro u H' hu1 hu2 e1 e2 e3 k D
        obtain ⟨b1, b2⟩ := own_bad hok (by omega : a < X.length) hu2
        refine ⟨_, some a, X.set a u, rfl, e1, e2, e3, by rw [List.length_set]; exact hXl, fun x hx => ?_, ⟨by rw [List.length_set]; omega, b1, b2⟩, k, D⟩
        rcases List.mem_or_eq_of_mem_set hx with q | q
        · exact hW1 x q
        · exact q ▸ hu1
      refine ⟨_, rfl, _, _, rfl, rfl, _, rfl, iteB (fun ha0 => ?_) (fun ha0 => iteF (done v _ hv1 (.inl hv2) mL2 m22 mt2 k11 (D11.less (by omega))))⟩
      have ha0 : (0 : Int) < (a : Int) := of_decide_eq_true ha0
      refine ⟨_, rfl, d, 3, n + 96, rfl, by decide, by decide, D11, fun r5 H13 h05 h15 k13 D13 => ⟨rfl, _, rfl, iteB (fun hr5 => ?_) (fun hr5 => done v _ hv1 (.inl hv2) (k13 _ _ mL2 hdL) (k13 _ _ m22 d2) (k13 _ _ mt2 ndt) (k11.trans k13) (D13.less (by omega)))⟩⟩
      refine ⟨_, rfl, _, rfl, _, rfl, d, a, n + 95, rfl, by omega, by omega, D13, fun r6 H14 h06 h16 k14 D14 => ?_⟩
      obtain ⟨i6, rfl⟩ : ∃ i : Nat, r6 = (i : Int) := ⟨r6.toNat, by omega⟩
      have k13 := k13.trans k14
      have mL3 := k13 _ _ mL2 hdL
      have hi6 : i6 < X.length := by omega
      have e6 : (X.set a v)[i6]? = some X[i6] := by rw [List.getElem?_set_ne (by omega), List.getElem?_eq_getElem hi6]
      refine ⟨L, _, _, _, rfl, rfl, SqL.of mL3, atI_nat e6, _, rfl, _, rfl, L, _, _, a, rfl, rfl, mL3, Evl.ixN_nat (by rw [List.length_set]; omega), ?_⟩
      exact done X[i6] _ (hW1 _ (List.getElem_mem hi6)) (.inr ⟨i6, by omega, List.getElem?_eq_getElem hi6⟩) (by rw [List.set_set]; exact upd_same) ((upd_ne nL2.symm).trans (k13 _ _ m22 d2)) ((upd_ne ntL.symm).trans (k13 _ _ mt2 ndt)) ((k11.trans k13).updN fL) ((D14.upd hdL.symm).less (by omega))
    · rintro σ' H8 ⟨v5, w0, xs, rfl, mL, m2, mt, hxl, hxs, hmid, k8, D8⟩
      refine ⟨fun σ' H' => ∃ w1 : Option Nat, w1 = (if 30 < xs.length then some 30 else none) ∧ σ' = [some (.ref d), some (.int (m : Nat)), some (.ref L), some (.ref p2), some (.ref p7), v5, none, none] ∧ H' L = some (.lst xs) ∧ H' p2 = some (.lst [optN w0, optN w1]) ∧ H' t = some (.tup [.str "a"]) ∧ Keep d H H' ∧ DrawAt H' d (n + 50), ?_, ?_⟩
      · refine ⟨_, rfl, _, _, rfl, rfl, _, rfl, iteB (fun hq => ?_) (fun hq => ?_)⟩
        · have hq : (30 : Int) < (m : Int) := of_decide_eq_true hq
          refine ⟨_, rfl, p2, _, 1, 1, rfl, rfl, m2, rfl, some 30, (if_pos (by omega)).symm, rfl, (upd_ne nL2).trans mL, upd_same, (upd_ne nt2.symm).trans mt, k8.updN f2, D8.upd d2.symm⟩
        · have hq : ¬ (30 : Int) < (m : Int) := of_decide_eq_false hq
          refine ⟨_, rfl, p2, _, 1, 1, rfl, rfl, m2, rfl, none, (if_neg (by omega)).symm, rfl, (upd_ne nL2).trans mL, upd_same, (upd_ne nt2.symm).trans mt, k8.updN f2, D8.upd d2.symm⟩
      rintro σ' H9 ⟨w1, hw1, rfl, mL, m2, mt, k9, D9⟩
      refine ⟨_, rfl, p2, rfl, ⟨_, SqL.of m2⟩, fun F hF => ?_⟩
      refine lc_list (K := K) (a := p2) (xs := [optN w0, optN w1]) (fun i1 H4 => H4 F = some (.lst ((natsOf (([w0, w1] : List (Option Nat)).take i1)).map V.int)) ∧ Same H9 H4) ⟨upd_same, Same.new hF⟩ (fun i H2 _ ⟨_, s⟩ => SqL.of (s _ _ m2)) ?_ ?_
      · rintro i1 v H4 hi1 ⟨hl, s4⟩
        obtain ⟨w, hw, rfl⟩ : ∃ w, ([w0, w1] : List (Option Nat))[i1]? = some w ∧ v = optN w := by
          match i1, hi1 with
          | 0, e => cases e; exact ⟨w0, rfl, rfl⟩
          | 1, e => cases e; exact ⟨w1, rfl, rfl⟩
        have en : natsOf (([w0, w1] : List (Option Nat)).take (i1 + 1)) = natsOf (([w0, w1] : List (Option Nat)).take i1) ++ natsOf [w] := by
          rw [List.take_add_one, hw]; simp [natsOf]
        refine ⟨rfl, _, rfl, rfl, _, rfl, ?_⟩
        cases w with
        | none =>
          refine iteF ⟨?_, s4⟩
          rw [en]
          rw [hl]; simp [natsOf]
        | some k =>
          have hlen : (natsOf (([w0, w1] : List (Option Nat)).take i1)).length ≤ 2 := by
            unfold natsOf
            rw [List.length_map]
            exact Nat.le_trans (List.length_filterMap_le _ _) (by rw [List.length_take]; exact Nat.min_le_right _ _)
          refine iteT ⟨_, rfl, _, hl, Nat.lt_of_le_of_lt (by rw [List.length_map]; omega : _ ≤ 1000) (by decide), ?_, Same.put s4 hF⟩
          rw [en, upd_same, List.map_append]; rfl
      rintro H10 ⟨hl, s10⟩
      have hl : H10 F = some (.lst ((natsOf [w0, w1]).map V.int)) := hl
      have mL := s10 _ _ mL
      have mt := s10 _ _ mt
      have k10 := k9.same s10
      have D10 := D9.same s10
      refine ⟨_, rfl, L, _, rfl, .inl ⟨SqL.of mL, fun q hq => ?_⟩⟩
      have s11 := Same.new (o := HO.tup xs) hq
      have hl := s11 _ _ hl
      have mt := s11 _ _ mt
      have mq : (upd H10 q (.tup xs)) q = some (.tup xs) := upd_same
      have k11 := k10.same s11
      have D11 := D10.same s11
      generalize upd H10 q (.tup xs) = H11 at *
      refine ⟨_, rfl, by show 0 ≤ sizeLine; decide, fun e he => ?_⟩
      have hl := (Same.new (o := HO.lst []) he) _ _ hl
      have s12 := Same.new (o := HO.lst []) he
      have mt := s12 _ _ mt
      have mq := s12 _ _ mq
      have k12 := k11.same s12
      have D12 := D11.same s12
      have me : (upd H11 e (.lst [])) e = some (.lst []) := upd_same
      generalize upd H11 e (.lst []) = H12 at *
      have fin : ∀ (o : Option Nat) (hm : (o = none ∧ natsOf [w0, w1] = []) ∨ ∃ k : Nat, o = some k ∧ (k : Int) ∈ natsOf [w0, w1] ∧ ∀ y ∈ natsOf [w0, w1], (k : Int) ≤ y) (p : Addr) (hp : H12 p = none), Q (.ref p) (upd H12 p (.tup [.ref q, optN o])) := by
        intro o hm p hp
        have s13 := Same.new (o := HO.tup [V.ref q, optN o]) hp
        exact hQ p q t xs o _ (k12.same s13) ((D12.same s13).less (by omega)) upd_same (s13 _ _ mq) hxs (s13 _ _ mt) (by omega) (mid_end hmid hw1 hm)
      refine ⟨_, _, .lst (SqL.of hl) (dpAll_intsL _), .lst (SqL.of me) .nil, shaped_intsL _, rfl, _, rfl, ?_⟩
      rw [intsL_nil]
      by_cases hN : natsOf [w0, w1] = []
      · rw [decide_eq_true hN]
        exact iteF ⟨by show 2 ≤ sizeLine; decide, fin none (.inl ⟨rfl, hN⟩)⟩
      · rw [decide_eq_false hN]
        refine iteT ⟨_, rfl, F, natsOf [w0, w1], rfl, SqL.of hl, List.length_pos_iff.mpr hN, fun mm hmm hle => ⟨by show 2 ≤ sizeLine; decide, ?_⟩⟩
        obtain ⟨k, rfl⟩ : ∃ k : Nat, mm = (k : Int) := by
          unfold natsOf at hmm
          obtain ⟨k, _, rfl⟩ := List.mem_map.mp hmm
          exact ⟨k, rfl⟩
        exact fin (some k) (.inr ⟨k, rfl, hmm, hle⟩)
theorem gv__law_told {k : Nat} (T : Txt K mg) : GivesL P w K mg base ["call", "e"] "_law_told" (defScope s__law_told) (defBody s__law_told) "call" k (tt__law_told K mg) := by
  intro g cdg A outer f s H Q okL tl hgd hr act hok ht
  obtain ⟨C_BadHost, e_BadHost⟩ := T.e_BadHost
  obtain ⟨C_BadOrigin, e_BadOrigin⟩ := T.e_BadOrigin
  obtain ⟨C_BadRules, e_BadRules⟩ := T.e_BadRules
  have n_BadHost_BadRules : PySem.W.exmOne K (.ref C_BadHost) (.ref C_BadRules) = some false := by obtain ⟨_, _, h1, h2, h3⟩ := T.n_BadHost_BadRules; cases h1.symm.trans e_BadHost.g; cases h2.symm.trans e_BadRules.g; exact h3
  have n_BadOrigin_BadHost : PySem.W.exmOne K (.ref C_BadOrigin) (.ref C_BadHost) = some false := by obtain ⟨_, _, h1, h2, h3⟩ := T.n_BadOrigin_BadHost; cases h1.symm.trans e_BadOrigin.g; cases h2.symm.trans e_BadHost.g; exact h3
  have n_BadOrigin_BadRules : PySem.W.exmOne K (.ref C_BadOrigin) (.ref C_BadRules) = some false := by obtain ⟨_, _, h1, h2, h3⟩ := T.n_BadOrigin_BadRules; cases h1.symm.trans e_BadOrigin.g; cases h2.symm.trans e_BadRules.g; exact h3
  have hru := repr_u hr
  refine ⟨_, (pss_cons (ps_try_mas (i := 1) rfl rfl sc__law_told.nd rfl rfl takes0 (fun W pn xe tk po => (pss_one (ps_expr (act _ _ _ _ _ tk))))
      (.cons ⟨rfl, by decide, Or.inl e_BadRules.g⟩ (fun a oe cls d pn hz hf => (pss_one (ps_ret (pe_tup (pa_cons pe_str (pa_cons (pe_xf e_BadRules.X e_BadRules.no hz hf (pv 1)) pa_nil)))))) (.cons ⟨rfl, by decide, Or.inl e_BadHost.g⟩ (fun a oe cls d pn hz hf => (pss_one (ps_ret (pe_tup (pa_cons pe_str (pa_cons (pe_xf e_BadHost.X e_BadHost.no hz hf (pv 1)) pa_nil)))))) (.cons ⟨rfl, by decide, Or.inl e_BadOrigin.g⟩ (fun a oe cls d pn hz hf => (pss_one (ps_ret (pe_tup (pa_cons pe_str (pa_cons (pe_callB (show CallR _ (.builtin "repr") (rRepr K) from (call_reprD hru hgd)) (by rfl) T.b_repr (by decide +kernel) (pa_cons (pe_xf e_BadOrigin.X e_BadOrigin.no hz hf (pv 1)) pa_nil)) pa_nil)))))) .nil))))
      (pss_one (ps_ret pe_non))), ?_⟩
  unfold tt__law_told at ht
  refine ⟨rfl, hok, _, _, ?_, ?_, ht⟩
  · rintro cls d H' ⟨C, dx, v, ec, ed, h⟩
    subst ec ed
    rcases h with ⟨hC, hx, q⟩ | ⟨hC, hx, q⟩ | ⟨hC, hx, e, he, hd, q⟩
    · cases hC.symm.trans e_BadRules.g
      refine ⟨true, e_BadRules.te, fun _ a ha => ?_, fun z => by cases z⟩
      exact ⟨_, rfl, rfl, rfl, dx, _, v, rfl, hx, by simp [List.lookup], by show 2 ≤ sizeLine; decide, fun p hp => q p hp⟩
    · cases hC.symm.trans e_BadHost.g
      refine ⟨false, n_BadHost_BadRules, fun z => (by cases z), fun _ => ⟨true, e_BadHost.te, fun _ a ha => ?_, fun z => by cases z⟩⟩
      exact ⟨_, rfl, rfl, rfl, dx, _, v, rfl, hx, by simp [List.lookup], by show 2 ≤ sizeLine; decide, fun p hp => q p hp⟩
    · cases hC.symm.trans e_BadOrigin.g
      refine ⟨false, n_BadOrigin_BadRules, fun z => (by cases z), fun _ => ⟨false, n_BadOrigin_BadHost, fun z => (by cases z), fun _ => ⟨true, e_BadOrigin.te, fun _ a ha => ?_, fun z => by cases z⟩⟩⟩
      exact ⟨_, rfl, rfl, rfl, dx, _, v, rfl, hx, by simp [List.lookup], _, _, rfl, hd, he.s, he.n, he.shown, Nat.le_trans he.z (by decide), by show 2 ≤ sizeLine; decide, fun p hp => q p hp⟩
  · exact fun v H' q => q
theorem ok_law {f : Addr} {fd : FuncData} {c Tb : Addr} (F : Fun K "law" "law" s_law f fd) (hcode : fd.code = .ref c) (TB : LamX.TabB base mg c Tb) (T : Txt K mg) : FnG P w K mg base CX0 13 f fd ["script"] (sp_law K Tb) := by
  refine Kb.Fun.okGC F hcode sc_law (fun vs H Q E h => ?_) (fun A outer s H vs Q E hgd hr h => ?_)
  · first | (obtain ⟨_, rfl, _⟩ := h; rfl) | (obtain ⟨_, _, rfl, _⟩ := h; rfl) | (obtain ⟨_, _, _, rfl, _⟩ := h; rfl) | (obtain ⟨_, _, _, _, rfl, _⟩ := h; rfl) | (obtain ⟨_, _, _, _, _, rfl, _⟩ := h; rfl)
  · refine ⟨_, (pss_cons (ps_for PassesOwn.never rfl (pi_enum (by rfl) T.b_enumerate (pa_cons (pe_op op_cat (pe_slice sl_list (pv 0) po_none (po_some pe_int)) (pe_lst (pa_cons (pe_callB (cr_sum rfl) (by rfl) T.b_sum (by decide +kernel) (pa_cons (pv 0) pa_nil)) pa_nil))) pa_nil)) (pg_tup rfl (pgs_cons (pg_name (i := 1) sc_law.nd rfl (by first | exact Or.inl rfl | exact Or.inr rfl)) (pgs_cons (pg_name (i := 2) sc_law.nd rfl (by first | exact Or.inl rfl | exact Or.inr rfl)) pgs_nil)))
      (pss_cons (ps_set (i := 3) sc_law.nd rfl (by first | exact Or.inl rfl | exact Or.inr rfl) (pe_c (ok__law_draw T) hr (by decide) (by rfl) pass0 (pa_cons (pv 2) (pa_cons (pv 1) pa_nil))))
      (pss_cons (ps_for PassesOwn.never rfl (pi_range1 (by rfl) T.b_range (pa_cons pe_int pa_nil)) (pg_name (i := 4) sc_law.nd rfl (by first | exact Or.inl rfl | exact Or.inr rfl))
      (pss_cons (ps_asg (pe_c (ok__law_rules T) hr (by decide) (by rfl) pass0 (pa_cons (pv 3) pa_nil)) (pg_tup rfl (pgs_cons (pg_name (i := 5) sc_law.nd rfl (by first | exact Or.inl rfl | exact Or.inr rfl)) (pgs_cons (pg_name (i := 6) sc_law.nd rfl (by first | exact Or.inl rfl | exact Or.inr rfl)) pgs_nil))))
      (Evl.pss_cut (ps_set (i := 7) sc_law.nd rfl (by first | exact Or.inl rfl | exact Or.inr rfl) (pe_ifExp (pt_cmpR (op_isN) (pv 6) pe_non (nomark _)) pe_non (pe_tup (pa_cons pe_str (pa_cons (pv 6) pa_nil)))))
      (pss_cons (ps_set (i := 8) sc_law.nd rfl (by first | exact Or.inl rfl | exact Or.inr rfl) (pe_lst (pa_cons (pe_lamL (j := 5) (by rfl) T.d__law_told sc__law_told rfl (Or.inl rfl) (gv__law_told T) hgd TB rfl hr (by decide) (lamP_by (N := ["script", "k", "amount", "draw", "turn", "rules", "wrong", "due", "told", "both", "last", "odd"]) (sc := defScope s_law) (ps := []) (by decide +kernel)) (.inl ⟨rfl, rfl, fun _ _ _ _ _ _ => rfl⟩) rfl (.inl ⟨rfl, rfl⟩) (fun A' outer' s' H' E' f' c' hgd hr => (pe_cX (ok_need_rules T) hr (by decide) (by rfl) (takes_of rfl rfl rfl rfl) (pa_cons (pv 5) pa_nil)))) (pa_cons (pe_lamL (j := 9) (by rfl) T.d__law_told sc__law_told rfl (Or.inl rfl) (gv__law_told T) hgd TB rfl hr (by decide) (lamP_by (N := ["script", "k", "amount", "draw", "turn", "rules", "wrong", "due", "told", "both", "last", "odd"]) (sc := defScope s_law) (ps := ["n"]) (by decide +kernel)) (.inr ⟨rfl, by simp, fun _ _ _ _ _ _ _ its h => match its, h with | [_], _ => ⟨_, rfl, rfl⟩⟩) rfl (.inr ⟨_, _, _, rfl, rfl⟩) (fun A' outer' s' H' E' f' c' hgd hr => (pe_cX (ok_suffix_of T) hr (by decide) (by rfl) (takes_of rfl rfl rfl rfl) (pa_cons (pv 5) (pa_cons pe_str pa_nil))))) pa_nil))))
      (pss_cons (ps_expr (pe_bm PySem.F.plainAttrs_list PySem.F.slot_list_append PySem.F.type_list_append mt_append (pv 8) (pa_cons (pe_lamL (j := 9) (by rfl) T.d__law_told sc__law_told rfl (Or.inl rfl) (gv__law_told T) hgd TB rfl hr (by decide) (lamP_by (N := ["script", "k", "amount", "draw", "turn", "rules", "wrong", "due", "told", "both", "last", "odd"]) (sc := defScope s_law) (ps := ["n"]) (by decide +kernel)) (.inr ⟨rfl, by simp, fun _ _ _ _ _ _ _ its h => match its, h with | [_], _ => ⟨_, rfl, rfl⟩⟩) rfl (.inr ⟨_, _, _, rfl, rfl⟩) (fun A' outer' s' H' E' f' c' hgd hr => (pe_cX (ok_family_of T) hr (by decide) (by rfl) (takes_of rfl rfl rfl rfl) (pa_cons (pv 5) (pa_cons pe_str pa_nil))))) pa_nil)))
      (pss_cons (ps_expr (pe_bm PySem.F.plainAttrs_list PySem.F.slot_list_append PySem.F.type_list_append mt_append (pv 8) (pa_cons (pe_lamL (j := 10) (by rfl) T.d__law_told sc__law_told rfl (Or.inl rfl) (gv__law_told T) hgd TB rfl hr (by decide) (lamP_by (N := ["script", "k", "amount", "draw", "turn", "rules", "wrong", "due", "told", "both", "last", "odd"]) (sc := defScope s_law) (ps := ["n"]) (by decide +kernel)) (.inr ⟨rfl, by simp, fun _ _ _ _ _ _ _ its h => match its, h with | [_], _ => ⟨_, rfl, rfl⟩⟩) rfl (.inr ⟨_, _, _, rfl, rfl⟩) (fun A' outer' s' H' E' f' c' hgd hr => (pe_cX (ok_is_suffix T) hr (by decide) (by rfl) (takes_of rfl rfl rfl rfl) (pa_cons (pv 5) (pa_cons pe_str pa_nil))))) pa_nil)))
      (pss_cons (ps_expr (pe_bm PySem.F.plainAttrs_list PySem.F.slot_list_append PySem.F.type_list_append mt_append (pv 8) (pa_cons (pe_lamL (j := 9) (by rfl) T.d__law_told sc__law_told rfl (Or.inl rfl) (gv__law_told T) hgd TB rfl hr (by decide) (lamP_by (N := ["script", "k", "amount", "draw", "turn", "rules", "wrong", "due", "told", "both", "last", "odd"]) (sc := defScope s_law) (ps := ["n"]) (by decide +kernel)) (.inr ⟨rfl, by simp, fun _ _ _ _ _ _ _ its h => match its, h with | [_], _ => ⟨_, rfl, rfl⟩⟩) rfl (.inr ⟨_, _, _, rfl, rfl⟩) (fun A' outer' s' H' E' f' c' hgd hr => (pe_cX (ok_site_of T) hr (by decide) (by rfl) (takes_of rfl rfl rfl rfl) (pa_cons (pv 5) (pa_cons (pe_tup (pa_cons pe_str (pa_cons pe_str pa_nil))) pa_nil))))) pa_nil)))
      (pss_cons (ps_if (pt_cmpR (op_neD hr.units) (pv 8) (pe_op op_rep (pe_lst (pa_cons (pv 7) pa_nil)) pe_int) (nomark _))
      (pss_one (ps_ret pe_bl))
      pss_nil)
      (pss_cons (ps_set (i := 9) sc_law.nd rfl (by first | exact Or.inl rfl | exact Or.inr rfl) (pe_lst (pa_cons (pe_lamL (j := 9) (by rfl) T.d__law_told sc__law_told rfl (Or.inl rfl) (gv__law_told T) hgd TB rfl hr (by decide) (lamP_by (N := ["script", "k", "amount", "draw", "turn", "rules", "wrong", "due", "told", "both", "last", "odd"]) (sc := defScope s_law) (ps := []) (by decide +kernel)) (.inl ⟨rfl, rfl, fun _ _ _ _ _ _ => rfl⟩) rfl (.inl ⟨rfl, rfl⟩) (fun A' outer' s' H' E' f' c' hgd hr => (pe_cX (ok_suffix_of T) hr (by decide) (by rfl) (takes_of rfl rfl rfl rfl) (pa_cons (pv 5) (pa_cons pe_str pa_nil))))) (pa_cons (pe_lamL (j := 9) (by rfl) T.d__law_told sc__law_told rfl (Or.inl rfl) (gv__law_told T) hgd TB rfl hr (by decide) (lamP_by (N := ["script", "k", "amount", "draw", "turn", "rules", "wrong", "due", "told", "both", "last", "odd"]) (sc := defScope s_law) (ps := ["n"]) (by decide +kernel)) (.inr ⟨rfl, by simp, fun _ _ _ _ _ _ _ its h => match its, h with | [_], _ => ⟨_, rfl, rfl⟩⟩) rfl (.inr ⟨_, _, _, rfl, rfl⟩) (fun A' outer' s' H' E' f' c' hgd hr => (pe_cX (ok_family_of T) hr (by decide) (by rfl) (takes_of rfl rfl rfl rfl) (pa_cons (pv 5) (pa_cons pe_non pa_nil))))) pa_nil))))
      (pss_cons (ps_expr (pe_bm PySem.F.plainAttrs_list PySem.F.slot_list_append PySem.F.type_list_append mt_append (pv 9) (pa_cons (pe_lamL (j := 10) (by rfl) T.d__law_told sc__law_told rfl (Or.inl rfl) (gv__law_told T) hgd TB rfl hr (by decide) (lamP_by (N := ["script", "k", "amount", "draw", "turn", "rules", "wrong", "due", "told", "both", "last", "odd"]) (sc := defScope s_law) (ps := ["n"]) (by decide +kernel)) (.inr ⟨rfl, by simp, fun _ _ _ _ _ _ _ its h => match its, h with | [_], _ => ⟨_, rfl, rfl⟩⟩) rfl (.inr ⟨_, _, _, rfl, rfl⟩) (fun A' outer' s' H' E' f' c' hgd hr => (pe_cX (ok_is_suffix T) hr (by decide) (by rfl) (takes_of rfl rfl rfl rfl) (pa_cons (pv 5) (pa_cons pe_str pa_nil))))) pa_nil)))
      (pss_cons (ps_expr (pe_bm PySem.F.plainAttrs_list PySem.F.slot_list_append PySem.F.type_list_append mt_append (pv 9) (pa_cons (pe_lamL (j := 9) (by rfl) T.d__law_told sc__law_told rfl (Or.inl rfl) (gv__law_told T) hgd TB rfl hr (by decide) (lamP_by (N := ["script", "k", "amount", "draw", "turn", "rules", "wrong", "due", "told", "both", "last", "odd"]) (sc := defScope s_law) (ps := ["n"]) (by decide +kernel)) (.inr ⟨rfl, by simp, fun _ _ _ _ _ _ _ its h => match its, h with | [_], _ => ⟨_, rfl, rfl⟩⟩) rfl (.inr ⟨_, _, _, rfl, rfl⟩) (fun A' outer' s' H' E' f' c' hgd hr => (pe_cX (ok_site_of T) hr (by decide) (by rfl) (takes_of rfl rfl rfl rfl) (pa_cons (pv 5) (pa_cons (pe_tup (pa_cons pe_str (pa_cons pe_str pa_nil))) pa_nil))))) pa_nil)))
      (pss_cons (ps_set (i := 10) sc_law.nd rfl (by first | exact Or.inl rfl | exact Or.inr rfl) (pe_lst (pa_cons (pe_tup (pa_cons pe_str (pa_cons pe_int pa_nil))) (pa_cons (pe_tup (pa_cons pe_str (pa_cons pe_int pa_nil))) (pa_cons (pe_tup (pa_cons pe_str (pa_cons pe_int pa_nil))) (pa_cons (pe_tup (pa_cons pe_str (pa_cons pe_str pa_nil))) pa_nil))))))
      (pss_one (ps_if (pt_cmpR (op_neD hr.units) (pv 9) (pe_ifExp (pt_cmpR (op_notN) (pv 7) pe_non (nomark _)) (pe_op op_rep (pe_lst (pa_cons (pv 7) pa_nil)) pe_int) (pv 10)) (nomark _))
      (pss_one (ps_ret pe_bl))
      pss_nil))))))))))))))
      (pss_cons (ps_set (i := 11) sc_law.nd rfl (by first | exact Or.inl rfl | exact Or.inr rfl) (pe_ix ix_list (pe_lst (pa_cons pe_non (pa_cons pe_str (pa_cons (pe_lst (pa_cons pe_str pa_nil)) (pa_cons (pe_disp (pps_cons pe_str pe_int pps_nil) rfl rfl (by simp) (by decide)) (pa_cons pe_int (pa_cons pe_bl pa_nil))))))) (pe_c (ok__law_digit T) hr (by decide) (by rfl) pass0 (pa_cons (pv 3) (pa_cons pe_int pa_nil))) (fun _ _ => rfl)))
      (pss_one (ps_if (PW.pt (pw_or (pt_cmpR (op_neD hr.units) (pe_lamL (j := 5) (by rfl) T.d__law_told sc__law_told rfl (Or.inl rfl) (gv__law_told T) hgd TB rfl hr (by decide) (lamP_by (N := ["script", "k", "amount", "draw", "turn", "rules", "wrong", "due", "told", "both", "last", "odd"]) (sc := defScope s_law) (ps := []) (by decide +kernel)) (.inl ⟨rfl, rfl, fun _ _ _ _ _ _ => rfl⟩) rfl (.inl ⟨rfl, rfl⟩) (fun A' outer' s' H' E' f' c' hgd hr => (pe_cX (ok_need_rules T) hr (by decide) (by rfl) (takes_of rfl rfl rfl rfl) (pa_cons (pv 11) pa_nil)))) (pe_tup (pa_cons pe_str (pa_cons pe_non pa_nil))) (nomark _)) (pw_or1 (pt_cmpR (op_ne) (pe_gc (by rfl) T.c_MOST_RULES) pe_int (nomark _)))))
      (pss_one (ps_ret pe_bl))
      pss_nil))))))
      (pss_one (ps_ret pe_bl))), ?_⟩
    obtain ⟨a0, ns, rfl, hS, hlen, hT, hQ⟩ := h
    refine ⟨_, rfl, 6, rfl, a0, _, rfl, hS, fun p hp => ?_⟩
    have s1 : Same H (upd H p (.lst (cutV (ns.map V.int) none (some 6)))) := Same.new hp
    refine ⟨_, rfl, a0, ns, rfl, s1.seq hS, by show 1 ≤ sizeLine; decide, fun p2 hp2 => ?_⟩
    have s2 := Same.new (o := HO.lst [V.int ns.sum]) hp2
    have hc6 : cutV (ns.map V.int) none (some 6) = (ns.take 6).map V.int := by
      rw [cutV_to _ (by decide), List.map_take]; rfl
    rw [hc6] at s1 s2 ⊢
    have l6 : (ns.take 6).length ≤ 6 := by rw [List.length_take]; omega
    refine ⟨_, _, _, _, rfl, rfl, s2 _ _ upd_same, upd_same, Nat.le_trans (by rw [List.length_map]; show _ + 1 ≤ 100; omega) (by decide : 100 ≤ sizeLine), fun p3 hp3 => ?_⟩
    have s3 := Same.new (o := HO.lst ((ns.take 6).map V.int ++ [V.int ns.sum])) hp3
    have hm : upd (upd (upd H p (.lst ((ns.take 6).map V.int))) p2 (.lst [V.int ns.sum])) p3 (.lst ((ns.take 6).map V.int ++ [V.int ns.sum])) p3 = some (.lst ((ns.take 6).map V.int ++ [V.int ns.sum])) := upd_same
    have hTb := TabS.same hT ((s1.trans s2).trans s3)
    generalize (upd (upd (upd H p (.lst ((ns.take 6).map V.int))) p2 (.lst [V.int ns.sum])) p3 (.lst ((ns.take 6).map V.int ++ [V.int ns.sum]))) = Hb at hm hTb ⊢
    have hxs : ∀ i x, ((ns.take 6).map V.int ++ [V.int ns.sum])[i]? = some x → i ≤ 6 ∧ ∃ z : Int, x = .int z := fun i x hi => by
      have h1 := (List.getElem?_eq_some_iff.mp hi).1
      have h2 := List.mem_of_getElem? hi
      rw [List.length_append, List.length_map, List.length_singleton] at h1
      refine ⟨by omega, ?_⟩
      rw [List.mem_append, List.mem_map, List.mem_singleton] at h2
      rcases h2 with ⟨z, _, rfl⟩ | rfl <;> exact ⟨_, rfl⟩
    generalize ((ns.take 6).map V.int ++ [V.int ns.sum]) = xs at hm hxs
    refine ⟨p3, xs, rfl, SqL.of hm, for_enum (K := K) (a := p3) (xs := xs) (fun i σ H' => ∃ v1 v2 v3 v4 v5 v6 v7 v8 v9 v10 v11 : Option V, σ = [some (.ref a0), v1, v2, v3, v4, v5, v6, v7, v8, v9, v10, v11] ∧ LamInv Tb Hb H')
      ⟨none, none, none, none, none, none, none, none, none, none, none, rfl, LamX.ExtN.refl _, hTb⟩ (fun i σ H' _ ⟨_, _, _, _, _, _, _, _, _, _, _, _, q⟩ => SqL.of (q.1 _ _ hm fun ps z => by cases z)) ?_ ?_⟩
    · rintro i x T σ H1 hi ⟨v1, v2, v3, v4, v5, v6, v7, v8, v9, v10, v11, rfl, sb⟩ hT
      obtain ⟨hi6, z, rfl⟩ := hxs i x hi
      refine ⟨T, _, rfl, SqT.of upd_same, rfl, _, _, rfl, _, _, rfl, rfl, ?_⟩
      have sT := sb.same (Same.new (o := HO.tup [V.int (i : Nat), V.int z]) hT)
      refine ⟨_, rfl, _, rfl, z, i, rfl, by omega, by omega, fun d H2 sd hd D => ?_⟩
      have fd : FreshN Hb d := FreshN.of sT.1 hd
      have sb2 := sT.same sd
      refine ⟨4, rfl, by decide, by decide, for_range (n := 4) (fun j σ H3 => ∃ v4 v5 v6 v7 v8 v9 v10 v11 : Option V, σ = [some (.ref a0), some (.int (i : Nat)), some (.int z), some (.ref d), v4, v5, v6, v7, v8, v9, v10, v11] ∧ LamInv Tb Hb H3 ∧ DrawAt H3 d (100000 - 1000 * j)) ⟨v4, v5, v6, v7, v8, v9, v10, v11, rfl, sb2, D.less (by decide)⟩ ?_ ?_⟩
      · rintro j σ H3 hj ⟨v4, v5, v6, v7, v8, v9, v10, v11, rfl, sb3, D3⟩
        refine ⟨_, rfl, d, 100000 - 1000 * j - 900, rfl, D3.less (by omega), fun p q t xs w H4 k4 D4 m4 mq hx ht hxl hw => ?_⟩
        have sb4 := sb3.keep k4 fd D3
        refine ⟨p, _, rfl, SqT.of m4, rfl, _, _, rfl, _, _, rfl, rfl, ?_⟩
        refine ⟨fun σ' H' => ∃ uv : V, σ' = [some (.ref a0), some (.int (i : Nat)), some (.int z), some (.ref d), some (.int (0 + (j : Nat))), some (.ref q), some (optN w), some uv, v8, v9, v10, v11] ∧ St5 K Tb Hb H' d (100000 - 1000 * j - 900) q t xs w uv, ?_, ?_⟩
        · refine ⟨_, rfl, rfl, _, rfl, ?_⟩
          cases w with
          | none => exact iteT ⟨.non, rfl, sb4, D4, mq, ht, hx, hxl, hw, .inl ⟨rfl, rfl⟩⟩
          | some k =>
            refine iteF ⟨_, rfl, by show 2 ≤ sizeLine; decide, fun r hr => ?_⟩
            have s5 := Same.new (o := HO.tup [V.str "rules", V.int (k : Nat)]) hr
            exact ⟨.ref r, rfl, sb4.same s5, D4.same s5, s5 _ _ mq, s5 _ _ ht, hx, hxl, hw, .inr ⟨r, "rules", _, _, rfl, upd_same, ascii_lit (by decide +kernel), rfl, .inr (.inl ⟨_, rfl, rfl⟩)⟩⟩
        · rintro σ' H5 ⟨uv, rfl, S5⟩
          refine ⟨S5.i.2, fun H6 e6 t6 => ?_⟩
          have S6 := S5.ext e6 t6
          refine tellN5 (fun E Q' z => ⟨_, rfl, z⟩) S6.rul fun r0 H7 s7 hr0 => ?_
          have S7 := S6.same s7
          refine ⟨S7.i.2, fun H8 e8 t8 => ?_⟩
          have S8 := S7.ext e8 t8
          refine tellS5 (fun E Q' z => ⟨_, rfl, z⟩) S8.rul xa_host fun r1 H9 s9 hr1 => ?_
          have S9 := S8.same s9
          have hr0 := (hr0.ext e8).same s9
          refine ⟨by show 2 ≤ sizeLine; decide, fun pt hpt => ?_⟩
          have sn := Same.new (o := HO.lst [r0, r1]) hpt
          have C : Ch5 K Tb Hb (upd H9 pt (.lst [r0, r1])) d (100000 - 1000 * j - 900) q t xs w uv pt [r0, r1] [dueE w .none, dueE w .none] := ⟨S9.same sn, upd_same, ⟨hr0.same sn, hr1.same sn, trivial⟩, FreshN.of S9.i.1 hpt, (S9.dr.ne hpt).symm⟩
          generalize upd H9 pt (.lst [r0, r1]) = H10 at C ⊢
          refine ⟨_, rfl, .inl ⟨rfl, _, SqL.of C.m⟩, C.s.i.2, fun Hx ex tx => ?_⟩
          have C := C.ext ex tx
          refine tellF5 (fun E Q' z => ⟨_, rfl, z⟩) C.s.rul xa_host fun r2 Hy sy hr2 => ?_
          have C := C.same sy
          refine ⟨pt, _, r2, rfl, rfl, C.m, by show 2 < sizeLine; decide, ?_⟩
          have C := C.app hr2
          generalize upd Hy pt (.lst ([r0, r1] ++ [r2])) = H11 at C ⊢
          refine ⟨_, rfl, .inl ⟨rfl, _, SqL.of C.m⟩, C.s.i.2, fun Hx ex tx => ?_⟩
          have C := C.ext ex tx
          refine tellI5 (fun E Q' z => ⟨_, rfl, z⟩) C.s.rul xa_host fun r3 Hy sy hr3 => ?_
          have C := C.same sy
          refine ⟨pt, _, r3, rfl, rfl, C.m, by show 3 < sizeLine; decide, ?_⟩
          have C := C.app hr3
          generalize upd Hy pt (.lst ([r0, r1] ++ [r2] ++ [r3])) = H12 at C ⊢
          refine ⟨_, rfl, .inl ⟨rfl, _, SqL.of C.m⟩, C.s.i.2, fun Hx ex tx => ?_⟩
          have C := C.ext ex tx
          refine tellO5 (x := "http") (y := "x.a") (e0 := .none) (fun E Q' z => ⟨_, rfl, by show 2 ≤ sizeLine; decide, fun po hpo => z po hpo⟩) C.s.rul ⟨by decide +kernel, ascii_lit (by decide +kernel)⟩ ⟨by decide +kernel, ascii_lit (by decide +kernel)⟩ (fun _ => rfl) (fun z => absurd z (by decide +kernel)) fun r4 Hy sy hr4 => ?_
          have C := C.same sy
          refine ⟨pt, _, r4, rfl, rfl, C.m, by show 4 < sizeLine; decide, ?_⟩
          have C := C.app hr4
          generalize upd Hy pt (.lst ([r0, r1] ++ [r2] ++ [r3] ++ [r4])) = H13 at C ⊢
          -- told != [due] * 5
          refine ⟨_, rfl, _, rfl, by show 1 ≤ sizeLine; decide, fun p1 hp1 => ⟨_, _, _, rfl, rfl, upd_same, by decide, by decide, by show 1 * 5 ≤ sizeLine; decide, fun p2 hp2 => ?_⟩⟩
          have mr : (upd (upd H13 p1 (.lst [uv])) p2 (.lst (List.replicate (5 : Int).toNat [uv]).flatten)) p2 = some (.lst [uv, uv, uv, uv, uv]) := upd_same
          have C := C.same ((Same.new (o := HO.lst [uv]) hp1).trans (Same.new (o := HO.lst (List.replicate (5 : Int).toNat [uv]).flatten) hp2))
          generalize upd (upd H13 p1 (.lst [uv])) p2 (.lst (List.replicate (5 : Int).toNat [uv]).flatten) = H14 at C mr ⊢
          have hA : AllDue H14 [r0, r1, r2, r3, r4] [dueE w .none, dueE w .none, dueE w .none, dueE w .none, dueE w .none] := C.a
          have hu := C.s.hu
          have sh := shaped_list hA.lay
          refine ⟨_, _, .lst (SqL.of C.m) hA.dp, .lst (SqL.of mr) (.cons hu.dp (.cons hu.dp (.cons hu.dp (.cons hu.dp (.cons hu.dp .nil))))), sh, sh, _, rfl, ?_⟩
          rw [eqv_same sh]
          refine iteF ?_
          have S14 := C.s
          clear C hA mr sh hr0 hr1 hr2 hr3 hr4
          -- both
          refine ⟨S14.i.2, fun H15 e15 t15 => ?_⟩
          have S15 := S14.ext e15 t15
          refine tellS6 (k := 1) (fun E Q' z => ⟨_, rfl, z⟩) S15.rul (.inl ⟨_, rfl, by decide +kernel⟩) no_empty fun r0 H16 s16 hr0 => ?_
          have S16 := S15.same s16
          refine ⟨S16.i.2, fun H17 e17 t17 => ?_⟩
          have S17 := S16.ext e17 t17
          refine tellF6 (k := 0) (fun E Q' z => ⟨_, rfl, z⟩) S17.rul (.inr ⟨_, .base .non, kit_ty (by decide +kernel)⟩) no_non fun r1 H18 s18 hr1 => ?_
          have S18 := S17.same s18
          have hr0 := (hr0.ext e17).same s18
          refine ⟨by show 2 ≤ sizeLine; decide, fun pt hpt => ?_⟩
          have sn := Same.new (o := HO.lst [r0, r1]) hpt
          have C : Ch5 K Tb Hb (upd H18 pt (.lst [r0, r1])) d (100000 - 1000 * j - 900) q t xs w uv pt [r0, r1] [dueE w (.tuple [.str "host", .int (1 : Nat)]), dueE w (.tuple [.str "host", .int (0 : Nat)])] := ⟨S18.same sn, upd_same, ⟨hr0.same sn, hr1.same sn, trivial⟩, FreshN.of S18.i.1 hpt, (S18.dr.ne hpt).symm⟩
          generalize upd H18 pt (.lst [r0, r1]) = H19 at C ⊢
          refine ⟨_, rfl, .inl ⟨rfl, _, SqL.of C.m⟩, C.s.i.2, fun Hx ex tx => ?_⟩
          have C := C.ext ex tx
          refine tellI6 (k := 3) (fun E Q' z => ⟨_, rfl, z⟩) C.s.rul (.inl ⟨_, rfl, by decide +kernel⟩) no_dots fun r2 Hy sy hr2 => ?_
          have C := C.same sy
          refine ⟨pt, _, r2, rfl, rfl, C.m, by show 2 < sizeLine; decide, ?_⟩
          have C := C.app hr2
          generalize upd Hy pt (.lst ([r0, r1] ++ [r2])) = H20 at C ⊢
          refine ⟨_, rfl, .inl ⟨rfl, _, SqL.of C.m⟩, C.s.i.2, fun Hx ex tx => ?_⟩
          have C := C.ext ex tx
          refine tellO5 (x := "ftp") (y := "a") (e0 := .tuple [.str "origin", .str "('ftp', 'a')"]) (fun E Q' z => ⟨_, rfl, by show 2 ≤ sizeLine; decide, fun po hpo => z po hpo⟩) C.s.rul ⟨by decide +kernel, ascii_lit (by decide +kernel)⟩ ⟨by decide +kernel, ascii_lit (by decide +kernel)⟩ (fun z => absurd z (by decide +kernel)) (fun _ => ftp_shown) fun r3 Hy sy hr3 => ?_
          have C := C.same sy
          refine ⟨pt, _, r3, rfl, rfl, C.m, by show 3 < sizeLine; decide, ?_⟩
          have C := C.app hr3
          generalize upd Hy pt (.lst ([r0, r1] ++ [r2] ++ [r3])) = H21 at C ⊢
          -- last
          refine ⟨by show 2 ≤ sizeLine; decide, fun l1 h1 => ⟨by show 2 ≤ sizeLine; decide, fun l2 h2 => ⟨by show 2 ≤ sizeLine; decide, fun l3 h3 => ⟨by show 2 ≤ sizeLine; decide, fun l4 h4 => ⟨by show 4 ≤ sizeLine; decide, fun l5 h5 => ?_⟩⟩⟩⟩⟩
          have n1 := Same.new (o := HO.tup [V.str "host", V.int 1]) h1
          have n2 := Same.new (o := HO.tup [V.str "host", V.int 0]) h2
          have n3 := Same.new (o := HO.tup [V.str "host", V.int 3]) h3
          have n4 := Same.new (o := HO.tup [V.str "origin", V.str "('ftp', 'a')"]) h4
          have n5 := Same.new (o := HO.lst [V.ref l1, V.ref l2, V.ref l3, V.ref l4]) h5
          have g1 := n5 _ _ (n4 _ _ (n3 _ _ (n2 _ _ (upd_same (H := H21) (a := l1) (o := HO.tup [V.str "host", V.int 1])))))
          have g2 := n5 _ _ (n4 _ _ (n3 _ _ (upd_same (a := l2) (o := HO.tup [V.str "host", V.int 0]))))
          have g3 := n5 _ _ (n4 _ _ (upd_same (a := l3) (o := HO.tup [V.str "host", V.int 3])))
          have g4 := n5 _ _ (upd_same (a := l4) (o := HO.tup [V.str "origin", V.str "('ftp', 'a')"]))
          have C := C.same ((((n1.trans n2).trans n3).trans n4).trans n5)
          have m5 : (upd (upd (upd (upd (upd H21 l1 (HO.tup [V.str "host", V.int 1])) l2 (HO.tup [V.str "host", V.int 0])) l3 (HO.tup [V.str "host", V.int 3])) l4 (HO.tup [V.str "origin", V.str "('ftp', 'a')"])) l5 (HO.lst [V.ref l1, V.ref l2, V.ref l3, V.ref l4])) l5 = some (.lst [V.ref l1, V.ref l2, V.ref l3, V.ref l4]) := upd_same
          clear n1 n2 n3 n4 n5
          generalize upd (upd (upd (upd (upd H21 l1 (HO.tup [V.str "host", V.int 1])) l2 (HO.tup [V.str "host", V.int 0])) l3 (HO.tup [V.str "host", V.int 3])) l4 (HO.tup [V.str "origin", V.str "('ftp', 'a')"])) l5 (HO.lst [V.ref l1, V.ref l2, V.ref l3, V.ref l4]) = H22 at *
          have hA : AllDue H22 [r0, r1, r2, r3] [dueE w (.tuple [.str "host", .int (1 : Nat)]), dueE w (.tuple [.str "host", .int (0 : Nat)]), dueE w (.tuple [.str "host", .int (3 : Nat)]), dueE w (.tuple [.str "origin", .str "('ftp', 'a')"])] := C.a
          have sh := shaped_list hA.lay
          have hu := C.s.hu
          refine ⟨_, rfl, _, rfl, rfl, _, rfl, ?_⟩
          cases w with
          | none =>
            have : uv = .non := by
              rcases hu with ⟨e, _⟩ | ⟨_, _, _, _, _, _, _, e, _⟩
              · exact e
              · cases e
            subst this
            rw [show (!decide (V.non = V.non)) = false by simp]
            have hA : AllDue H22 [r0, r1, r2, r3] [.tuple [.str "host", .int 1], .tuple [.str "host", .int 0], .tuple [.str "host", .int 3], .tuple [.str "origin", .str "('ftp', 'a')"]] := hA
            have sh := shaped_list hA.lay
            refine iteF ⟨_, rfl, _, _, .lst (SqL.of C.m) hA.dp, .lst (SqL.of m5) (.cons (.tup (SqT.of g1) (.cons (.str _) (.cons (.int 1) .nil))) (.cons (.tup (SqT.of g2) (.cons (.str _) (.cons (.int 0) .nil))) (.cons (.tup (SqT.of g3) (.cons (.str _) (.cons (.int 3) .nil))) (.cons (.tup (SqT.of g4) (.cons (.str _) (.cons (.str _) .nil))) .nil)))), sh, sh, _, rfl, ?_⟩
            rw [eqv_same sh]
            exact iteF ⟨_, _, _, _, _, _, _, _, rfl, C.s.i, C.s.dr.less (by omega)⟩
          | some k =>
            have hA : AllDue H22 [r0, r1, r2, r3] [.tuple [.str "rules", .int (k : Nat)], .tuple [.str "rules", .int (k : Nat)], .tuple [.str "rules", .int (k : Nat)], .tuple [.str "rules", .int (k : Nat)]] := hA
            have sh := shaped_list hA.lay
            have hu : DueV H22 uv (.tuple [.str "rules", .int (k : Nat)]) := hu
            obtain ⟨qu, rfl⟩ : ∃ qu, uv = .ref qu := by
              rcases hu with ⟨_, e⟩ | ⟨qu, _, _, _, e, _⟩
              · cases e
              · exact ⟨qu, e⟩
            rw [show (!decide (V.ref qu = V.non)) = true by simp]
            refine iteT ⟨_, rfl, by show 1 ≤ sizeLine; decide, fun p1 hp1 => ⟨_, _, _, rfl, rfl, upd_same, by decide, by decide, by show 1 * 4 ≤ sizeLine; decide, fun p2 hp2 => ?_⟩⟩
            have sn := (Same.new (o := HO.lst [V.ref qu]) hp1).trans (Same.new (o := HO.lst (List.replicate (4 : Int).toNat [V.ref qu]).flatten) hp2)
            have C := C.same sn
            have hA := AllDue.ext (.of sn) hA
            have hu := hu.same sn
            refine ⟨_, _, .lst (SqL.of C.m) hA.dp, .lst (SqL.of upd_same) (.cons hu.dp (.cons hu.dp (.cons hu.dp (.cons hu.dp .nil)))), sh, sh, _, rfl, ?_⟩
            rw [eqv_same sh]
            exact iteF ⟨_, _, _, _, _, _, _, _, rfl, C.s.i, C.s.dr.less (by omega)⟩
      · rintro σ H3 ⟨v4, v5, v6, v7, v8, v9, v10, v11, rfl, sb3, D3⟩
        refine ⟨by show 1 ≤ sizeLine; decide, fun q1 hq1 => ?_⟩
        have dq1 := D3.ne hq1
        have s1 := Same.new (o := HO.lst [V.str "a"]) hq1
        have D4 := D3.same s1
        intro q2 hq2
        have dq2 := D4.ne hq2
        have sb4 := sb3.same s1
        have m1 : (upd H3 q1 (.lst [V.str "a"])) q1 = some (.lst [V.str "a"]) := upd_same
        have f2 : FreshN Hb q2 := FreshN.of sb4.1 hq2
        generalize upd H3 q1 (.lst [V.str "a"]) = H4 at *
        have s2 := Same.new (o := HO.dK []) hq2
        refine ⟨upd_same, [((Sum.inr "a" : Key), V.int 1)], rfl, by decide, ?_⟩
        rw [upd_upd]
        have s2 := Same.new (o := HO.dK (mergeK [] [((Sum.inr "a" : Key), V.int 1)])) hq2
        have m2 : (upd H4 q2 (HO.dK (mergeK [] [((Sum.inr "a" : Key), V.int 1)]))) q2 = some (HO.dK (mergeK [] [((Sum.inr "a" : Key), V.int 1)])) := upd_same
        have m1 := s2 _ _ m1
        have D5 := D4.same s2
        have sb5 := sb4.same s2
        generalize upd H4 q2 (HO.dK (mergeK [] [((Sum.inr "a" : Key), V.int 1)])) = H5 at *
        refine ⟨by show 6 ≤ sizeLine; decide, fun q3 hq3 => ?_⟩
        have dq3 := D5.ne hq3
        have s3 := Same.new (o := HO.lst [V.non, V.str "a", V.ref q1, V.ref q2, V.int 5, V.bl true]) hq3
        have m3 : (upd H5 q3 (HO.lst [V.non, V.str "a", V.ref q1, V.ref q2, V.int 5, V.bl true])) q3 = some (HO.lst [V.non, V.str "a", V.ref q1, V.ref q2, V.int 5, V.bl true]) := upd_same
        have m1 := s3 _ _ m1
        have m2 := s3 _ _ m2
        have D6 := D5.same s3
        have sb6 := sb5.same s3
        generalize upd H5 q3 (HO.lst [V.non, V.str "a", V.ref q1, V.ref q2, V.int 5, V.bl true]) = H6 at *
        refine ⟨_, rfl, d, 6, 1, rfl, by decide, by decide, D6.less (by omega), fun r H7 h07 h17 k7 D7 => ?_⟩
        obtain ⟨v, hv, ha⟩ := menu (xs := [V.non, V.str "a", V.ref q1, V.ref q2, V.int 5, V.bl true]) (i := r) h07 (by show r < 6; omega)
        refine ⟨q3, _, _, _, rfl, rfl, SqL.of (k7 _ _ m3 dq3), ha, ?_⟩
        have sb7 := sb6.keep k7 fd D6
        have m1 := k7 _ _ m1 dq1
        have m2 := k7 _ _ m2 dq2
        refine ⟨sb7.2, fun H8 e8 t8 => ?_⟩
        have sb8 := sb7.ext e8 t8
        have m1 := e8 _ _ m1 (fun ps z => by cases z)
        have m2 := e8 _ _ m2 (fun ps z => by cases z)
        obtain ⟨t, ht, hk⟩ : ∃ t : Value, TyX K H8 v t ∧ PySem.W.kitOne K t (.type "tuple") = some false := by
          simp only [List.mem_cons, List.not_mem_nil, or_false] at hv
          rcases hv with rfl | rfl | rfl | rfl | rfl | rfl
          · exact ⟨_, .base .non, kit_ty (by decide +kernel)⟩
          · exact ⟨_, .base (.str _), kit_ty (by decide +kernel)⟩
          · exact ⟨_, .base (.lst m1), kit_ty (by decide +kernel)⟩
          · exact ⟨_, .base (.dK m2), kit_ty (by decide +kernel)⟩
          · exact ⟨_, .base (.int 5), kit_ty (by decide +kernel)⟩
          · exact ⟨_, .base (.bl _), kit_ty (by decide +kernel)⟩
        refine tellQ5 (fun E Q' z => ⟨_, rfl, z⟩) ht hk fun r H9 s9 hr => ?_
        refine ⟨by show 2 ≤ sizeLine; decide, fun q4 hq4 => ?_⟩
        have s10 := Same.new (o := HO.tup [V.str "rules", V.non]) hq4
        have hr := hr.same s10
        have sh : SeqAt.shaped (.tuple [.str "rules", .none]) = true := by decide +kernel
        refine ⟨_, _, hr.dp, .tup (SqT.of upd_same) (.cons (.str _) (.cons .non .nil)), sh, sh, _, rfl, ?_⟩
        rw [eqv_same sh]
        refine iteF ⟨rfl, _, rfl, ?_⟩
        exact iteF ⟨_, _, _, _, _, _, _, _, _, _, _, rfl, (sb8.same s9).same s10⟩
    · rintro σ H1 ⟨v1, v2, v3, v4, v5, v6, v7, v8, v9, v10, v11, rfl, sb⟩
      exact hQ _
end
theorem bd_has_only : ∀ (kV doc pm : Value) (an : Option Addr) (cdv ct : Value) (us : List Value), us.length = (["text", "signs"] : List Str).length → bindArgs (PySem.W.fnOf "has_only" "has_only" (defArgs s_has_only) (defBody s_has_only) (defScope s_has_only) .none kV doc pm an cdv ct) ⟨us, []⟩ = pure ((["text", "signs"] : List Str).zip us) :=
  fun _ _ _ _ _ _ us hl => match us, hl with | [_, _], _ => rfl
theorem bd__is_label : ∀ (kV doc pm : Value) (an : Option Addr) (cdv ct : Value) (us : List Value), us.length = (["text"] : List Str).length → bindArgs (PySem.W.fnOf "_is_label" "_is_label" (defArgs s__is_label) (defBody s__is_label) (defScope s__is_label) .none kV doc pm an cdv ct) ⟨us, []⟩ = pure ((["text"] : List Str).zip us) :=
  fun _ _ _ _ _ _ us hl => match us, hl with | [_], _ => rfl
theorem bd_are_labels : ∀ (kV doc pm : Value) (an : Option Addr) (cdv ct : Value) (us : List Value), us.length = (["texts"] : List Str).length → bindArgs (PySem.W.fnOf "are_labels" "are_labels" (defArgs s_are_labels) (defBody s_are_labels) (defScope s_are_labels) .none kV doc pm an cdv ct) ⟨us, []⟩ = pure ((["texts"] : List Str).zip us) :=
  fun _ _ _ _ _ _ us hl => match us, hl with | [_], _ => rfl
theorem bd__is_rule : ∀ (kV doc pm : Value) (an : Option Addr) (cdv ct : Value) (us : List Value), us.length = (["value"] : List Str).length → bindArgs (PySem.W.fnOf "_is_rule" "_is_rule" (defArgs s__is_rule) (defBody s__is_rule) (defScope s__is_rule) .none kV doc pm an cdv ct) ⟨us, []⟩ = pure ((["value"] : List Str).zip us) :=
  fun _ _ _ _ _ _ us hl => match us, hl with | [_], _ => rfl
theorem bd_need_rules : ∀ (kV doc pm : Value) (an : Option Addr) (cdv ct : Value) (us : List Value), us.length = (["rules"] : List Str).length → bindArgs (PySem.W.fnOf "need_rules" "need_rules" (defArgs s_need_rules) (defBody s_need_rules) (defScope s_need_rules) .none kV doc pm an cdv ct) ⟨us, []⟩ = pure ((["rules"] : List Str).zip us) :=
  fun _ _ _ _ _ _ us hl => match us, hl with | [_], _ => rfl
theorem bd_is_digits : ∀ (kV doc pm : Value) (an : Option Addr) (cdv ct : Value) (us : List Value), us.length = (["text"] : List Str).length → bindArgs (PySem.W.fnOf "is_digits" "is_digits" (defArgs s_is_digits) (defBody s_is_digits) (defScope s_is_digits) .none kV doc pm an cdv ct) ⟨us, []⟩ = pure ((["text"] : List Str).zip us) :=
  fun _ _ _ _ _ _ us hl => match us, hl with | [_], _ => rfl
theorem bd__is_number : ∀ (kV doc pm : Value) (an : Option Addr) (cdv ct : Value) (us : List Value), us.length = (["label"] : List Str).length → bindArgs (PySem.W.fnOf "_is_number" "_is_number" (defArgs s__is_number) (defBody s__is_number) (defScope s__is_number) .none kV doc pm an cdv ct) ⟨us, []⟩ = pure ((["label"] : List Str).zip us) :=
  fun _ _ _ _ _ _ us hl => match us, hl with | [_], _ => rfl
theorem bd__are_four_numbers : ∀ (kV doc pm : Value) (an : Option Addr) (cdv ct : Value) (us : List Value), us.length = (["labels"] : List Str).length → bindArgs (PySem.W.fnOf "_are_four_numbers" "_are_four_numbers" (defArgs s__are_four_numbers) (defBody s__are_four_numbers) (defScope s__are_four_numbers) .none kV doc pm an cdv ct) ⟨us, []⟩ = pure ((["labels"] : List Str).zip us) :=
  fun _ _ _ _ _ _ us hl => match us, hl with | [_], _ => rfl
theorem bd_is_host : ∀ (kV doc pm : Value) (an : Option Addr) (cdv ct : Value) (us : List Value), us.length = (["value"] : List Str).length → bindArgs (PySem.W.fnOf "is_host" "is_host" (defArgs s_is_host) (defBody s_is_host) (defScope s_is_host) .none kV doc pm an cdv ct) ⟨us, []⟩ = pure ((["value"] : List Str).zip us) :=
  fun _ _ _ _ _ _ us hl => match us, hl with | [_], _ => rfl
theorem bd__begins_host : ∀ (kV doc pm : Value) (an : Option Addr) (cdv ct : Value) (us : List Value), us.length = (["text"] : List Str).length → bindArgs (PySem.W.fnOf "_begins_host" "_begins_host" (defArgs s__begins_host) (defBody s__begins_host) (defScope s__begins_host) .none kV doc pm an cdv ct) ⟨us, []⟩ = pure ((["text"] : List Str).zip us) :=
  fun _ _ _ _ _ _ us hl => match us, hl with | [_], _ => rfl
theorem bd__place : ∀ (kV doc pm : Value) (an : Option Addr) (cdv ct : Value) (us : List Value), us.length = (["text"] : List Str).length → bindArgs (PySem.W.fnOf "_place" "_place" (defArgs s__place) (defBody s__place) (defScope s__place) .none kV doc pm an cdv ct) ⟨us, []⟩ = pure ((["text"] : List Str).zip us) :=
  fun _ _ _ _ _ _ us hl => match us, hl with | [_], _ => rfl
theorem bd_need_host : ∀ (kV doc pm : Value) (an : Option Addr) (cdv ct : Value) (us : List Value), us.length = (["host"] : List Str).length → bindArgs (PySem.W.fnOf "need_host" "need_host" (defArgs s_need_host) (defBody s_need_host) (defScope s_need_host) .none kV doc pm an cdv ct) ⟨us, []⟩ = pure ((["host"] : List Str).zip us) :=
  fun _ _ _ _ _ _ us hl => match us, hl with | [_], _ => rfl
theorem bd_is_address_host : ∀ (kV doc pm : Value) (an : Option Addr) (cdv ct : Value) (us : List Value), us.length = (["value"] : List Str).length → bindArgs (PySem.W.fnOf "is_address_host" "is_address_host" (defArgs s_is_address_host) (defBody s_is_address_host) (defScope s_is_address_host) .none kV doc pm an cdv ct) ⟨us, []⟩ = pure ((["value"] : List Str).zip us) :=
  fun _ _ _ _ _ _ us hl => match us, hl with | [_], _ => rfl
theorem bd__last_labels : ∀ (kV doc pm : Value) (an : Option Addr) (cdv ct : Value) (us : List Value), us.length = (["host", "many"] : List Str).length → bindArgs (PySem.W.fnOf "_last_labels" "_last_labels" (defArgs s__last_labels) (defBody s__last_labels) (defScope s__last_labels) .none kV doc pm an cdv ct) ⟨us, []⟩ = pure ((["host", "many"] : List Str).zip us) :=
  fun _ _ _ _ _ _ us hl => match us, hl with | [_, _], _ => rfl
theorem bd__size : ∀ (kV doc pm : Value) (an : Option Addr) (cdv ct : Value) (us : List Value), us.length = (["text"] : List Str).length → bindArgs (PySem.W.fnOf "_size" "_size" (defArgs s__size) (defBody s__size) (defScope s__size) .none kV doc pm an cdv ct) ⟨us, []⟩ = pure ((["text"] : List Str).zip us) :=
  fun _ _ _ _ _ _ us hl => match us, hl with | [_], _ => rfl
theorem bd__matches : ∀ (kV doc pm : Value) (an : Option Addr) (cdv ct : Value) (us : List Value), us.length = (["pattern", "host"] : List Str).length → bindArgs (PySem.W.fnOf "_matches" "_matches" (defArgs s__matches) (defBody s__matches) (defScope s__matches) .none kV doc pm an cdv ct) ⟨us, []⟩ = pure ((["pattern", "host"] : List Str).zip us) :=
  fun _ _ _ _ _ _ us hl => match us, hl with | [_, _], _ => rfl
theorem bd__suffix_size : ∀ (kV doc pm : Value) (an : Option Addr) (cdv ct : Value) (us : List Value), us.length = (["rules", "host"] : List Str).length → bindArgs (PySem.W.fnOf "_suffix_size" "_suffix_size" (defArgs s__suffix_size) (defBody s__suffix_size) (defScope s__suffix_size) .none kV doc pm an cdv ct) ⟨us, []⟩ = pure ((["rules", "host"] : List Str).zip us) :=
  fun _ _ _ _ _ _ us hl => match us, hl with | [_, _], _ => rfl
theorem bd_known_suffix : ∀ (kV doc pm : Value) (an : Option Addr) (cdv ct : Value) (us : List Value), us.length = (["rules", "host"] : List Str).length → bindArgs (PySem.W.fnOf "known_suffix" "known_suffix" (defArgs s_known_suffix) (defBody s_known_suffix) (defScope s_known_suffix) .none kV doc pm an cdv ct) ⟨us, []⟩ = pure ((["rules", "host"] : List Str).zip us) :=
  fun _ _ _ _ _ _ us hl => match us, hl with | [_, _], _ => rfl
theorem bd_suffix_of : ∀ (kV doc pm : Value) (an : Option Addr) (cdv ct : Value) (us : List Value), us.length = (["rules", "host"] : List Str).length → bindArgs (PySem.W.fnOf "suffix_of" "suffix_of" (defArgs s_suffix_of) (defBody s_suffix_of) (defScope s_suffix_of) .none kV doc pm an cdv ct) ⟨us, []⟩ = pure ((["rules", "host"] : List Str).zip us) :=
  fun _ _ _ _ _ _ us hl => match us, hl with | [_, _], _ => rfl
theorem bd_known_family : ∀ (kV doc pm : Value) (an : Option Addr) (cdv ct : Value) (us : List Value), us.length = (["rules", "host"] : List Str).length → bindArgs (PySem.W.fnOf "known_family" "known_family" (defArgs s_known_family) (defBody s_known_family) (defScope s_known_family) .none kV doc pm an cdv ct) ⟨us, []⟩ = pure ((["rules", "host"] : List Str).zip us) :=
  fun _ _ _ _ _ _ us hl => match us, hl with | [_, _], _ => rfl
theorem bd_family_of : ∀ (kV doc pm : Value) (an : Option Addr) (cdv ct : Value) (us : List Value), us.length = (["rules", "host"] : List Str).length → bindArgs (PySem.W.fnOf "family_of" "family_of" (defArgs s_family_of) (defBody s_family_of) (defScope s_family_of) .none kV doc pm an cdv ct) ⟨us, []⟩ = pure ((["rules", "host"] : List Str).zip us) :=
  fun _ _ _ _ _ _ us hl => match us, hl with | [_, _], _ => rfl
theorem bd_is_suffix : ∀ (kV doc pm : Value) (an : Option Addr) (cdv ct : Value) (us : List Value), us.length = (["rules", "host"] : List Str).length → bindArgs (PySem.W.fnOf "is_suffix" "is_suffix" (defArgs s_is_suffix) (defBody s_is_suffix) (defScope s_is_suffix) .none kV doc pm an cdv ct) ⟨us, []⟩ = pure ((["rules", "host"] : List Str).zip us) :=
  fun _ _ _ _ _ _ us hl => match us, hl with | [_, _], _ => rfl
theorem bd__is_scheme : ∀ (kV doc pm : Value) (an : Option Addr) (cdv ct : Value) (us : List Value), us.length = (["value"] : List Str).length → bindArgs (PySem.W.fnOf "_is_scheme" "_is_scheme" (defArgs s__is_scheme) (defBody s__is_scheme) (defScope s__is_scheme) .none kV doc pm an cdv ct) ⟨us, []⟩ = pure ((["value"] : List Str).zip us) :=
  fun _ _ _ _ _ _ us hl => match us, hl with | [_], _ => rfl
theorem bd_is_origin : ∀ (kV doc pm : Value) (an : Option Addr) (cdv ct : Value) (us : List Value), us.length = (["value"] : List Str).length → bindArgs (PySem.W.fnOf "is_origin" "is_origin" (defArgs s_is_origin) (defBody s_is_origin) (defScope s_is_origin) .none kV doc pm an cdv ct) ⟨us, []⟩ = pure ((["value"] : List Str).zip us) :=
  fun _ _ _ _ _ _ us hl => match us, hl with | [_], _ => rfl
theorem bd_site_of : ∀ (kV doc pm : Value) (an : Option Addr) (cdv ct : Value) (us : List Value), us.length = (["rules", "origin"] : List Str).length → bindArgs (PySem.W.fnOf "site_of" "site_of" (defArgs s_site_of) (defBody s_site_of) (defScope s_site_of) .none kV doc pm an cdv ct) ⟨us, []⟩ = pure ((["rules", "origin"] : List Str).zip us) :=
  fun _ _ _ _ _ _ us hl => match us, hl with | [_, _], _ => rfl
theorem bd__law_draw : ∀ (kV doc pm : Value) (an : Option Addr) (cdv ct : Value) (us : List Value), us.length = (["cell", "k"] : List Str).length → bindArgs (PySem.W.fnOf "_law_draw" "_law_draw" (defArgs s__law_draw) (defBody s__law_draw) (defScope s__law_draw) .none kV doc pm an cdv ct) ⟨us, []⟩ = pure ((["cell", "k"] : List Str).zip us) :=
  fun _ _ _ _ _ _ us hl => match us, hl with | [_, _], _ => rfl
theorem bd__law_mixed : ∀ (kV doc pm : Value) (an : Option Addr) (cdv ct : Value) (us : List Value), us.length = (["cell", "k"] : List Str).length → bindArgs (PySem.W.fnOf "_law_mixed" "_law_mixed" (defArgs s__law_mixed) (defBody s__law_mixed) (defScope s__law_mixed) .none kV doc pm an cdv ct) ⟨us, []⟩ = pure ((["cell", "k"] : List Str).zip us) :=
  fun _ _ _ _ _ _ us hl => match us, hl with | [_, _], _ => rfl
theorem bd__law_digit : ∀ (kV doc pm : Value) (an : Option Addr) (cdv ct : Value) (us : List Value), us.length = (["draw", "span"] : List Str).length → bindArgs (PySem.W.fnOf "_law_digit" "_law_digit" (defArgs s__law_digit) (defBody s__law_digit) (defScope s__law_digit) .none kV doc pm an cdv ct) ⟨us, []⟩ = pure ((["draw", "span"] : List Str).zip us) :=
  fun _ _ _ _ _ _ us hl => match us, hl with | [_, _], _ => rfl
theorem bd__law_rule : ∀ (kV doc pm : Value) (an : Option Addr) (cdv ct : Value) (us : List Value), us.length = (["draw", "k"] : List Str).length → bindArgs (PySem.W.fnOf "_law_rule" "_law_rule" (defArgs s__law_rule) (defBody s__law_rule) (defScope s__law_rule) .none kV doc pm an cdv ct) ⟨us, []⟩ = pure ((["draw", "k"] : List Str).zip us) :=
  fun _ _ _ _ _ _ us hl => match us, hl with | [_, _], _ => rfl
theorem bd__law_rules : ∀ (kV doc pm : Value) (an : Option Addr) (cdv ct : Value) (us : List Value), us.length = (["draw"] : List Str).length → bindArgs (PySem.W.fnOf "_law_rules" "_law_rules" (defArgs s__law_rules) (defBody s__law_rules) (defScope s__law_rules) .none kV doc pm an cdv ct) ⟨us, []⟩ = pure ((["draw"] : List Str).zip us) :=
  fun _ _ _ _ _ _ us hl => match us, hl with | [_], _ => rfl
theorem bd__law_told : ∀ (kV doc pm : Value) (an : Option Addr) (cdv ct : Value) (us : List Value), us.length = (["call"] : List Str).length → bindArgs (PySem.W.fnOf "_law_told" "_law_told" (defArgs s__law_told) (defBody s__law_told) (defScope s__law_told) .none kV doc pm an cdv ct) ⟨us, []⟩ = pure ((["call"] : List Str).zip us) :=
  fun _ _ _ _ _ _ us hl => match us, hl with | [_], _ => rfl
theorem bd_law : ∀ (kV doc pm : Value) (an : Option Addr) (cdv ct : Value) (us : List Value), us.length = (["script"] : List Str).length → bindArgs (PySem.W.fnOf "law" "law" (defArgs s_law) (defBody s_law) (defScope s_law) .none kV doc pm an cdv ct) ⟨us, []⟩ = pure ((["script"] : List Str).zip us) :=
  fun _ _ _ _ _ _ us hl => match us, hl with | [_], _ => rfl
theorem fin_mk {l : PySem.W.OpenLaw} {w : World} {K : PySem.W.Frag} {mg : Str → Option Value} {fa c Tb : Addr} (hfa : mg "law" = some (.ref fa)) (D : DfC K mg "law" s_law ["script"] c Tb) (nT : K.lookup Tb = none) (T : Txt K mg) :
    ∃ (fd : FuncData) (c Tb : Addr), PySem.W.tabIn K "law" = some (c, Tb) ∧ K.lookup Tb = none ∧ (∀ (s : Shared) (v : Value), BindsTo s fd ⟨[v], []⟩ [("script", v)]) ∧ ∀ base : Heap, K.In base → base.Ns PySem.mainGlobals mg → LamX.TabB base mg c Tb → FnG l.prog w K mg base CX0 13 fa fd ["script"] (sp_law K Tb) := by
  obtain ⟨f, fd, F, hc, m, tb, b⟩ := D
  cases hfa.symm.trans m
  exact ⟨fd, c, Tb, tb, nT, fun s v => .of_eq (b [v] rfl), fun base _ _ TB => ok_law F hc TB T⟩
theorem walk {l : PySem.W.OpenLaw} {q : Program} {loose : List Str} {XP : (Str → Option Value) → Heap → Prop} {YP : World → Heap → Prop} {d : DefRec} {K : Params → PySem.W.Frag} (hn : l.most = some 63) (hdf : d.params.defaults = []) (hrec : (recsOf q).find? (fun e => e.name == d.name) = some d)
    (hY : ∀ (w : World) (h : Heap), YP w h → (K w.params).In h)
    (F : ∀ (w : World) (mg : Str → Option Value) (fa : Addr) (h : Heap), (K w.params).In h → h.Ns PySem.mainGlobals mg → mg d.name = some (.ref fa) →
      ∃ (fd : FuncData) (c Tb : Addr), PySem.W.tabIn (K w.params) d.name = some (c, Tb) ∧ (K w.params).lookup Tb = none ∧ (∀ (s : Shared) (u : Value), BindsTo s fd ⟨[u], []⟩ [("script", u)]) ∧ ∀ base : Heap, (K w.params).In base → base.Ns PySem.mainGlobals mg → LamX.TabB base mg c Tb → FnG l.prog w (K w.params) mg base CX0 13 fa fd ["script"] (sp_law (K w.params) Tb)) :
    PySem.W.WalkO q loose XP YP l.row.toRowW d [] (fun f vs => PySem.call f vs) :=
  Kb.walkGT (n := 63) (k := 13) (x := "script") (CX := fun _ => CX0) (sp := fun w Tb => sp_law (K w.params) Tb) hn (by decide) hdf ⟨rfl, by decide, by decide⟩ hY hrec F (fun _ _ a Tb ns hl hT hS => ⟨a, ns, rfl, hS, hl, LamX.TabS.nil hT, fun _ => rfl⟩) fun _ _ _ _ _ z => z
end Pf
open PySem PySem.W PyProof.Rows
set_option maxRecDepth 100000 in
set_option maxHeartbeats 0 in
theorem PySem.Challenge.cw_crumbjar_k05_rules_checked_holds : PySem.Challenge.rw_crumbjar_k05_rules_checked.Holds := by
  w_on; o_law; k_head; (case hw => w_witness2)
  k_fill
  refine Pf.walk (l := PySem.Challenge.rw_crumbjar_k05_rules_checked) rfl rfl (by rfl) (fun w h Y => PySem.W.km_in_of Y) ?F
  case F =>
    intro w mg fa h KX G hmg
    refine' Pf.fin_mk hmg (Kb.DfC.mk KX G Pf.bd_law ?a31 ?l31 ?c31 ?k31 ?lcT ?h11T) ?nTT ⟨(PySem.W.mg_none_of KX G ?z0),
      (PySem.W.mg_none_of KX G ?z1),
      (PySem.W.mg_none_of KX G ?z2),
      (PySem.W.mg_none_of KX G ?z3),
      (PySem.W.mg_none_of KX G ?z4),
      (PySem.W.mg_none_of KX G ?z5),
      (PySem.W.mg_none_of KX G ?z6),
      (PySem.W.mg_none_of KX G ?z7),
      (PySem.W.mg_none_of KX G ?z8),
      (PySem.W.mg_none_of KX G ?z9),
      (PySem.W.mg_none_of KX G ?z10),
      ⟨_, PySem.W.mg_of KX G ?x0, ?r0⟩,
      ⟨_, PySem.W.mg_of KX G ?x1, ?r1⟩,
      ⟨_, PySem.W.mg_of KX G ?x2, ?r2⟩,
      ⟨_, PySem.W.mg_of KX G ?x3, ?r3⟩,
      ⟨_, PySem.W.mg_of KX G ?x4, ?r4⟩,
      ⟨_, PySem.W.mg_of KX G ?x5, ?r5⟩,
      ⟨_, PySem.W.mg_of KX G ?x6, Kb.sqT_of_lookup ?y6 ?u6 ?v6⟩,
      ⟨_, PySem.W.mg_of KX G ?x7, Kb.sqT_of_lookup ?y7 ?u7 ?v7⟩,
      ⟨_, PySem.W.mg_of KX G ?x8, ?r8⟩,
      ⟨_, PySem.W.mg_of KX G ?x9, ?r9⟩,
      ⟨_, PySem.W.mg_of KX G ?x10, ?r10⟩,
      ⟨_, Kb.Err.mk' KX G Pf.bi_BadHost (fun P w base F => Pf.oki_BadHost P w base F) ?aC0E ?xL0E ?rv0E ?sa0E ?ga0E ?gg0E ?nb0E ?a10E ?t10E ?l10E ?c10E ?k10E ?kC0E ?eC0E ?tC0E ?hC0E ?iC0E ?sC0E⟩,
      ⟨_, Kb.Err.mk' KX G Pf.bi_BadOrigin (fun P w base F => Pf.oki_BadOrigin P w base F) ?aC1E ?xL1E ?rv1E ?sa1E ?ga1E ?gg1E ?nb1E ?a11E ?t11E ?l11E ?c11E ?k11E ?kC1E ?eC1E ?tC1E ?hC1E ?iC1E ?sC1E⟩,
      ⟨_, Kb.Err.mk' KX G Pf.bi_BadRules (fun P w base F => Pf.oki_BadRules P w base F) ?aC2E ?xL2E ?rv2E ?sa2E ?ga2E ?gg2E ?nb2E ?a12E ?t12E ?l12E ?c12E ?k12E ?kC2E ?eC2E ?tC2E ?hC2E ?iC2E ?sC2E⟩,
      ⟨_, _, PySem.W.mg_of KX G ?pa0, PySem.W.mg_of KX G ?pb0, Kb.exm_other ?pc0 ?pd0 ?pe0 ?pf0⟩,
      ⟨_, _, PySem.W.mg_of KX G ?pa1, PySem.W.mg_of KX G ?pb1, Kb.exm_other ?pc1 ?pd1 ?pe1 ?pf1⟩,
      ⟨_, _, PySem.W.mg_of KX G ?pa2, PySem.W.mg_of KX G ?pb2, Kb.exm_other ?pc2 ?pd2 ?pe2 ?pf2⟩,
      (Kb.Df.mk KX G Pf.bd_has_only ?a0 ?l0 ?c0 ?k0),
      (Kb.Df.mk KX G Pf.bd__is_label ?a1 ?l1 ?c1 ?k1),
      (Kb.Df.mk KX G Pf.bd_are_labels ?a2 ?l2 ?c2 ?k2),
      (Kb.Df.mk KX G Pf.bd__is_rule ?a3 ?l3 ?c3 ?k3),
      (Kb.Df.mk KX G Pf.bd_need_rules ?a4 ?l4 ?c4 ?k4),
      (Kb.Df.mk KX G Pf.bd_is_digits ?a5 ?l5 ?c5 ?k5),
      (Kb.Df.mk KX G Pf.bd__is_number ?a6 ?l6 ?c6 ?k6),
      (Kb.Df.mk KX G Pf.bd__are_four_numbers ?a7 ?l7 ?c7 ?k7),
      (Kb.Df.mk KX G Pf.bd_is_host ?a8 ?l8 ?c8 ?k8),
      (Kb.Df.mk KX G Pf.bd__begins_host ?a9 ?l9 ?c9 ?k9),
      (Kb.Df.mk KX G Pf.bd__place ?a10 ?l10 ?c10 ?k10),
      (Kb.Df.mk KX G Pf.bd_need_host ?a11 ?l11 ?c11 ?k11),
      (Kb.Df.mk KX G Pf.bd_is_address_host ?a12 ?l12 ?c12 ?k12),
      (Kb.Df.mk KX G Pf.bd__last_labels ?a13 ?l13 ?c13 ?k13),
      (Kb.Df.mk KX G Pf.bd__size ?a14 ?l14 ?c14 ?k14),
      (Kb.Df.mk KX G Pf.bd__matches ?a15 ?l15 ?c15 ?k15),
      (Kb.Df.mk KX G Pf.bd__suffix_size ?a16 ?l16 ?c16 ?k16),
      (Kb.Df.mk KX G Pf.bd_known_suffix ?a17 ?l17 ?c17 ?k17),
      (Kb.Df.mk KX G Pf.bd_suffix_of ?a18 ?l18 ?c18 ?k18),
      (Kb.Df.mk KX G Pf.bd_known_family ?a19 ?l19 ?c19 ?k19),
      (Kb.Df.mk KX G Pf.bd_family_of ?a20 ?l20 ?c20 ?k20),
      (Kb.Df.mk KX G Pf.bd_is_suffix ?a21 ?l21 ?c21 ?k21),
      (Kb.Df.mk KX G Pf.bd__is_scheme ?a22 ?l22 ?c22 ?k22),
      (Kb.Df.mk KX G Pf.bd_is_origin ?a23 ?l23 ?c23 ?k23),
      (Kb.Df.mk KX G Pf.bd_site_of ?a24 ?l24 ?c24 ?k24),
      (Kb.Df.mk KX G Pf.bd__law_draw ?a25 ?l25 ?c25 ?k25),
      (Kb.Df.mk KX G Pf.bd__law_mixed ?a26 ?l26 ?c26 ?k26),
      (Kb.Df.mk KX G Pf.bd__law_digit ?a27 ?l27 ?c27 ?k27),
      (Kb.Df.mk KX G Pf.bd__law_rule ?a28 ?l28 ?c28 ?k28),
      (Kb.Df.mk KX G Pf.bd__law_rules ?a29 ?l29 ?c29 ?k29),
      (Kb.Df.mk KX G Pf.bd__law_told ?a30 ?l30 ?c30 ?k30)⟩
    (case z0 => k_is)
    (case z1 => k_is)
    (case z2 => k_is)
    (case z3 => k_is)
    (case z4 => k_is)
    (case z5 => k_is)
    (case z6 => k_is)
    (case z7 => k_is)
    (case z8 => k_is)
    (case z9 => k_is)
    (case z10 => k_is)
    (case x0 => k_is)
    (case r0 => first | exact ⟨_, rfl⟩ | rfl)
    (case x1 => k_is)
    (case r1 => first | exact ⟨_, rfl⟩ | rfl)
    (case x2 => k_is)
    (case r2 => first | exact ⟨_, rfl⟩ | rfl)
    (case x3 => k_is)
    (case r3 => first | exact ⟨_, rfl⟩ | rfl)
    (case x4 => k_is)
    (case r4 => first | exact ⟨_, rfl⟩ | rfl)
    (case x5 => k_is)
    (case r5 => first | exact ⟨_, rfl⟩ | rfl)
    (case x6 => k_is)
    (case y6 => k_is)
    (case u6 => show _ ≤ _; decide)
    (case v6 => exact .cons ⟨_, rfl⟩ (.cons ⟨_, rfl⟩ (.cons ⟨_, rfl⟩ (.nil))))
    (case x7 => k_is)
    (case y7 => k_is)
    (case u7 => show _ ≤ _; decide)
    (case v7 => exact .cons ⟨_, rfl⟩ (.cons ⟨_, rfl⟩ (.nil)))
    (case x8 => k_is)
    (case r8 => first | exact ⟨_, rfl⟩ | rfl)
    (case x9 => k_is)
    (case r9 => first | exact ⟨_, rfl⟩ | rfl)
    (case x10 => k_is)
    (case r10 => first | exact ⟨_, rfl⟩ | rfl)
    (case aC0E => k_is)
    (case xL0E => k_is)
    (case rv0E => first | decide +kernel | rfl)
    (case sa0E => k_is)
    (case ga0E => k_is)
    (case gg0E => k_is)
    (case nb0E => k_is)
    (case a10E => k_is)
    (case t10E => k_is)
    (case l10E => k_is)
    (case c10E => k_is)
    (case k10E => k_is)
    (case kC0E => k_is)
    (case eC0E => k_is)
    (case tC0E => k_is)
    (case hC0E => k_is)
    (case iC0E => k_is)
    (case sC0E => first | rfl | k_is)
    (case aC1E => k_is)
    (case xL1E => k_is)
    (case rv1E => first | decide +kernel | rfl)
    (case sa1E => k_is)
    (case ga1E => k_is)
    (case gg1E => k_is)
    (case nb1E => k_is)
    (case a11E => k_is)
    (case t11E => k_is)
    (case l11E => k_is)
    (case c11E => k_is)
    (case k11E => k_is)
    (case kC1E => k_is)
    (case eC1E => k_is)
    (case tC1E => k_is)
    (case hC1E => k_is)
    (case iC1E => k_is)
    (case sC1E => first | rfl | k_is)
    (case aC2E => k_is)
    (case xL2E => k_is)
    (case rv2E => first | decide +kernel | rfl)
    (case sa2E => k_is)
    (case ga2E => k_is)
    (case gg2E => k_is)
    (case nb2E => k_is)
    (case a12E => k_is)
    (case t12E => k_is)
    (case l12E => k_is)
    (case c12E => k_is)
    (case k12E => k_is)
    (case kC2E => k_is)
    (case eC2E => k_is)
    (case tC2E => k_is)
    (case hC2E => k_is)
    (case iC2E => k_is)
    (case sC2E => first | rfl | k_is)
    (case pa0 => k_is)
    (case pb0 => k_is)
    (case pc0 => k_is)
    (case pd0 => k_is)
    (case pe0 => k_is)
    (case pf0 => k_is)
    (case pa1 => k_is)
    (case pb1 => k_is)
    (case pc1 => k_is)
    (case pd1 => k_is)
    (case pe1 => k_is)
    (case pf1 => k_is)
    (case pa2 => k_is)
    (case pb2 => k_is)
    (case pc2 => k_is)
    (case pd2 => k_is)
    (case pe2 => k_is)
    (case pf2 => k_is)
    (case a0 => k_is)
    (case l0 => k_is)
    (case c0 => k_is)
    (case k0 => k_is)
    (case a1 => k_is)
    (case l1 => k_is)
    (case c1 => k_is)
    (case k1 => k_is)
    (case a2 => k_is)
    (case l2 => k_is)
    (case c2 => k_is)
    (case k2 => k_is)
    (case a3 => k_is)
    (case l3 => k_is)
    (case c3 => k_is)
    (case k3 => k_is)
    (case a4 => k_is)
    (case l4 => k_is)
    (case c4 => k_is)
    (case k4 => k_is)
    (case a5 => k_is)
    (case l5 => k_is)
    (case c5 => k_is)
    (case k5 => k_is)
    (case a6 => k_is)
    (case l6 => k_is)
    (case c6 => k_is)
    (case k6 => k_is)
    (case a7 => k_is)
    (case l7 => k_is)
    (case c7 => k_is)
    (case k7 => k_is)
    (case a8 => k_is)
    (case l8 => k_is)
    (case c8 => k_is)
    (case k8 => k_is)
    (case a9 => k_is)
    (case l9 => k_is)
    (case c9 => k_is)
    (case k9 => k_is)
    (case a10 => k_is)
    (case l10 => k_is)
    (case c10 => k_is)
    (case k10 => k_is)
    (case a11 => k_is)
    (case l11 => k_is)
    (case c11 => k_is)
    (case k11 => k_is)
    (case a12 => k_is)
    (case l12 => k_is)
    (case c12 => k_is)
    (case k12 => k_is)
    (case a13 => k_is)
    (case l13 => k_is)
    (case c13 => k_is)
    (case k13 => k_is)
    (case a14 => k_is)
    (case l14 => k_is)
    (case c14 => k_is)
    (case k14 => k_is)
    (case a15 => k_is)
    (case l15 => k_is)
    (case c15 => k_is)
    (case k15 => k_is)
    (case a16 => k_is)
    (case l16 => k_is)
    (case c16 => k_is)
    (case k16 => k_is)
    (case a17 => k_is)
    (case l17 => k_is)
    (case c17 => k_is)
    (case k17 => k_is)
    (case a18 => k_is)
    (case l18 => k_is)
    (case c18 => k_is)
    (case k18 => k_is)
    (case a19 => k_is)
    (case l19 => k_is)
    (case c19 => k_is)
    (case k19 => k_is)
    (case a20 => k_is)
    (case l20 => k_is)
    (case c20 => k_is)
    (case k20 => k_is)
    (case a21 => k_is)
    (case l21 => k_is)
    (case c21 => k_is)
    (case k21 => k_is)
    (case a22 => k_is)
    (case l22 => k_is)
    (case c22 => k_is)
    (case k22 => k_is)
    (case a23 => k_is)
    (case l23 => k_is)
    (case c23 => k_is)
    (case k23 => k_is)
    (case a24 => k_is)
    (case l24 => k_is)
    (case c24 => k_is)
    (case k24 => k_is)
    (case a25 => k_is)
    (case l25 => k_is)
    (case c25 => k_is)
    (case k25 => k_is)
    (case a26 => k_is)
    (case l26 => k_is)
    (case c26 => k_is)
    (case k26 => k_is)
    (case a27 => k_is)
    (case l27 => k_is)
    (case c27 => k_is)
    (case k27 => k_is)
    (case a28 => k_is)
    (case l28 => k_is)
    (case c28 => k_is)
    (case k28 => k_is)
    (case a29 => k_is)
    (case l29 => k_is)
    (case c29 => k_is)
    (case k29 => k_is)
    (case a30 => k_is)
    (case l30 => k_is)
    (case c30 => k_is)
    (case k30 => k_is)
    (case a31 => k_is)
    (case l31 => k_is)
    (case c31 => k_is)
    (case k31 => k_is)
    (case lcT => k_is)
    (case h11T => rfl)
    (case nTT => rfl)
#print axioms PySem.Challenge.cw_crumbjar_k05_rules_checked_holds
