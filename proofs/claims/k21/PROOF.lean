import PyProof.Rows.All
import Wide.All
import OpenK.AllK
import Wide.FinOn
import HandS.Base
import HandS.Call
import HandS.List
import HandS.Comp
import HandS.Ends
import HandS.Dict
import HandS.Iter
import HandS.Text
import HandS.Words
import PyProof.Rows.StrNews2
import PyProof.StrLawsLast
import HandS.Wide
import HandS.Walk
import HandS.IsInst
import HandS.Style
import KE.GoesEnum
import KE.GoesEnumKw
import HandS.TryOnly
import HandS.ExcOwn
import HandS.ExcValue
import KE.KUnpackStar
import KE.IntTextLaws
import HandS.TupMul
import HandS.StrMore
import HandS.TupAny
import PyProof.Rows.StrFirst
import PyProof.Rows.RegReprOcc
import KE.KIntText
import PyProof.Rows.Digits
import HandS.More
import HandS.Strs
import HandS.Exc
import HandS.ExcInit
import HandS.ExcField
import HandS.WordsExc
import PyProof.ReprReads
import PyProof.ReprRoads
import KE.KxStill
import PyProof.Rows.StrCase
import PyProof.StrLawsRepr
import PyProof.Rows.StrJoinMade
import PyProof.ReprBulk
import HandS.WordsDict
import HandS.MakeKwOnly
import HandS.SlotsOwn
import HandS.ExcIs
import KE.KExcIs
import HandS.DictSubView
import HandS.Conv
import KE.KDictSum
import PyProof.Rows.StrIntSpec
import KE.KDflt
import HandS.Lambda
import HandS.EndTab
import HandS.EndOwn
import HandS.TryMany
import HandS.Codes
import HandS.Flow
import HandS.Evl
import HandS.Small
import HandS.MapJoin
import PySem.Challenge.RW_crumbjar_k21_lines_made
set_option Elab.async false
set_option linter.all false
set_option maxRecDepth 100000
set_option maxHeartbeats 4000000
namespace Kb
open PySem PySem.Spec PyProof.Rows L2
/-! ### a def of the text, a def that may be called -/
def Df (K : PySem.W.Frag) (mg : Str → Option Value) (x : Str) (st : Stmt) (ps : List Str) : Prop :=
  ∃ (f : Addr) (fd : FuncData), Fun K x x st f fd ∧ mg x = some (.ref f) ∧ ∀ us : List Value, us.length = ps.length → bindArgs fd ⟨us, []⟩ = pure (ps.zip us)
theorem Df.mk {K : PySem.W.Frag} {mg : Str → Option Value} {h : Heap} {x : Str} {st : Stmt} {ps : List Str} {f : Addr} {oc : Value} {od an : Option Addr} {sl : Array (Option Value)} {kV doc pm cd ct : Value} (X : K.In h) (G : h.Ns PySem.mainGlobals mg)
    (b : ∀ (kV doc pm : Value) (an : Option Addr) (cdv ct : Value) (us : List Value), us.length = ps.length → bindArgs (PySem.W.fnOf x x (defArgs st) (defBody st) (defScope st) .none kV doc pm an cdv ct) ⟨us, []⟩ = pure (ps.zip us))
    (a : PySem.W.nsIn K PySem.mainGlobals x = some (some (.ref f)))
    (l : K.lookup f = some ⟨oc, od, .func (PySem.W.fnOf x x (defArgs st) (defBody st) (defScope st) .none kV doc pm an cd ct), sl⟩)
    (c : PySem.W.codeIn K cd x = true) (k : PySem.W.keepIn K (.ref f) = true) : Df K mg x st ps :=
  ⟨f, _, fun_mk l c k, PySem.W.mg_of X G a, b kV doc pm an cd ct⟩
def Cal (P : Program) (w : World) (K : PySem.W.Frag) (mg : Str → Option Value) (base : Heap) (CX : CXT) (k : Nat) (x : Str) (ps : List Str) (sp : Sp) : Prop :=
  ∃ (f : Addr) (fd : FuncData), FnOk P w K mg base CX k f fd ps sp ∧ mg x = some (.ref f) ∧ PySem.W.keepIn K (.ref f) = true ∧ Binds K fd ps []
section
variable {P : Program} {w : World} {K : PySem.W.Frag} {mg : Str → Option Value} {base : Heap}
theorem Df.ok0 {x : Str} {st : Stmt} {N ps : List Str} {k : Nat} {sp : Sp} (D : Df K mg x st ps) (S : FnScope N ps (defScope st)) (len : ∀ vs H Q E, sp vs H Q E → vs.length = ps.length)
    (hbody : ∀ (f : Addr) (cdv : Value) (A : Around) (outer : List Env) (s : Shared) (H : Hp) (vs : List V) (Q : VK) (E : XK), Room k (A.deeper (envOfC x (defScope st) s.heap.objs.size f cdv)) → sp vs H Q E →
      ∃ t, PSs (cxOf CX0 P w K mg base N x (defScope st) f cdv A outer s H E).nox (defBody st) t ∧ t { nx := fun _ H' => Q .non H', rt := Q } (start N vs) H) : Cal P w K mg base CX0 (k + 1) x ps sp := by
  obtain ⟨f, fd, F, m, b⟩ := D
  exact ⟨f, fd, F.ok S len (hbody f), m, F.kp, .all b⟩
end
theorem pe_c {X : Cx} {CX : CXT} {j k : Nat} {x : Str} {ps : List Str} {sp : Sp} {E : XK} {p pos : Pos} {e : Expr} {es : List Expr} {t : TA} (c : Cal X.prog X.w X.K X.mg X.base CX j x ps sp) (hr : Room k X.A) (hjk : j ≤ k) (hg : Gl X x) (hx : Passes CX X E)
    (ha : PA X (e :: es) t) (hdb : (x == ("__debug__" : Str)) = false := by decide) (he : starEach (e :: es) X.env = (false, eval e X.env) :: starEach es X.env := by rfl) (hpl : (backTo pos (starEach es X.env)).any (·.1) = false := by rfl) :
    PE X (.Call (.Name x p) (e :: es) [] pos) (tCall sp [] E t) := by
  obtain ⟨f, fd, F, m, kp, b⟩ := c
  exact pe_call F (hr.mono hjk) hg m kp b .nil hx ha hdb he hpl
end Kb

namespace Kb
open PySem PySem.Spec PyProof.Rows L2 TL PySem.StrLaws Builtin.Str
/-! ### lists of signs: parts between one sign -/
def sp1 (c : Nat) : List Nat → List (List Nat)
  | [] => [[]]
  | x :: l => if x = c then [] :: sp1 c l else match sp1 c l with
    | [] => [[x]]
    | h :: t => (x :: h) :: t
theorem sp1_ne (c : Nat) : ∀ l, sp1 c l ≠ []
  | [] => by simp [sp1]
  | x :: l => by
    unfold sp1
    split
    · simp
    · cases h : sp1 c l <;> simp
theorem sp1_hit (c : Nat) (l : List Nat) : sp1 c (c :: l) = [] :: sp1 c l := by simp [sp1]
theorem sp1_miss {c x : Nat} (h : x ≠ c) {l p : List Nat} {r : List (List Nat)} (e : sp1 c l = p :: r) : sp1 c (x :: l) = (x :: p) :: r := by
  simp only [sp1, if_neg h, e]
theorem sp1_cons (c : Nat) (l : List Nat) : ∃ p r, sp1 c l = p :: r := by
  cases h : sp1 c l with
  | nil => exact absurd h (sp1_ne c l)
  | cons p r => exact ⟨p, r, rfl⟩
theorem spl_sp1 (c : Nat) : ∀ (l acc : List Nat) (p : List Nat) (r : List (List Nat)), sp1 c l = p :: r → spl [c] 0 acc l = (acc ++ p) :: r
  | [], acc, p, r, h => by
    simp only [sp1, List.cons.injEq] at h
    obtain ⟨rfl, rfl⟩ := h
    simp [spl_nil]
  | x :: l, acc, p, r, h => by
    obtain ⟨q, s, e⟩ := sp1_cons c l
    by_cases hx : x = c
    · subst hx
      rw [sp1_hit] at h
      simp only [List.cons.injEq] at h
      obtain ⟨rfl, rfl⟩ := h
      rw [spl_hit (by simp [pre])]
      rw [show [x].length - 1 = 0 from rfl, spl_sp1 x l [] q s e, e]
      simp
    · rw [sp1_miss hx e] at h
      simp only [List.cons.injEq] at h
      obtain ⟨rfl, rfl⟩ := h
      rw [spl_miss (by simp [pre, hx]), spl_sp1 c l _ q s e]
      simp
theorem split_sp1 (x : Str) {c : Nat} (hc : c < 256) : (Txt.split x ⟨#[c]⟩).map tl = sp1 c (tl x) := by
  rw [split_spl x ⟨#[c]⟩ (by simp [tl]) (kind_ok (by simp [hc]))]
  obtain ⟨p, r, e⟩ := sp1_cons c (tl x)
  show spl [c] 0 [] (tl x) = _
  rw [spl_sp1 c _ [] p r e, e]
  rfl
theorem joinL_sp1 (c : Nat) : ∀ l, joinL [c] (sp1 c l) = l
  | [] => rfl
  | x :: l => by
    obtain ⟨q, s, e⟩ := sp1_cons c l
    have ih := joinL_sp1 c l
    by_cases hx : x = c
    · subst hx
      rw [sp1_hit, e]
      rw [e] at ih
      show [] ++ ([x] ++ joinL [x] (q :: s)) = _
      rw [ih]; rfl
    · rw [sp1_miss hx e]
      rw [e] at ih
      cases s with
      | nil => exact congrArg (x :: ·) ih
      | cons a b => exact congrArg (x :: ·) ih
theorem sp1_free (c : Nat) : ∀ l, ∀ p ∈ sp1 c l, c ∉ p
  | [], p, h => by simp only [sp1, List.mem_singleton] at h; subst h; simp
  | x :: l, p, h => by
    obtain ⟨q, s, e⟩ := sp1_cons c l
    have ih := sp1_free c l
    by_cases hx : x = c
    · subst hx
      rw [sp1_hit] at h
      rcases List.mem_cons.mp h with rfl | h
      · simp
      · exact ih p h
    · rw [sp1_miss hx e] at h
      rw [e] at ih
      rcases List.mem_cons.mp h with rfl | h
      · intro hm
        rcases List.mem_cons.mp hm with r | r
        · exact hx r.symm
        · exact ih q (List.mem_cons_self ..) r
      · exact ih p (List.mem_cons_of_mem _ h)
theorem sp1_of_free {c : Nat} : ∀ {l : List Nat}, c ∉ l → sp1 c l = [l]
  | [], _ => rfl
  | x :: l, h => by
    have hx : x ≠ c := fun e => h (e ▸ List.mem_cons_self ..)
    rw [sp1_miss hx (sp1_of_free fun m => h (List.mem_cons_of_mem _ m))]
theorem sp1_app (c : Nat) : ∀ (a b : List Nat), sp1 c (a ++ c :: b) = sp1 c a ++ sp1 c b
  | [], b => by rw [List.nil_append, sp1_hit]; rfl
  | x :: a, b => by
    obtain ⟨q, s, e⟩ := sp1_cons c a
    have ih := sp1_app c a b
    rw [e] at ih
    by_cases hx : x = c
    · subst hx
      rw [List.cons_append, sp1_hit, sp1_hit, ih, e]; rfl
    · rw [List.cons_append, sp1_miss hx ih, sp1_miss hx e]; rfl
/-- r and the sign stand at the head exactly if r's parts are the first ones, with one more behind -/
theorem sp1_prefix (c : Nat) : ∀ (r p : List Nat), ((sp1 c r).length < (sp1 c p).length ∧ (sp1 c p).take (sp1 c r).length = sp1 c r) ↔ (r ++ [c]) <+: p
  | [], p => by
    show (1 < _ ∧ List.take 1 _ = [[]]) ↔ [c] <+: p
    cases p with
    | nil => simp [sp1]
    | cons x p =>
      obtain ⟨q, s, e⟩ := sp1_cons c p
      by_cases hx : x = c
      · subst hx
        simp [sp1_hit, e]
      · rw [sp1_miss hx e]
        simp [List.cons_prefix_cons, Ne.symm hx]
  | y :: r, p => by
    obtain ⟨q, s, e⟩ := sp1_cons c r
    cases p with
    | nil =>
      have h1 : 0 < (sp1 c (y :: r)).length := List.length_pos_iff.mpr (sp1_ne c _)
      constructor
      · rintro ⟨h, _⟩
        simp only [sp1, List.length_cons, List.length_nil] at h
        exact absurd h (by have : (sp1 c (y :: r)).length = (sp1 c (y :: r)).length := rfl; simp only [sp1] at h1; omega)
      · intro h; simp at h
    | cons x p =>
      obtain ⟨q', s', e'⟩ := sp1_cons c p
      have ih := sp1_prefix c r p
      rw [List.cons_append, List.cons_prefix_cons]
      by_cases hy : y = c
      · subst hy
        rw [sp1_hit]
        by_cases hx : x = y
        · subst hx
          rw [sp1_hit]
          simp only [List.length_cons, List.take_succ_cons, List.cons.injEq, true_and, Nat.add_lt_add_iff_right]
          exact ih
        · rw [sp1_miss hx e']
          simp [Ne.symm hx]
      · rw [sp1_miss hy e]
        by_cases hx : x = c
        · subst hx
          rw [sp1_hit]
          simp [Ne.symm hy, hy]
        · rw [sp1_miss hx e']
          rw [e, e'] at ih
          simp only [List.length_cons, List.take_succ_cons, List.cons.injEq] at ih ⊢
          constructor
          · rintro ⟨h1, ⟨h2, h3⟩, h4⟩
            exact ⟨h2.symm, ih.mp ⟨h1, h3, h4⟩⟩
          · rintro ⟨h2, h⟩
            obtain ⟨h1, h3, h4⟩ := ih.mpr h
            exact ⟨h1, ⟨h2.symm, h3⟩, h4⟩
/-- the last part -/
theorem last_cut {c : Nat} : ∀ {l : List Nat}, c ∈ l → ∃ a b, l = a ++ c :: b ∧ c ∉ b
  | [], h => by cases h
  | x :: l, h => by
    by_cases hm : c ∈ l
    · obtain ⟨a, b, e, hb⟩ := last_cut hm
      exact ⟨x :: a, b, by rw [e]; rfl, hb⟩
    · have hx : c = x := by
        rcases List.mem_cons.mp h with e | e
        · exact e
        · exact absurd e hm
      exact ⟨[], l, by rw [hx]; rfl, hm⟩
/-! ### the model's words as list functions -/
theorem startswith_tl (x y : Str) : Txt.startswith x y = (tl y).isPrefixOf (tl x) := by
  unfold Txt.startswith
  rw [subAt_eq, List.drop_zero, len_tl, len_tl, Nat.zero_add]
  rw [Bool.eq_iff_iff]
  simp only [Bool.and_eq_true, decide_eq_true_eq, beq_iff_eq, List.isPrefixOf_iff_prefix]
  constructor
  · rintro ⟨_, h⟩
    have h : List.take (tl y).length (tl x) = tl y := h
    exact h ▸ List.take_prefix _ _
  · intro h
    exact ⟨h.length_le, (List.prefix_iff_eq_take.mp h).symm⟩
theorem endswith_tl (x y : Str) : Txt.endswith x y = (tl y).isSuffixOf (tl x) := by
  unfold Txt.endswith
  rw [subAt_eq, len_tl, len_tl, Nat.zero_add]
  rw [Bool.eq_iff_iff]
  simp only [Bool.and_eq_true, decide_eq_true_eq, beq_iff_eq, List.isSuffixOf_iff_suffix]
  constructor
  · rintro ⟨h1, h⟩
    have h : List.take (tl y).length (List.drop ((tl x).length - (tl y).length) (tl x)) = tl y := h
    rw [List.take_of_length_le (by rw [List.length_drop]; omega)] at h
    exact h ▸ List.drop_suffix _ _
  · intro h
    have hl := h.length_le
    refine ⟨hl, ?_⟩
    show List.take (tl y).length (List.drop ((tl x).length - (tl y).length) (tl x)) = tl y
    rw [List.take_of_length_le (by rw [List.length_drop]; omega)]
    exact (List.suffix_iff_eq_drop.mp h).symm
theorem rpartition_hit {x : Str} {c : Nat} {a b : List Nat} (e : tl x = a ++ c :: b) (hb : c ∉ b) : tl (Txt.rpartition x ⟨#[c]⟩).1 = a := by
  have hy : tl (⟨#[c]⟩ : Str) ≠ [] := by simp [tl]
  have at' : ∀ i, At x ⟨#[c]⟩ x.length i ↔ (tl x)[i]? = some c := fun i => by
    rw [at_iff hy]
    show (((tl x).drop i).take 1 == [c]) = true ↔ _
    exact take1_drop
  have hit : At x ⟨#[c]⟩ x.length a.length := (at' _).mpr (by rw [e]; simp)
  unfold Txt.rpartition
  rcases last_spec x ⟨#[c]⟩ with ⟨e1, h⟩ | ⟨i, e1, h1, h2⟩
  · exact absurd hit (h _)
  · rw [e1]
    show tl (strSub x 0 i) = a
    have hi : i = a.length := by
      rcases Nat.lt_trichotomy i a.length with q | q | q
      · exact absurd hit (h2 _ q)
      · exact q
      · have g := (at' i).mp h1
        rw [e, List.getElem?_append_right (by omega)] at g
        obtain ⟨k, hk⟩ : ∃ k, i - a.length = k + 1 := ⟨i - a.length - 1, by omega⟩
        rw [hk, List.getElem?_cons_succ] at g
        exact absurd (List.mem_of_getElem? g) hb
    rw [tl_strSub, hi, e]
    simp
theorem tl_S (l : List Nat) : tl ⟨l.toArray⟩ = l := rfl
theorem str_eq_iff {x y : Str} : x = y ↔ tl x = tl y := ⟨fun e => by rw [e], ext_tl⟩
end Kb
namespace Kb
open PySem PySem.Spec PyProof.Rows L2 TL PySem.StrLaws Builtin.Str
theorem cutS_to (z : Str) {i : Int} (h : 0 ≤ i) : tl (cutS z none (some i)) = (tl z).take i.toNat := by
  obtain ⟨k, rfl⟩ : ∃ k : Nat, i = (k : Int) := ⟨i.toNat, by omega⟩
  show ((tl z).drop (HT.sIx z.length 0 none)).take (HT.sIx z.length z.length (some (k : Int)) - HT.sIx z.length 0 none) = _
  rw [HT.sIx_none, HT.sIx_nat, List.drop_zero, Nat.sub_zero, Int.toNat_natCast, len_tl, ← List.take_take, List.take_of_length_le (Nat.le_refl _)]
end Kb
namespace Kb
open PySem PySem.Spec PyProof.Rows L2 TL PySem.StrLaws Builtin.Str
theorem cutV_to (xs : List V) {i : Int} (h : 0 ≤ i) : cutV xs none (some i) = xs.take i.toNat := by
  obtain ⟨k, rfl⟩ : ∃ k : Nat, i = (k : Int) := ⟨i.toNat, by omega⟩
  show (xs.drop (HT.sIx xs.length 0 none)).take (HT.sIx xs.length xs.length (some (k : Int)) - HT.sIx xs.length 0 none) = _
  rw [HT.sIx_none, HT.sIx_nat, List.drop_zero, Nat.sub_zero, Int.toNat_natCast, ← List.take_take, List.take_of_length_le (Nat.le_refl _)]
theorem cutV_m1 (xs : List V) : cutV xs none (some (-1)) = xs.dropLast := by
  show (xs.drop (HT.sIx xs.length 0 none)).take (HT.sIx xs.length xs.length (some (-1)) - HT.sIx xs.length 0 none) = _
  rw [HT.sIx_none, List.drop_zero, Nat.sub_zero, List.dropLast_eq_take]
  have e : HT.sIx xs.length xs.length (some (-1)) = xs.length - 1 := by
    show (if (-1 : Int) < 0 then ((-1 : Int) + (xs.length : Int)).toNat else min (-1 : Int).toNat xs.length) = _
    rw [if_pos (by decide)]
    omega
  rw [e]
theorem sp1_mem {c s : Nat} : ∀ {l p : List Nat}, p ∈ sp1 c l → s ∈ p → s ∈ l
  | [], p, h, hs => by simp only [sp1, List.mem_singleton] at h; subst h; exact hs
  | x :: l, p, h, hs => by
    obtain ⟨q, r, e⟩ := sp1_cons c l
    have ih := fun p => sp1_mem (c := c) (s := s) (l := l) (p := p)
    by_cases hx : x = c
    · subst hx
      rw [sp1_hit] at h
      rcases List.mem_cons.mp h with rfl | h
      · cases hs
      · exact List.mem_cons_of_mem _ (ih p h hs)
    · rw [sp1_miss hx e] at h
      rw [e] at ih
      rcases List.mem_cons.mp h with rfl | h
      · rcases List.mem_cons.mp hs with rfl | hs
        · exact List.mem_cons_self ..
        · exact List.mem_cons_of_mem _ (ih q (List.mem_cons_self ..) hs)
      · exact List.mem_cons_of_mem _ (ih p (List.mem_cons_of_mem _ h) hs)
theorem split_mem {x p : Str} {c : Nat} (hc : c < 256) (h : p ∈ Txt.split x ⟨#[c]⟩) : ∀ s ∈ tl p, s ∈ tl x := fun s hs =>
  sp1_mem (c := c) (by rw [← split_sp1 x hc]; exact List.mem_map.mpr ⟨p, h, rfl⟩) hs
theorem split_strOk {x : Str} {c : Nat} (hc : c < 256) (hx : ∀ s ∈ tl x, s < 1114112) : ∀ p ∈ Txt.split x ⟨#[c]⟩, PyData.canLay0 (.str p) = true := fun p hp => by
  rw [PyData.canLay0]
  show p.cps.all _ = true
  rw [Array.all_eq_true_iff_forall_mem]
  intro s hs
  exact decide_eq_true (hx s (split_mem hc hp s (Array.mem_toList_iff.mpr hs)))
theorem prefix_snoc {q p : List Nat} {c : Nat} : (q ++ [c]) <+: p ↔ q <+: p ∧ p[q.length]? = some c := by
  constructor
  · rintro ⟨r, e⟩
    refine ⟨⟨c :: r, by rw [← e]; simp⟩, ?_⟩
    rw [← e]; simp
  · rintro ⟨⟨r, e⟩, h⟩
    rw [← e, List.getElem?_append_right (Nat.le_refl _), Nat.sub_self] at h
    cases r with
    | nil => cases h
    | cons a r =>
      cases h
      exact ⟨r, by rw [← e]; simp⟩
theorem snoc_of_ne {l : List Nat} (h : l ≠ []) : ∃ r c, l = r ++ [c] := ⟨l.dropLast, l.getLast h, (List.dropLast_concat_getLast h).symm⟩
theorem sp1_length {c : Nat} : ∀ l : List Nat, (sp1 c l).length ≤ l.length + 1
  | [] => by simp [sp1]
  | x :: l => by
    obtain ⟨q, r, e⟩ := sp1_cons c l
    have ih := sp1_length (c := c) l
    by_cases hx : x = c
    · subst hx; rw [sp1_hit]; simp; omega
    · rw [sp1_miss hx e]; rw [e] at ih; simp at ih ⊢; omega
theorem split_length (x : Str) {c : Nat} (hc : c < 256) : (Txt.split x ⟨#[c]⟩).length ≤ x.length + 1 := by
  have := sp1_length (c := c) (tl x)
  rw [← split_sp1 x hc, List.length_map] at this
  rw [len_tl]; exact this
end Kb
namespace Kb
open PySem PySem.Spec PyProof.Rows L2 TL PySem.StrLaws Builtin.Str
theorem sp1_mem_len {c : Nat} : ∀ {l p : List Nat}, p ∈ sp1 c l → p.length ≤ l.length
  | [], p, h => by simp only [sp1, List.mem_singleton] at h; subst h; simp
  | x :: l, p, h => by
    obtain ⟨q, r, e⟩ := sp1_cons c l
    have ih := fun p => sp1_mem_len (c := c) (l := l) (p := p)
    by_cases hx : x = c
    · subst hx
      rw [sp1_hit] at h
      rcases List.mem_cons.mp h with rfl | h
      · simp
      · have := ih p h; simp; omega
    · rw [sp1_miss hx e] at h
      rw [e] at ih
      rcases List.mem_cons.mp h with rfl | h
      · have := ih q (List.mem_cons_self ..); simp; omega
      · have := ih p (List.mem_cons_of_mem _ h); simp; omega
theorem split_mem_len {x p : Str} {c : Nat} (hc : c < 256) (h : p ∈ Txt.split x ⟨#[c]⟩) : p.length ≤ x.length := by
  rw [len_tl, len_tl]
  exact sp1_mem_len (c := c) (by rw [← split_sp1 x hc]; exact List.mem_map.mpr ⟨p, h, rfl⟩)
theorem joinL_nil {c : Nat} : ∀ {L : List (List Nat)}, joinL [c] L = [] → L = [] ∨ L = [[]]
  | [], _ => .inl rfl
  | [p], h => .inr (by rw [show p = [] from h])
  | p :: q :: r, h => by
    have : p ++ ([c] ++ joinL [c] (q :: r)) = [] := h
    simp at this
theorem join_tl (y : Str) (parts : List Str) : tl (Txt.join y parts) = joinL (tl y) (parts.map tl) := by rw [join_eq, tl_join]
end Kb
namespace Kb
open PySem PySem.Spec PyProof.Rows L2 TL PySem.StrLaws Builtin.Str
theorem cutV_from (xs : List V) {i : Int} (h : 0 ≤ i) : cutV xs (some i) none = xs.drop i.toNat := by
  obtain ⟨k, rfl⟩ : ∃ k : Nat, i = (k : Int) := ⟨i.toNat, by omega⟩
  show (xs.drop (HT.sIx xs.length 0 (some (k : Int)))).take (HT.sIx xs.length xs.length none - HT.sIx xs.length 0 (some (k : Int))) = _
  rw [HT.sIx_none, HT.sIx_nat, Int.toNat_natCast]
  rcases Nat.le_total k xs.length with q | q
  · rw [Nat.min_eq_left q, List.take_of_length_le (by rw [List.length_drop]; omega)]
  · rw [Nat.min_eq_right q, List.drop_length, List.drop_eq_nil_of_le q, List.take_nil]
end Kb

namespace Kb
open PySem PySem.Spec PyProof.Rows L2
section
variable {X : Cx}
theorem pe_gc {x : Str} {pos : Pos} {v : V} (hg : Gl X x) (h : ∃ u, X.mg x = some u ∧ RelV v u) (hd : (x == ("__debug__" : Str)) = false := by decide) : PE X (.Name x pos) (tC v) := by
  obtain ⟨u, hm, r⟩ := h
  exact pe_glob hg hm r hd
theorem mt_rpartition : MtR X "str.rpartition" (fun x xs H Q => ∃ a b, x = .str a ∧ xs = [.str b] ∧ (b.length == 0) = false ∧ a.length ≤ sizeLine ∧
    ∀ p, H p = none → Q (.ref p) (upd H p (.tup [.str (Txt.rpartition a b).1, .str (Txt.rpartition a b).2.1, .str (Txt.rpartition a b).2.2]))) := by
  intro pins s σ H x xs v us Q I rx rs h
  obtain ⟨a, b, rfl, rfl, hb, hz, h⟩ := h
  obtain ⟨t, rfl⟩ := rx
  cases rs with
  | cons r1 rs =>
    cases rs
    obtain ⟨u, rfl⟩ := r1
    refine call_meets F.slot_str_rpartition (typeIs_str _ _ _) F.entry_str_rpartition (F.args_str_rpartition_2 _ _) (meets_str_rpartition a b t u hb hz) ?_
    unfold Txt.rpartition at h
    revert h
    cases Builtin.Str.lastOccurrence a b 0 a.length with
    | none => intro h; exact laid_parts I h
    | some i => intro h; exact laid_parts I h
end
/-! ### frames -/
/-- all that was tracked is as it was, but for d -/
def Keep (d : Addr) (H H' : Hp) : Prop := ∀ b o, H b = some o → b ≠ d → H' b = some o
theorem Keep.refl {d : Addr} {H : Hp} : Keep d H H := fun _ _ h _ => h
theorem Keep.trans {d : Addr} {H H1 H2 : Hp} (a : Keep d H H1) (b : Keep d H1 H2) : Keep d H H2 := fun c o h n => b c o (a c o h n) n
theorem Same.keep {d : Addr} {H H' : Hp} (a : Same H H') : Keep d H H' := fun c o h _ => a c o h
theorem Same.new {H : Hp} {p : Addr} {o : HO} (h : H p = none) : Same H (upd H p o) := fun b u e => by
  rw [upd_ne (ne_of_none e h)]
  exact e
theorem Keep.upd {d : Addr} {H H' : Hp} {o : HO} (a : Keep d H H') : Keep d H (upd H' d o) := fun c u h n => by
  rw [upd_ne n]
  exact a c u h n
theorem Keep.same {d : Addr} {H H1 H2 : Hp} (a : Keep d H H1) (b : Same H1 H2) : Keep d H H2 := fun c o h n => b c o (a c o h n)
theorem Same.then {d : Addr} {H H1 H2 : Hp} (a : Same H H1) (b : Keep d H1 H2) : Keep d H H2 := fun c o h n => b c o (a c o h) n
theorem Keep.seqL {K : PySem.W.Frag} {d a : Addr} {H H' : Hp} {xs : List V} (k : Keep d H H') (n : a ≠ d) (h : SqL K H a xs) : SqL K H' a xs := by
  rcases h with (h | ⟨o, h⟩) | h
  · exact .inl (.inl (k _ _ h n))
  · exact .inl (.inr ⟨o, k _ _ h n⟩)
  · exact .inr h
/-- an object that is new behind d's own changes -/
theorem Keep.fresh {d : Addr} {H H' : Hp} {l : Addr} (k : Keep d H H') (hd : H d = none) (h : H' l = none) : H l = none := by
  cases q : H l with
  | none => rfl
  | some o =>
    have : l ≠ d := fun e => by rw [e, hd] at q; cases q
    rw [k l o q this] at h
    cases h
/-- what is new since H stays new in Same's way -/
theorem Keep.toSame {d : Addr} {H H' : Hp} (k : Keep d H H') (hd : H d = none) : Same H H' := fun b o h => k b o h (ne_of_none h hd)
/-! ### a menu at an index in bounds -/
theorem menu {xs : List V} {i : Int} (h0 : 0 ≤ i) (h1 : i < (xs.length : Int)) : ∃ v, v ∈ xs ∧ atI xs i = some v := by
  obtain ⟨n, rfl⟩ : ∃ n : Nat, i = (n : Int) := ⟨i.toNat, by omega⟩
  have hn : n < xs.length := by omega
  exact ⟨xs[n], List.getElem_mem hn, atI_nat (List.getElem?_eq_getElem hn)⟩
theorem iteB {b : Bool} {A B : Prop} (h1 : b = true → A) (h2 : b = false → B) : if b = true then A else B := by
  cases b
  · rw [if_neg Bool.false_ne_true]; exact h2 rfl
  · rw [if_pos rfl]; exact h1 rfl
/-! ### the draw -/
def kLeft : Key := Sum.inr "left"
def kCell : Key := Sum.inr "cell"
def kTurns : Key := Sum.inr "turns"
def dkv (l c t : Int) : List (Key × V) := [(Sum.inr "left", .int l), (Sum.inr "cell", .int c), (Sum.inr "turns", .int t)]
theorem kne1 : ¬ (("left" : Str) = "cell") := by decide +kernel
theorem kne2 : ¬ (("left" : Str) = "turns") := by decide +kernel
theorem kne3 : ¬ (("cell" : Str) = "turns") := by decide +kernel
theorem dkv_left (l c t : Int) : valV (dkv l c t) (Sum.inr "left" : Key) = some (.int l) := by
  simp [valV, dkv]
theorem dkv_cell (l c t : Int) : valV (dkv l c t) (Sum.inr "cell" : Key) = some (.int c) := by
  simp [valV, dkv, kne1]
theorem dkv_turns (l c t : Int) : valV (dkv l c t) (Sum.inr "turns" : Key) = some (.int t) := by
  simp [valV, dkv, kne2, kne3]
theorem dkv_putL (l c t x : Int) : putK (dkv l c t) (Sum.inr "left" : Key) (.int x) = dkv x c t := by
  simp [putK, dkv, Ne.symm kne1, Ne.symm kne2]
theorem dkv_putT (l c t x : Int) : putK (dkv l c t) (Sum.inr "turns" : Key) (.int x) = dkv l c x := by
  simp [putK, dkv, kne2, kne3]
def DrawAt (H : Hp) (d : Addr) (n : Nat) : Prop := ∃ l c t : Int, H d = some (.dK (dkv l c t)) ∧ 0 ≤ l ∧ 0 ≤ t ∧ t + 4 * (n : Int) ≤ 1000000000
theorem DrawAt.less {H : Hp} {d : Addr} {n m : Nat} (h : DrawAt H d n) (e : m ≤ n) : DrawAt H d m := by
  obtain ⟨l, c, t, h1, h2, h3, h4⟩ := h
  exact ⟨l, c, t, h1, h2, h3, by omega⟩
theorem DrawAt.same {H H' : Hp} {d : Addr} {n : Nat} (h : DrawAt H d n) (s : Same H H') : DrawAt H' d n := by
  obtain ⟨l, c, t, h1, h2⟩ := h
  exact ⟨l, c, t, s _ _ h1, h2⟩
theorem DrawAt.keep {H H' : Hp} {d e : Addr} {n : Nat} (h : DrawAt H d n) (s : Keep e H H') (x : d ≠ e) : DrawAt H' d n := by
  obtain ⟨l, c, t, h1, h2⟩ := h
  exact ⟨l, c, t, s _ _ h1 x, h2⟩
end Kb
namespace Kb
open PySem PySem.Spec PyProof.Rows L2
theorem dget_left {H : Hp} {d : Addr} {l c t : Int} (h : H d = some (.dK (dkv l c t))) : DGet H d (.str "left") (some (.int l)) := by
  have e := DGet.k (k := (Sum.inr "left" : Key)) h
  rw [dkv_left] at e
  exact e
theorem dget_cell {H : Hp} {d : Addr} {l c t : Int} (h : H d = some (.dK (dkv l c t))) : DGet H d (.str "cell") (some (.int c)) := by
  have e := DGet.k (k := (Sum.inr "cell" : Key)) h
  rw [dkv_cell] at e
  exact e
theorem dget_turns {H : Hp} {d : Addr} {l c t : Int} (h : H d = some (.dK (dkv l c t))) : DGet H d (.str "turns") (some (.int t)) := by
  have e := DGet.k (k := (Sum.inr "turns" : Key)) h
  rw [dkv_turns] at e
  exact e
theorem dput_left {H : Hp} {d : Addr} {l c t : Int} (x : Int) (h : H d = some (.dK (dkv l c t))) : DPut H d (.str "left") (.int x) (upd H d (.dK (dkv x c t))) := by
  have e := DPut.k (k := (Sum.inr "left" : Key)) (v := .int x) h (Nat.lt_of_lt_of_le (by show 3 < 10; decide) (by decide))
  rw [dkv_putL] at e
  exact e
theorem dput_turns {H : Hp} {d : Addr} {l c t : Int} (x : Int) (h : H d = some (.dK (dkv l c t))) : DPut H d (.str "turns") (.int x) (upd H d (.dK (dkv l c x))) := by
  have e := DPut.k (k := (Sum.inr "turns" : Key)) (v := .int x) h (Nat.lt_of_lt_of_le (by show 3 < 10; decide) (by decide))
  rw [dkv_putT] at e
  exact e
end Kb
namespace Kb
open PySem PySem.Spec PyProof.Rows L2 TL
section
variable {K : PySem.W.Frag} {a : Addr} {xs : List V} {g : TG} {tb : TS} {D : Ends} {σ : L2.St} {H : Hp}
theorem for_str {z : Str} (Pv : Nat → L2.St → Hp → Prop) (h0 : Pv 0 σ H)
    (hs : ∀ i c σ H, (tl z)[i]? = some c → Pv i σ H → g (.str ⟨#[c]⟩) σ H fun σ2 H2 => tb { D with nx := Pv (i + 1), ct := Pv (i + 1), bk := D.nx } σ2 H2) (hd : ∀ σ H, Pv (tl z).length σ H → D.nx σ H) :
    ∃ W : Nat → Nat → L2.St → Hp → Prop, (∃ m, W 0 m σ H) ∧ ∀ i m σ H, W i m σ H →
      ((Its z).stop i H ∧ D.nx σ H) ∨ ((Its z).go i H ∧ ∃ N : L2.St → Hp → Prop, (∀ σ' H', N σ' H' → ∃ m', m' < m ∧ W (i + 1) m' σ' H') ∧ ∀ x H', (Its z).yld i H x H' → g x σ H' fun σ2 H2 => tb { D with nx := N, ct := N, bk := D.nx } σ2 H2) := by
  refine for_it walk_str Pv h0 (fun _ _ _ _ _ => trivial) (fun i x σ H H' hi p y => ?_) (fun σ H p => hd σ H (by rw [show (tl z).length = z.cps.size by simp [tl]]; exact p))
  obtain ⟨rfl, c, hc, rfl⟩ := y
  exact hs i c σ _ (by rw [← hc]; simp [tl]) p
theorem for_enum (Pv : Nat → L2.St → Hp → Prop) (h0 : Pv 0 σ H) (hG : ∀ i σ H, i ≤ xs.length → Pv i σ H → SqL K H a xs)
    (hs : ∀ i x T σ H, xs[i]? = some x → Pv i σ H → H T = none → g (.ref T) σ (upd H T (.tup [.int (i : Nat), x])) fun σ2 H2 => tb { D with nx := Pv (i + 1), ct := Pv (i + 1), bk := D.nx } σ2 H2) (hd : ∀ σ H, Pv xs.length σ H → D.nx σ H) :
    ∃ W : Nat → Nat → L2.St → Hp → Prop, (∃ m, W 0 m σ H) ∧ ∀ i m σ H, W i m σ H →
      ((Ite K a).stop i H ∧ D.nx σ H) ∨ ((Ite K a).go i H ∧ ∃ N : L2.St → Hp → Prop, (∀ σ' H', N σ' H' → ∃ m', m' < m ∧ W (i + 1) m' σ' H') ∧ ∀ x H', (Ite K a).yld i H x H' → g x σ H' fun σ2 H2 => tb { D with nx := N, ct := N, bk := D.nx } σ2 H2) := by
  refine for_it walk_enum Pv h0 hG (fun i x σ H H' hi p y => ?_) hd
  obtain ⟨T, x, y, rfl, hT, rfl, h1, h2⟩ := y
  cases h1
  exact hs i y T σ H h2 p hT
end
end Kb
namespace Kb
open PySem PySem.Spec PyProof.Rows L2 TL
/-! ### == of lists of texts -/
theorem dpAll_strs {K : PySem.W.Frag} {H : Hp} : ∀ ys : List Str, DpAll K H (ys.map V.str) (ys.map PyData.str)
  | [] => .nil
  | y :: ys => .cons (.str y) (dpAll_strs ys)
theorem dp_strs {K : PySem.W.Frag} {H : Hp} {p : Addr} {ys : List Str} (h : SqL K H p (ys.map V.str)) : Dp K H (.ref p) (.list (ys.map PyData.str)) := .lst h (dpAll_strs ys)
theorem dp_strsT {K : PySem.W.Frag} {H : Hp} {p : Addr} {ys : List Str} (h : SqT K H p (ys.map V.str)) : Dp K H (.ref p) (.tuple (ys.map PyData.str)) := .tup h (dpAll_strs ys)
theorem eqvAll_strs : ∀ ys zs : List Str, PyData.eqvAll (ys.map PyData.str) (zs.map PyData.str) = decide (ys = zs)
  | [], [] => by simp [PyData.eqvAll]
  | [], z :: zs => by simp [PyData.eqvAll]
  | y :: ys, [] => by simp [PyData.eqvAll]
  | y :: ys, z :: zs => by
    rw [List.map_cons, List.map_cons, PyData.eqvAll, eqvAll_strs ys zs]
    rw [show PyData.eqv (.str y) (.str z) = (y == z) by simp [PyData.eqv]]
    rw [Bool.eq_iff_iff]
    simp
theorem canLay_strs : ∀ ys : List Str, (∀ y ∈ ys, PyData.canLay0 (.str y) = true) → PyData.canLayAll0 (ys.map PyData.str) = true
  | [], _ => by simp [PyData.canLayAll0]
  | y :: ys, h => by
    rw [List.map_cons, PyData.canLayAll0, h y (List.mem_cons_self ..), canLay_strs ys fun z hz => h z (List.mem_cons_of_mem _ hz)]; rfl
theorem depth_strs : ∀ ys : List Str, PyData.depthAll (ys.map PyData.str) = 0
  | [] => by simp [PyData.depthAll]
  | y :: ys => by
    rw [List.map_cons, PyData.depthAll, depth_strs ys]
    simp [PyData.depth]
theorem shaped_strs {ys : List Str} (h : ∀ y ∈ ys, PyData.canLay0 (.str y) = true) : SeqAt.shaped (.list (ys.map PyData.str)) = true := by
  unfold SeqAt.shaped
  rw [PyData.canLay0, canLay_strs ys h, PyData.depth, depth_strs]; rfl
end Kb
namespace Kb
open PySem PySem.Spec PyProof.Rows L2 TL
/-! ### rules with the written part named -/
def rLenQ (K : PySem.W.Frag) : List V → Hp → VK → Prop := fun xs H Q => ∃ p ys, xs = [.ref p] ∧ (SqL K H p ys ∨ SqT K H p ys) ∧ Q (.int ys.length) H
def rJoinQ (K : PySem.W.Frag) : V → List V → Hp → VK → Prop := fun x xs H Q => ∃ a p, ∃ ys : List Str, x = .str a ∧ xs = [.ref p] ∧ (SqL K H p (ys.map V.str) ∨ SqT K H p (ys.map V.str)) ∧ (ys.map (·.length)).sum + ys.length * a.length ≤ 16777216 ∧ Q (.str (Txt.join a ys)) H
end Kb
namespace Kb
open PySem PySem.Spec PyProof.Rows L2 TL
theorem DrawAt.upd {H : Hp} {d L : Addr} {n : Nat} {o : HO} (h : DrawAt H d n) (x : d ≠ L) : DrawAt (L2.upd H L o) d n := by
  obtain ⟨l, c, t, h1, h2⟩ := h
  exact ⟨l, c, t, by rw [upd_ne x]; exact h1, h2⟩
theorem DrawAt.ne {H : Hp} {d L : Addr} {n : Nat} (h : DrawAt H d n) (x : H L = none) : L ≠ d := fun e => by
  obtain ⟨_, _, _, q, _⟩ := h
  rw [e, q] at x; cases x
theorem Keep.updN {d L : Addr} {H H' : Hp} {o : HO} (k : Keep d H H') (h : H L = none) : Keep d H (L2.upd H' L o) := fun b q e n => by
  rw [upd_ne (ne_of_none e h)]
  exact k b q e n
end Kb
namespace Kb
open PySem PySem.Spec PyProof.Rows L2 TL
theorem all_at {p : Nat → Bool} {l : List Nat} {i : Nat} {c : Nat} (h : l[i]? = some c) : (l.take (i + 1)).all p = ((l.take i).all p && p c) := by
  rw [List.take_add_one, h, List.all_append]; simp
theorem allS_at {p : List Nat → Bool} {l : List Str} {i : Nat} {c : Str} (h : l[i]? = some c) : ((l.take (i + 1)).map tl).all p = (((l.take i).map tl).all p && p (tl c)) := by
  rw [List.take_add_one, h, List.map_append, List.all_append]; simp
theorem strAt {xs : List Str} {i : Nat} {v : V} (h : (xs.map V.str)[i]? = some v) : ∃ x, xs[i]? = some x ∧ v = .str x := by
  rw [List.getElem?_map] at h
  cases e : xs[i]? with
  | none => rw [e] at h; cases h
  | some x => rw [e] at h; exact ⟨x, rfl, (Option.some.inj h).symm⟩
/-- a text with f, or a value that is no text -/
def TxV (f : List Nat → Bool) (K : PySem.W.Frag) (H : Hp) (v : V) (b : Bool) : Prop :=
  (∃ x : Str, v = .str x ∧ x.length ≤ 1000000 ∧ b = f (tl x)) ∨ (∃ t : Value, TyX K H v t ∧ PySem.W.kitOne K t (.type "str") = some false ∧ b = false)
theorem kit_str (K : PySem.W.Frag) : PySem.W.kitOne K (.type "str") (.type "str") = some true := kit_ty (by decide +kernel)
theorem TxV.of {f : List Nat → Bool} {K : PySem.W.Frag} {H : Hp} {x : Str} (h : x.length ≤ 1000000) : TxV f K H (.str x) (f (tl x)) := .inl ⟨x, rfl, h, rfl⟩
end Kb

namespace Kb
open PySem PySem.Spec PyProof.Rows L2
/-! ### enumerate(tuple) -/
theorem enum_newB {v : Value} {o : Obj} {H : Heap → Prop} (B : Begins v o H) :
    Meets (Builtin.«enumerate.__new__» ⟨[.type "enumerate", v], []⟩) (fun _ R s => H s.heap ∧
      R (.ok (.ret (.ref (s.heap.push o).objs.size))) { s with heap := (s.heap.push o).push { cls := .type "enumerate", data := .fields #[.none, .bool false, .ref s.heap.objs.size, rawInt 0, .none, .none] } }) :=
  .of_wp fun prog w A R s h => by
    obtain ⟨hp, g, d, tk, os⟩ := s; obtain ⟨h1, h⟩ := h
    have hsub := sub_enumerate
    have q1 : ∀ {A' : Around} {E : Value → Shared → Prop} {Q : Value → Shared → Prop}, Q (.ref hp.objs.size) ⟨hp.push o, g, d, tk, os⟩ → wpAny (model prog w) A' (pyIter v) Q E ⟨hp, g, d, tk, os⟩ :=
      fun q => B.iter prog w _ _ ⟨hp, g, d, tk, os⟩ _ h1 q
    wp_walk using q1
    refine wpAny_stack_any fun st => wpAny_pure ?_
    split
    · rename_i c _ _ _ _ _
      cases (c == Value.type "enumerate")
      · wp_walk using q1
        exact ⟨_, rfl, h⟩
      · wp_walk using q1
        exact ⟨_, rfl, h⟩
    · wp_walk using q1
      exact ⟨_, rfl, h⟩
section
variable {prog : Program} {w : World} {A : Around} {E : Value → Shared → Prop} {s : Shared}
theorem call_enum1 {v : Value} {o : Obj} {H : Heap → Prop} {Q : Value → Shared → Prop} (B : Begins v o H) (h1 : H s.heap)
    (h : ∀ h', IsEnum h' (s.heap.objs.size + 1) s.heap.objs.size 0 .none → h'.get? s.heap.objs.size = some o → h'.objs.size = s.heap.objs.size + 2 →
      (∀ b o, s.heap.get? b = some o → h'.get? b = some o) → Q (.ref (s.heap.objs.size + 1)) { s with heap := h' }) :
    wpAny (model prog w) A (call (.type "enumerate") [v]) Q E s := by
  refine callType_new F.called_enumerate (by decide) (F.typeCall_enumerate_1 _) (F.newCall_enumerate_1 _) (fun obj => F.args_object_init_2 obj _) F.entry_enumerate_new
    (enum_newB B) ⟨h1, ?_⟩
  have hz : (s.heap.push o).objs.size = s.heap.objs.size + 1 := Heap.size_push ..
  show _ ∧ _
  rw [hz]
  have he : IsEnum ((s.heap.push o).push { cls := .type "enumerate", data := .fields #[.none, .bool false, .ref s.heap.objs.size, rawInt 0, .none, .none] }) (s.heap.objs.size + 1) s.heap.objs.size 0 .none := by
    have := Heap.get?_push_size (s.heap.push o) (o := { cls := .type "enumerate", data := .fields #[.none, .bool false, .ref s.heap.objs.size, rawInt 0, .none, .none] }) rfl
    rw [hz] at this; exact this
  refine ⟨⟨_, he, rfl⟩, h _ he (Heap.get?_push_of_some _ (Heap.get?_push_size _ B.free)) (by rw [Heap.size_push, hz]) fun b o x => Heap.get?_push_of_some _ (Heap.get?_push_of_some _ x)⟩
end
def Itet (K : PySem.W.Frag) (a : Addr) : It :=
  ⟨fun i H => ∃ (xs : List V) (x : V), SqT K H a xs ∧ xs[i]? = some x, fun i H v H' => ∃ T x, v = .ref T ∧ H T = none ∧ H' = L2.upd H T (.tup [.int (i : Nat), x]) ∧ ∀ xs, SqT K H a xs → xs[i]? = some x, fun i H => ∃ xs : List V, SqT K H a xs ∧ xs.length ≤ i⟩
theorem turn_enumT {P : Program} {w : World} {K : PySem.W.Frag} {elts : List Expr} {kk : Nat} {tpos : Pos} (a e it : Addr) :
    Turn P w K (.Tuple elts kk tpos) (Itet K a) [e, it] e (fun i h => (∃ old, IsEnum h e it ((i : Nat) : Int) old) ∧ h.IsTupleIter it a i ∧ e ≠ it ∧ e ≠ a ∧ a ≠ it) where
  mem := by simp
  obj := fun i h st b hb => by
    obtain ⟨⟨old, he⟩, ⟨o, ho, hc, hd⟩, _⟩ := st
    have e' : b = e ∨ b = it := by simpa using hb
    rcases e' with z | z
    · rw [z]; exact ⟨_, he, fun v q => nomatch q⟩
    · rw [z]; exact ⟨o, ho, fun v q => by rw [hd] at q; cases q⟩
  keep := fun i h h' st k => let ⟨⟨old, he⟩, hi, hne⟩ := st; ⟨⟨old, k e (by simp) _ he⟩, hi.at fun o q => k it (by simp) o q, hne⟩
  item := by
    intro X hP hw hK hc i pins s σ H E I hf st hg
    subst hP hw hK
    obtain ⟨⟨old, he⟩, hit, hne, hea, hai⟩ := st
    obtain ⟨xs, x, hq, hx⟩ := hg
    obtain ⟨its, rv, p, hz⟩ := I.tuple hq
    obtain ⟨u, hu, ru⟩ := rv.get hx
    have hel : e < s.heap.objs.size := Heap.lt_size he
    have hil : it < s.heap.objs.size := by obtain ⟨_, q, _⟩ := hit; exact Heap.lt_size q
    have hlt : i < its.toArray.size := by
      have := (List.getElem?_eq_some_iff.mp hu).1
      simpa using this
    have hhd : X.A.in1.handled = none := I.ok.hd hc
    refine wpAny_pyNext_enum_itemD (Draws.tuple hhd it a hai its.toArray) he ⟨hit, show s.heap.IsTuple a its.toArray from p⟩ hlt hne (by simp [hne, hea]) fun x' h' tk hP ho hst' hT hsz hk => ?_
    have ex : x' = u := by
      have e1 : its[i]? = some x' := by simpa using hP
      rw [e1] at hu
      exact Option.some.inj hu
    subst ex
    obtain ⟨hit', _⟩ := hst'
    refine ⟨_, rfl, wpAny_letOwnedTupleGo_enum (s := { s with heap := h', toks := tk + 1 }) ho fun h'' he' sb => ?_⟩
    have hT2 : h''.get? s.heap.objs.size = some { cls := .type "tuple", data := .seq #[.int i tk, x'] } := (sb.2 _ (Nat.ne_of_gt hel)).trans hT
    have new : ObjOk X.prog X.w (L2.upd H s.heap.objs.size (.tup [.int (i : Nat), x])) h'' s.heap.objs.size (.tup [.int (i : Nat), x]) :=
      ⟨by show 2 ≤ sizeLine; decide, [.int i tk, x'], .cons ⟨_, rfl⟩ (.cons ru .nil), ⟨_, hT2, rfl, _, rfl⟩⟩
    have I1 : Inv X pins σ (L2.upd H s.heap.objs.size (.tup [.int (i : Nat), x])) { s with heap := h'', toks := tk + 1 } :=
      I.turnedNew (ch := [e, it]) (fun b ob hb q => (sb.2 b (fun z => hb (by simp [z]))).trans (hk b ob (fun z => hb (by simp [z])) (fun z => hb (by simp [z])) q)) hf (Nat.le_refl _) new
    refine ⟨.ref s.heap.objs.size, _, I1, rfl, ⟨_, x, rfl, I.hok.fresh (Nat.le_refl _), rfl, fun ys hy => by rw [I.tuple_inj hy hq]; exact hx⟩, ⟨⟨x', ?_⟩, hit'.at fun o q => (sb.2 it (Ne.symm hne)).trans q, hne, hea, hai⟩, fun b hb => ?_⟩
    · have e1 : ((i + 1 : Nat) : Int) = (i : Int) + 1 := by omega
      rw [e1]; exact he'
    · have hb' : b < s.heap.objs.size := by
        have e' : b = e ∨ b = it := by simpa using hb
        rcases e' with z | z
        · rw [z]; exact hel
        · rw [z]; exact hil
      rw [upd_ne (Nat.ne_of_lt hb')]
      exact (hf b hb).1
  done := by
    intro X hP hw hK hc i pins s σ H E I hf st hg
    subst hP hw hK
    obtain ⟨⟨old, he⟩, hit, hne, hea, hai⟩ := st
    obtain ⟨xs, hq, hx⟩ := hg
    obtain ⟨its, rv, p, hz⟩ := I.tuple hq
    obtain ⟨f0, f1, f2, f3, f4, f5⟩ := hf it (by simp)
    have hl := rv.length
    have hT : s.TypeIs (.ref e) "enumerate" := ⟨_, he, rfl⟩
    unfold pyNext
    refine wpAny_bind (wpAny_attempt (wpAny_callSpecial?_slot (name := Str.ofString "__next__") hT F.slot_enumerate_next
      (wpAny_call_entry F.slot_enumerate_next hT F.entry_enumerate_next ?_ (F.args_enumerate_next_1 _))))
    show wpAny _ _ (field (.ref e) 2 >>= _) _ _ _
    refine wpAny_bind (wpAny_field he rfl (x := .ref it) rfl ?_)
    refine wpAny_bind (wpAny_nextOf_tuple_end (show X.A.in1.handled = none from I.ok.hd hc) hit (show s.heap.IsTuple a its.toArray from p) (by simp; omega) fun h' x he' hx' => ?_)
    obtain ⟨o, ho, hcc⟩ := hx'
    refine wpAny_bind (wpAny_isInstance (T := "StopIteration") (b := true) ⟨o, ho, hcc⟩ isSubtype_stop ?_)
    exact wpAny_pure ⟨rfl, I.turned (t' := s.toks) (fun b o hb q => he' b o hb q) f0 f1 f3 f4 f5⟩
  self := fun A i s Q E st h => let ⟨⟨_, he⟩, _⟩ := st; wpAny_pyIter_enum he h
def iEnumT (K : PySem.W.Frag) (ta : TA) : TI := fun σ H R => ta σ H fun vs H1 => ∃ a xs, vs = [.ref a] ∧ SqT K H1 a xs ∧ R (Itet K a) H1
theorem pi_enumT {X : Cx} {e : Expr} {ta : TA} {p pos tpos : Pos} {elts : List Expr} {kk : Nat} (hg : Gl X "enumerate") (hm : X.mg "enumerate" = none) (ha : PA X [e] ta) (hs : starEach [e] X.env = [(false, eval e X.env)] := by rfl) :
    PI X (.Tuple elts kk tpos) (.Call (.Name "enumerate" p) [e] [] pos) (iEnumT X.K ta) := by
  refine ⟨fun pins s σ H R I h => ?_⟩
  refine Call_ (ld_blt I hg hm boot_enumerate (PyProof.Rows.callWith_type1 (thn (ha.run pos pins s σ H _ I h) fun us s1 ⟨vs, H1, I1, r1, q1⟩ => ?_) hs rfl))
  obtain ⟨a, xs, ex, hq, q⟩ := q1
  subst ex
  cases r1 with
  | cons r rr =>
    cases rr
    cases r
    obtain ⟨its, rv, p', hz⟩ := I1.tuple hq
    have p'' : s1.heap.IsTuple a its.toArray := p'
    have hal : a < s1.heap.objs.size := by obtain ⟨_, q, _⟩ := id p''; exact Heap.lt_size q
    refine call_enum1 (begins_tuple a its.toArray) p'' fun h' he hit hsz hk => wpAny_pyIter_enum he ?_
    have I2 : Inv X pins σ H1 { s1 with heap := h' } := I1.kept (t' := s1.toks) hk
    refine ⟨s1.heap.objs.size + 1, [s1.heap.objs.size + 1, s1.heap.objs.size], _, _, H1, rfl, I2, turn_enumT a (s1.heap.objs.size + 1) s1.heap.objs.size, ⟨⟨.none, he⟩, ⟨_, hit, rfl, rfl⟩, Nat.succ_ne_self _, Nat.ne_of_gt (Nat.lt_succ_of_lt hal), Nat.ne_of_lt hal⟩, fun b hb => ?_, q⟩
    have e' : b = s1.heap.objs.size + 1 ∨ b = s1.heap.objs.size := by simpa using hb
    have hle : s1.heap.objs.size ≤ b := by
      rcases e' with z | z
      · rw [z]; exact Nat.le_add_right _ _
      · rw [z]; exact Nat.le_refl _
    exact I1.fpOk hle (I1.hok.fresh hle)
theorem walk_enumT {K : PySem.W.Frag} {a : Addr} {xs : List V} : Walk (Itet K a) xs.length (fun H => SqT K H a xs) (YPair (fun i => some (.int (i : Nat))) (fun i => xs[i]?)) := by
  refine ⟨fun i _ hi q => ⟨xs, xs[i], q, by simp [hi]⟩, fun _ q => ⟨xs, q, Nat.le_refl _⟩, fun i H v H' _ q y => ?_⟩
  obtain ⟨T, x, h1, h2, h3, h4⟩ := y
  exact ⟨T, .int (i : Nat), x, h1, h2, h3, rfl, h4 xs q⟩
section
variable {K : PySem.W.Frag} {a : Addr} {xs : List V} {g : TG} {tb : TS} {D : Ends} {σ : L2.St} {H : Hp}
theorem for_enumT (Pv : Nat → L2.St → Hp → Prop) (h0 : Pv 0 σ H) (hG : ∀ i σ H, i ≤ xs.length → Pv i σ H → SqT K H a xs)
    (hs : ∀ i x T σ H, xs[i]? = some x → Pv i σ H → H T = none → g (.ref T) σ (L2.upd H T (.tup [.int (i : Nat), x])) fun σ2 H2 => tb { D with nx := Pv (i + 1), ct := Pv (i + 1), bk := D.nx } σ2 H2) (hd : ∀ σ H, Pv xs.length σ H → D.nx σ H) :
    ∃ W : Nat → Nat → L2.St → Hp → Prop, (∃ m, W 0 m σ H) ∧ ∀ i m σ H, W i m σ H →
      ((Itet K a).stop i H ∧ D.nx σ H) ∨ ((Itet K a).go i H ∧ ∃ N : L2.St → Hp → Prop, (∀ σ' H', N σ' H' → ∃ m', m' < m ∧ W (i + 1) m' σ' H') ∧ ∀ x H', (Itet K a).yld i H x H' → g x σ H' fun σ2 H2 => tb { D with nx := N, ct := N, bk := D.nx } σ2 H2) := by
  refine for_it walk_enumT Pv h0 hG (fun i x σ H H' hi p y => ?_) hd
  obtain ⟨T, x, y, rfl, hT, rfl, h1, h2⟩ := y
  cases h1
  exact hs i y T σ H h2 p hT
end
end Kb

namespace Kb
open PySem PySem.Spec PyProof.Rows L2
/-! ### enumerate(tuple, start=c) -/
def Itek (K : PySem.W.Frag) (c : Int) (a : Addr) : It :=
  ⟨fun i H => ∃ (xs : List V) (x : V), SqT K H a xs ∧ xs[i]? = some x, fun i H v H' => ∃ T x, v = .ref T ∧ H T = none ∧ H' = L2.upd H T (.tup [.int (c + (i : Nat)), x]) ∧ ∀ xs, SqT K H a xs → xs[i]? = some x, fun i H => ∃ xs : List V, SqT K H a xs ∧ xs.length ≤ i⟩
theorem turn_enumK {P : Program} {w : World} {K : PySem.W.Frag} {elts : List Expr} {kk : Nat} {tpos : Pos} (c : Int) (a e it : Addr) :
    Turn P w K (.Tuple elts kk tpos) (Itek K c a) [e, it] e (fun i h => (∃ old, IsEnum h e it (c + (i : Nat)) old) ∧ h.IsTupleIter it a i ∧ e ≠ it ∧ e ≠ a ∧ a ≠ it) where
  mem := List.mem_cons_self ..
  obj := fun i h st b hb => by
    obtain ⟨⟨old, he⟩, ⟨o, ho, hc, hd⟩, _⟩ := st
    rcases List.mem_cons.mp hb with z | z
    · subst z; exact ⟨_, he, fun v q => nomatch q⟩
    · obtain rfl := List.mem_singleton.mp z
      exact ⟨o, ho, fun v q => by rw [hd] at q; cases q⟩
  keep := fun i h h' st k => ⟨st.1.imp fun _ he => k e (by simp) _ he, st.2.1.at fun o q => k it (by simp) o q, st.2.2⟩
  item := by
    intro X hP hw hK hc i pins s σ H E I hf st hg
    subst hP hw hK
    obtain ⟨⟨old, he⟩, hit, hne, hea, hai⟩ := st
    obtain ⟨xs, x, hq, hx⟩ := hg
    obtain ⟨its, rv, p, hz⟩ := I.tuple hq
    obtain ⟨u, hu, ru⟩ := rv.get hx
    have hel := Heap.lt_size he
    have hil : it < s.heap.objs.size := let ⟨_, q, _⟩ := hit; Heap.lt_size q
    have hlt : i < its.toArray.size := by have := (List.getElem?_eq_some_iff.mp hu).1; simpa using this
    have hhd : X.A.in1.handled = none := I.ok.hd hc
    refine wpAny_pyNext_enum_itemC (Draws.tuple hhd it a hai its.toArray) he ⟨hit, show s.heap.IsTuple a its.toArray from p⟩ hlt hne (fun z => (List.mem_cons.mp z).elim hne fun z => hea (List.mem_singleton.mp z)) fun x' h' tk hP ho hst' hT hsz hk => ?_
    obtain rfl : x' = u := by
      have e1 : its[i]? = some x' := by simpa using hP
      exact Option.some.inj (e1.symm.trans hu)
    refine ⟨_, rfl, wpAny_letOwnedTupleGo_enum (s := { s with heap := h', toks := tk + 1 }) ho fun h'' he' sb => ?_⟩
    have hT2 : h''.get? s.heap.objs.size = some { cls := .type "tuple", data := .seq #[.int (c + (i : Nat)) tk, x'] } := (sb.2 _ (Nat.ne_of_gt hel)).trans hT
    have new : ObjOk X.prog X.w (L2.upd H s.heap.objs.size (.tup [.int (c + (i : Nat)), x])) h'' s.heap.objs.size (.tup [.int (c + (i : Nat)), x]) :=
      ⟨show 2 ≤ sizeLine by decide, _, .cons ⟨tk, rfl⟩ (.cons ru .nil), ⟨_, hT2, rfl, _, rfl⟩⟩
    have I1 := I.turnedNew (t' := tk + 1) (ch := [e, it]) (fun b ob hb q => (sb.2 b (fun z => hb (by simp [z]))).trans (hk b ob (fun z => hb (by simp [z])) (fun z => hb (by simp [z])) q)) hf (Nat.le_refl _) new
    refine ⟨.ref s.heap.objs.size, _, I1, rfl, ⟨_, x, rfl, I.hok.fresh (Nat.le_refl _), rfl, fun ys hy => (I.tuple_inj hy hq).symm ▸ hx⟩, ⟨⟨x', ?_⟩, hst'.1.at fun o q => (sb.2 it (Ne.symm hne)).trans q, hne, hea, hai⟩, fun b hb => ?_⟩
    · rw [show c + ((i + 1 : Nat) : Int) = c + (i : Nat) + 1 by omega]; exact he'
    · have hb' : b < s.heap.objs.size := (List.mem_cons.mp hb).elim (fun z => z ▸ hel) fun z => List.mem_singleton.mp z ▸ hil
      rw [upd_ne (Nat.ne_of_lt hb')]
      exact (hf b hb).1
  done := by
    intro X hP hw hK hc i pins s σ H E I hf st hg
    subst hP hw hK
    obtain ⟨⟨old, he⟩, hit, hne, hea, hai⟩ := st
    obtain ⟨xs, hq, hx⟩ := hg
    obtain ⟨its, rv, p, hz⟩ := I.tuple hq
    obtain ⟨f0, f1, f2, f3, f4, f5⟩ := hf it (List.mem_cons_of_mem _ (List.mem_singleton.mpr rfl))
    have hl := rv.length
    have hT : s.TypeIs (.ref e) "enumerate" := ⟨_, he, rfl⟩
    unfold pyNext
    refine wpAny_bind (wpAny_attempt (wpAny_callSpecial?_slot (name := Str.ofString "__next__") hT F.slot_enumerate_next
      (wpAny_call_entry F.slot_enumerate_next hT F.entry_enumerate_next ?_ (F.args_enumerate_next_1 _))))
    show wpAny _ _ (field (.ref e) 2 >>= _) _ _ _
    refine wpAny_bind (wpAny_field he rfl (x := .ref it) rfl (wpAny_bind (wpAny_nextOf_tuple_end (I.ok.hd hc) hit (show s.heap.IsTuple a its.toArray from p) (by simp; omega) fun h' x he' hx' => ?_)))
    obtain ⟨o, ho, hcc⟩ := hx'
    exact wpAny_bind (wpAny_isInstance (T := "StopIteration") (b := true) ⟨o, ho, hcc⟩ isSubtype_stop (wpAny_pure ⟨rfl, I.turned (t' := s.toks) (fun b o hb q => he' b o hb q) f0 f1 f3 f4 f5⟩))
  self := fun A i s Q E st h => let ⟨⟨_, he⟩, _⟩ := st; wpAny_pyIter_enum he h
def iEnumK (K : PySem.W.Frag) (ta tk : TA) : TI := fun σ H R => ta σ H fun vs H1 => tk σ H1 fun zs H2 => ∃ a xs c, vs = [.ref a] ∧ zs = [.int c] ∧ -(2 ^ 63) ≤ c ∧ c < 2 ^ 63 ∧ SqT K H2 a xs ∧ R (Itek K c a) H2
theorem pi_enumK {X : Cx} {e : Expr} {ta tk : TA} {p pos tpos : Pos} {elts : List Expr} {kk : Nat} {kws : List Keyword} (hg : Gl X "enumerate") (hm : X.mg "enumerate" = none) (ha : PA X [e] ta) (hk : PK X kws tk) (hs : starEach [e] X.env = (false, eval e X.env) :: starEach [] X.env := by rfl)
    (hall : (backToKw pos (keywordEach kws X.env)).all (·.1.isSome) = true := by rfl) (hpl : ((backTo pos (starEach [e] X.env)).any (·.1) || (backToKw pos (keywordEach kws X.env)).any (·.1.isNone)) = false := by rfl)
    (hks : (backToKw pos (keywordEach kws X.env)).filterMap (·.1) = [Str.ofString "start"] := by rfl) :
    PI X (.Tuple elts kk tpos) (.Call (.Name "enumerate" p) [e] kws pos) (iEnumK X.K ta tk) := by
  refine ⟨fun pins s σ H R I h => ?_⟩
  refine wpAny_Call_Name_kw (ld_blt I hg hm boot_enumerate ?_ (by decide) (by decide))
  refine PySem.W.callWith_of (P := fun _ => True) hpl (fun h _ => ⟨.machine, .inr (.inl rfl), .now⟩) (PyProof.Rows.evalArgs_kw2 hall (thn (ha.run pos pins s σ H _ I h) fun us s1 ⟨vs, H1, I1, r1, q1⟩ => thn (hk.run pos pins s1 σ H1 _ I1 q1) fun ws s2 ⟨zs, H2, I2, r2, q2⟩ => ⟨trivial, ?_⟩) hs)
  rw [hks]
  obtain ⟨a, xs, c, rfl, rfl, k0, k1, hq, q⟩ := q2
  cases r1 with
  | cons r rr =>
    cases rr
    cases r
    cases r2 with
    | cons r rr =>
      cases rr
      obtain ⟨t, rfl⟩ := r
      obtain ⟨its, rv, p', hz⟩ := I2.tuple hq
      have p'' : s2.heap.IsTuple a its.toArray := p'
      have hal : a < s2.heap.objs.size := let ⟨_, q, _⟩ := id p''; Heap.lt_size q
      refine enum_begins_start (begins_tuple a its.toArray) p'' k0 k1 fun h' he hit hsz hk => wpAny_pyIter_enum he ?_
      have I3 : Inv X pins σ H2 { s2 with heap := h' } := I2.kept (t' := s2.toks) hk
      refine ⟨s2.heap.objs.size + 1, [s2.heap.objs.size + 1, s2.heap.objs.size], _, _, H2, rfl, I3, turn_enumK c a (s2.heap.objs.size + 1) s2.heap.objs.size, ⟨⟨.none, (Int.add_zero c).symm ▸ he⟩, ⟨_, hit, rfl, rfl⟩, Nat.succ_ne_self _, Nat.ne_of_gt (Nat.lt_succ_of_lt hal), Nat.ne_of_lt hal⟩, fun b hb => ?_, q⟩
      have hle : s2.heap.objs.size ≤ b := (List.mem_cons.mp hb).elim (fun z => z ▸ Nat.le_add_right _ _) fun z => List.mem_singleton.mp z ▸ Nat.le_refl _
      exact I2.fpOk hle (I2.hok.fresh hle)
theorem walk_enumK {K : PySem.W.Frag} {c : Int} {a : Addr} {xs : List V} : Walk (Itek K c a) xs.length (fun H => SqT K H a xs) (YPair (fun i => some (.int (c + (i : Nat)))) (fun i => xs[i]?)) :=
  ⟨fun i _ hi q => ⟨xs, xs[i], q, by simp [hi]⟩, fun _ q => ⟨xs, q, Nat.le_refl _⟩, fun i H v H' _ q ⟨T, x, h1, h2, h3, h4⟩ => ⟨T, .int (c + (i : Nat)), x, h1, h2, h3, rfl, h4 xs q⟩⟩
section
variable {K : PySem.W.Frag} {c : Int} {a : Addr} {xs : List V} {g : TG} {tb : TS} {D : Ends} {σ : L2.St} {H : Hp}
theorem for_enumK (Pv : Nat → L2.St → Hp → Prop) (h0 : Pv 0 σ H) (hG : ∀ i σ H, i ≤ xs.length → Pv i σ H → SqT K H a xs)
    (hs : ∀ i x T σ H, xs[i]? = some x → Pv i σ H → H T = none → g (.ref T) σ (L2.upd H T (.tup [.int (c + (i : Nat)), x])) fun σ2 H2 => tb { D with nx := Pv (i + 1), ct := Pv (i + 1), bk := D.nx } σ2 H2) (hd : ∀ σ H, Pv xs.length σ H → D.nx σ H) :
    ∃ W : Nat → Nat → L2.St → Hp → Prop, (∃ m, W 0 m σ H) ∧ ∀ i m σ H, W i m σ H →
      ((Itek K c a).stop i H ∧ D.nx σ H) ∨ ((Itek K c a).go i H ∧ ∃ N : L2.St → Hp → Prop, (∀ σ' H', N σ' H' → ∃ m', m' < m ∧ W (i + 1) m' σ' H') ∧ ∀ x H', (Itek K c a).yld i H x H' → g x σ H' fun σ2 H2 => tb { D with nx := N, ct := N, bk := D.nx } σ2 H2) :=
  for_it walk_enumK Pv h0 hG (fun i x σ H H' hi p ⟨T, u, y, e, hT, eH, h1, h2⟩ => by cases h1; subst e; subst eH; exact hs i y T σ H h2 p hT) hd
end
end Kb

namespace Kb
open PySem PySem.Spec PyProof.Rows L2
/-! ### a, *b = a list -/
section
variable {prog : Program} {w : World} {A : Around} {E : Value → Shared → Prop} {s : Shared}
theorem star_items {l : Addr} {its : Array Value} {n i : Nat} {Q : List Value → Shared → Prop} (hd : A.handled = none) (ls : s.heap.IsList l its) (hi : i < n) (hn : n ≤ its.size + 1) (hz : its.size ≤ 16384)
    (q : ∀ (D : Addr) (g : Heap) (tk : Nat), (∀ b o, s.heap.get? b = some o → g.get? b = some o) → s.heap.get? D = none → g.get? D = some { cls := .type "list", data := .seq ((its.toList.drop i).take (its.size + 1 - n)).toArray } →
      Q (its.toList.take i ++ [.ref D] ++ (its.toList.drop i).drop (its.size + 1 - n)) { s with heap := g, toks := tk }) :
    wpAny (model prog w) A (unpackItems (.ref l) n (some i)) Q E s := by
  have ne : l ≠ s.heap.objs.size := by
    obtain ⟨o, ho, _⟩ := ls
    exact Nat.ne_of_lt (Heap.lt_size ho)
  unfold unpackItems notIterableAtAll
  refine wpAny_bind (wpAny_bind (wpAny_specialOf ls.typeIs F.slot_list_iter.lookup (wpAny_pure ?_)))
  rw [if_neg (by simp)]
  refine wpAny_bind (wpAny_holding (wpAny_pyIter_list ls (wpAny_bind (wpAny_holding (PySem.W.kun_draw ne i 0 _ _ ⟨_, Heap.get?_push_size _ rfl, rfl, rfl⟩ (ls.push _) (by omega) fun g1 it1 sb1 => ?_)))))
  have ls1 : g1.IsList l its := (ls.push _).extBut sb1.extBut ne
  rw [Nat.zero_add] at it1
  have l1 := it1
  obtain ⟨oi, hoi, _⟩ := l1
  have l2 := ls1
  obtain ⟨ol, hol, _⟩ := l2
  have tk : (its.toList.take i).length = i := by rw [List.length_take, Array.length_toList]; omega
  have dl : (its.toList.drop i).length = its.size - i := by rw [List.length_drop, Array.length_toList]
  rw [List.drop_zero, if_neg (by rw [tk]; omega)]
  refine wpAny_bind (wpAny_holding (PySem.W.kun_collect (s := { s with heap := g1 }) (T := "list_iterator") (.inr (.inr (.inl rfl))) (Walks.list (A := A.in1) hd s.heap.objs.size l ne its) (fun j u st => st.1.typeIs) (k := i) (by omega) ⟨it1, ls1⟩ (Heap.lt_size hoi) (Heap.lt_size hol) (fun g2 tk2 hk => ?_) (Nat.le_trans hz (by decide))))
  have em : (its.toList.drop i).length - (n - 1 - i) = its.size + 1 - n := by rw [dl]; omega
  show wpAny _ _ (if (its.toList.drop i).length < n - 1 - i then _ else _) _ _ _
  rw [if_neg (by rw [dl]; omega)]
  show wpAny _ _ (newList ((its.toList.drop i).take ((its.toList.drop i).length - (n - 1 - i))) >>= fun d => pure (its.toList.take i ++ [d] ++ (its.toList.drop i).drop ((its.toList.drop i).length - (n - 1 - i)))) _ _ _
  rw [em]
  have old : ∀ b o, s.heap.get? b = some o → g2.get? b = some o := fun b o e => hk b o (Nat.ne_of_lt (Heap.lt_size e)) (sb1.extBut b o (Nat.ne_of_lt (Heap.lt_size e)) (Heap.get?_push_of_some _ e))
  have nw : s.heap.get? g2.objs.size = none := by
    cases e : s.heap.get? g2.objs.size with
    | none => rfl
    | some o => exact absurd (Heap.lt_size (old _ _ e)) (Nat.lt_irrefl _)
  refine wpAny_bind (wpAny_newList ?_ (Nat.le_trans (by rw [List.length_take, dl]; omega) (show 16384 ≤ sizeLine by decide)))
  exact wpAny_pure (q g2.objs.size _ tk2 (fun b o e => Heap.get?_push_of_some _ (old b o e)) nw (Heap.get?_push_size _ rfl))
end
/-- targets of which one, at i, is starred: the list's items, those in the middle as a new list -/
def gStar (K : PySem.W.Frag) (n i : Nat) (t : TGs) : TG := fun v σ H Q => ∃ a xs, v = .ref a ∧ SqL K H a xs ∧ n ≤ xs.length + 1 ∧ xs.length ≤ 16384 ∧
  ∀ D, H D = none → t (xs.take i ++ [.ref D] ++ (xs.drop i).drop (xs.length + 1 - n)) σ (upd H D (.lst ((xs.drop i).take (xs.length + 1 - n)))) Q
theorem vals_take {vs : List V} {us : List Value} (h : Vals vs us) : ∀ n, Vals (vs.take n) (us.take n) := by
  induction h with
  | nil => intro n; simp; exact .nil
  | cons a b ih => intro n; cases n with
    | zero => exact .nil
    | succ n => exact .cons a (ih n)
theorem vals_drop {vs : List V} {us : List Value} (h : Vals vs us) : ∀ n, Vals (vs.drop n) (us.drop n) := by
  induction h with
  | nil => intro n; simp; exact .nil
  | cons a b ih => intro n; cases n with
    | zero => exact .cons a b
    | succ n => exact ih n
theorem vals_app {vs ws : List V} {us ts : List Value} (h : Vals vs us) (g : Vals ws ts) : Vals (vs ++ ws) (us ++ ts) := by
  induction h with
  | nil => exact g
  | cons a b ih => exact .cons a ih
section
variable {X : Cx} {pos : Pos}
theorem pgs_starred {e : Expr} {p : Pos} {es : List Expr} {t : TG} {u : TGs} (h1 : PG X e t) (h2 : PGs X es u) : PGs X (.Starred e p :: es) (gCons t u) := by
  refine ⟨fun pins s σ H vs us Q I r h => ?_⟩
  obtain ⟨v, vr, e1, h⟩ := h
  subst e1
  cases r with
  | cons r rr =>
    show wpAny _ _ (assignInOrder (assign e X.env :: (assignEach es X.env).map (·.2)) _) _ _ _
    refine assignInOrder_cons (thn (h1.run pins s σ H _ _ _ I r h) fun _ s1 ⟨σ1, H1, I1, q1⟩ => ?_)
    exact h2.run pins s1 σ1 H1 _ _ Q I1 rr q1
theorem pg_star {es : List Expr} {k : Nat} {t : TGs} {n i : Nat} (hc : X.calm = true) (h : PGs X es t) (hn : (assignEach es X.env).length = n := by rfl) (hst : (assignEach es X.env).findIdx? (·.1) = some i := by rfl) (hi : i < n := by decide) : PG X (.Tuple es k pos) (gStar X.K n i t) := by
  refine ⟨fun pins s σ H v u Q I r hw => ?_⟩
  obtain ⟨a, xs, e1, hq, hl, hz, hw⟩ := hw
  subst e1
  cases r
  obtain ⟨its, rv, pl, _⟩ := I.list hq
  have el : its.length = xs.length := rv.length.symm
  rw [PyProof.Rows.assign_Tuple]
  refine wpAny_bind (wpAny_standAt ?_)
  unfold unpack
  rw [hn, hst]
  refine wpAny_bind (wpAny_holding (star_items (its := its.toArray) (I.ok.hd hc) pl.isList hi (by simpa [el] using hl) (by simpa [el] using hz) fun D g tk old nw new => ?_))
  have hD : H D = none := I.hok.gone nw
  simp only [List.size_toArray, el] at new ⊢
  have rm : Vals ((xs.drop i).take (xs.length + 1 - n)) ((its.drop i).take (xs.length + 1 - n)) := vals_take (vals_drop rv i) _
  have I1 : Inv X pins σ (upd H D (.lst ((xs.drop i).take (xs.length + 1 - n)))) { s with heap := g, toks := tk } :=
    I.laidN old nw hD ⟨Nat.le_trans (by rw [List.length_take, List.length_drop]; omega : _ ≤ 16384) (by decide), (its.drop i).take (xs.length + 1 - n), _, rm, new⟩
  exact h.run pins _ σ _ _ _ Q I1 (vals_app (vals_app (vals_take rv i) (.cons (show RelV (V.ref D) (Value.ref D) from rfl) .nil)) (vals_drop (vals_drop rv i) _)) (hw D hD)
end
/-- a def that is never called -/
def spNo : Sp := fun _ _ _ _ => False
theorem Df.okV {P : Program} {w : World} {K : PySem.W.Frag} {mg : Str → Option Value} {base : Heap} {CX : CXT} {k : Nat} {x : Str} {st : Stmt} {ps : List Str} (D : Df K mg x st ps) : Cal P w K mg base CX k x ps spNo := by
  obtain ⟨f, fd, F, m, b⟩ := D
  exact ⟨f, fd, ⟨fun _ _ _ _ h => h.elim, fun _ _ _ _ _ _ _ _ _ _ _ _ _ h => h.elim⟩, m, F.kp, .all b⟩
end Kb

namespace Kb
open PySem PySem.Spec PyProof.Rows L2 TL
/-! ### hosts as lists of signs -/
def onlyB (g l : List Nat) : Bool := (l.all fun c => decide (c ∈ g)) && decide (l ≠ [])
def digs : List Nat := [48, 49, 50, 51, 52, 53, 54, 55, 56, 57]
def lsig : List Nat := [97, 98, 99, 100, 101, 102, 103, 104, 105, 106, 107, 108, 109, 110, 111, 112, 113, 114, 115, 116, 117, 118, 119, 120, 121, 122, 48, 49, 50, 51, 52, 53, 54, 55, 56, 57, 45]
def digB (l : List Nat) : Bool := onlyB digs l
def labB (l : List Nat) : Bool := decide (l.length ≤ 20) && (onlyB lsig l && (decide (l.head? ≠ some 45) && decide (l.getLast? ≠ some 45)))
def numB (l : List Nat) : Bool := digB l && (decide (NumText.digitsVal l ≤ 255) && (decide (l = [48]) || decide (l.head? ≠ some 48)))
def lastL (L : List (List Nat)) : List Nat := L.getLast?.getD []
def hostL (L : List (List Nat)) : Bool := decide (L.length ≤ 10) && (L.all labB && (!digB (lastL L) || (L.all numB && decide (L.length = 4))))
def hostB (l : List Nat) : Bool := decide (l.length ≤ 100) && hostL (sp1 46 l)
def addrB (l : List Nat) : Bool := hostB l && digB (lastL (sp1 46 l))
def fitB (h d : List Nat) : Bool := decide (h = d) || (!addrB h && (46 :: d).isSuffixOf h)
theorem tl_dot : tl ("." : Str) = [46] := by decide +kernel
theorem dot_eq : ("." : Str) = ⟨#[46]⟩ := ext_tl tl_dot
theorem tl_lsig : tl ("abcdefghijklmnopqrstuvwxyz0123456789-" : Str) = lsig := by decide +kernel
theorem tl_digs : tl ("0123456789" : Str) = digs := by decide +kernel
theorem hostB_len {x : Str} (h : hostB (tl x) = true) : x.length ≤ 100 := by
  unfold hostB at h
  rw [Bool.and_eq_true, decide_eq_true_eq] at h
  rw [len_tl]; exact h.1
theorem digs_iff {c : Nat} : c ∈ digs ↔ 48 ≤ c ∧ c ≤ 57 := by
  simp only [digs, List.mem_cons, List.not_mem_nil, or_false]
  omega
theorem digB_iff {l : List Nat} : digB l = true ↔ NumText.AllDigits l ∧ l ≠ [] := by
  unfold digB onlyB NumText.AllDigits
  rw [Bool.and_eq_true, List.all_eq_true, decide_eq_true_eq]
  constructor
  · rintro ⟨h, n⟩; exact ⟨fun c hc => digs_iff.mp (of_decide_eq_true (h c hc)), n⟩
  · rintro ⟨h, n⟩; exact ⟨fun c hc => decide_eq_true (digs_iff.mpr (h c hc)), n⟩
theorem int_dig {x : Str} (h : digB (tl x) = true) (hl : x.length ≤ 640) : intText? x = some ((NumText.digitsVal (tl x) : Nat) : Int) :=
  intText_digits (digB_iff.mp h).1 (digB_iff.mp h).2 (by omega)
theorem lsig_lt {c : Nat} (h : c ∈ lsig) : c < 128 ∧ 45 ≤ c := by
  simp only [lsig, List.mem_cons, List.not_mem_nil, or_false] at h
  omega
theorem dot_free {l : List Nat} (h : labB l = true) : 46 ∉ l := fun hm => by
  unfold labB onlyB at h
  simp only [Bool.and_eq_true, List.all_eq_true, decide_eq_true_eq] at h
  exact absurd (h.2.1.1 46 hm) (by decide)
theorem lab_ne {l : List Nat} (h : labB l = true) : l ≠ [] := by
  unfold labB onlyB at h
  simp only [Bool.and_eq_true, List.all_eq_true, decide_eq_true_eq] at h
  exact h.2.1.2
theorem lab_len {l : List Nat} (h : labB l = true) : l.length ≤ 20 := by
  unfold labB at h
  simp only [Bool.and_eq_true, decide_eq_true_eq] at h
  exact h.1
theorem lab_sign {l : List Nat} (h : labB l = true) {c : Nat} (hc : c ∈ l) : c ∈ lsig := by
  unfold labB onlyB at h
  simp only [Bool.and_eq_true, List.all_eq_true, decide_eq_true_eq] at h
  exact h.2.1.1 c hc
theorem lastL_snoc (L : List (List Nat)) (p : List Nat) : lastL (L ++ [p]) = p := by
  unfold lastL; rw [List.getLast?_concat]; rfl
/-- joined labels are their parts -/
theorem sp1_joinL {c : Nat} : ∀ {L : List (List Nat)}, L ≠ [] → (∀ p ∈ L, c ∉ p) → sp1 c (joinL [c] L) = L
  | [], h, _ => absurd rfl h
  | [p], _, hp => sp1_of_free (hp p (List.mem_singleton.mpr rfl))
  | p :: q :: r, _, hp => by
    show sp1 c (p ++ (c :: joinL [c] (q :: r))) = _
    rw [sp1_app, sp1_of_free (hp p (List.mem_cons_self ..)), sp1_joinL (by simp) fun z hz => hp z (List.mem_cons_of_mem _ hz)]
    rfl
theorem joinL_app {c : Nat} : ∀ {L M : List (List Nat)}, L ≠ [] → M ≠ [] → joinL [c] (L ++ M) = joinL [c] L ++ c :: joinL [c] M
  | [], _, h, _ => absurd rfl h
  | [p], m :: M, _, _ => rfl
  | [p], [], _, h => absurd rfl h
  | p :: q :: r, M, _, hM => by
    show p ++ (c :: joinL [c] (q :: r ++ M)) = _
    rw [joinL_app (L := q :: r) (by simp) hM]
    simp [joinL]
/-- d's parts are the last parts exactly if it is all, or stands behind a sign -/
theorem sp1_suffix (c : Nat) (h d : List Nat) : ((sp1 c d).length ≤ (sp1 c h).length ∧ (sp1 c h).drop ((sp1 c h).length - (sp1 c d).length) = sp1 c d) ↔ (h = d ∨ (c :: d) <:+ h) := by
  constructor
  · rintro ⟨h1, h2⟩
    have e : sp1 c h = (sp1 c h).take ((sp1 c h).length - (sp1 c d).length) ++ sp1 c d := by
      conv => lhs; rw [← List.take_append_drop ((sp1 c h).length - (sp1 c d).length) (sp1 c h), h2]
    by_cases ht : (sp1 c h).take ((sp1 c h).length - (sp1 c d).length) = []
    · rw [ht, List.nil_append] at e
      exact .inl (by rw [← joinL_sp1 c h, e, joinL_sp1])
    · refine .inr ⟨joinL [c] ((sp1 c h).take ((sp1 c h).length - (sp1 c d).length)), ?_⟩
      have e2 := joinL_sp1 c h
      rw [e, joinL_app ht (sp1_ne c d), joinL_sp1] at e2
      exact e2
  · rintro (rfl | ⟨r, e⟩)
    · simp
    · rw [← e, sp1_app, List.length_append]
      refine ⟨by omega, ?_⟩
      rw [Nat.add_sub_cancel, List.drop_left]
end Kb
namespace Kb
open PySem PySem.Spec PyProof.Rows L2 TL
/-! ### drawn hosts: small labels that are no numbers -/
def wlab (l : List Nat) : Bool := labB l && (!digB l && decide (l.length ≤ 4))
def HostW (n : Nat) (x : Str) : Prop := ∃ L : List (List Nat), L ≠ [] ∧ L.length ≤ n ∧ (∀ l ∈ L, wlab l = true) ∧ tl x = joinL [46] L
theorem wlab_lab {l : List Nat} (h : wlab l = true) : labB l = true ∧ digB l = false ∧ l.length ≤ 4 := by
  unfold wlab at h
  simp only [Bool.and_eq_true, Bool.not_eq_true', decide_eq_true_eq] at h
  exact h
theorem joinL_len {c B : Nat} : ∀ L : List (List Nat), (∀ l ∈ L, l.length ≤ B) → (joinL [c] L).length ≤ L.length * (B + 1)
  | [], _ => by simp [joinL]
  | [p], h => by have := h p (List.mem_singleton.mpr rfl); simp [joinL]; omega
  | p :: q :: r, h => by
    have h1 := h p (List.mem_cons_self ..)
    have h2 := joinL_len (c := c) (q :: r) fun l hl => h l (List.mem_cons_of_mem _ hl)
    show (p ++ (c :: joinL [c] (q :: r))).length ≤ _
    rw [List.length_append, List.length_cons, List.length_cons (a := p), Nat.succ_mul]
    omega
theorem lastL_mem {L : List (List Nat)} (h : L ≠ []) : lastL L ∈ L := by
  have e : L = L.dropLast ++ [L.getLast h] := (List.dropLast_concat_getLast h).symm
  have e2 : lastL L = L.getLast h := by
    conv => lhs; rw [e]
    exact lastL_snoc _ _
  rw [e2]
  exact List.getLast_mem h
theorem HostW.parts {n : Nat} {x : Str} (h : HostW n x) : ∃ L : List (List Nat), sp1 46 (tl x) = L ∧ L ≠ [] ∧ L.length ≤ n ∧ (∀ l ∈ L, wlab l = true) ∧ tl x = joinL [46] L := by
  obtain ⟨L, h1, h2, h3, h4⟩ := h
  exact ⟨L, by rw [h4, sp1_joinL h1 fun p hp => dot_free (wlab_lab (h3 p hp)).1], h1, h2, h3, h4⟩
theorem HostW.len {n : Nat} {x : Str} (h : HostW n x) : x.length ≤ 5 * n := by
  obtain ⟨L, h1, h2, h3, h4⟩ := h
  rw [len_tl, h4]
  have := joinL_len (c := 46) (B := 4) L fun l hl => (wlab_lab (h3 l hl)).2.2
  omega
theorem HostW.host {n : Nat} {x : Str} (h : HostW n x) (hn : n ≤ 10) : hostB (tl x) = true ∧ digB (lastL (sp1 46 (tl x))) = false := by
  have hl := h.len
  obtain ⟨L, e, h1, h2, h3, h4⟩ := h.parts
  have hz : digB (lastL L) = false := (wlab_lab (h3 _ (lastL_mem h1))).2.1
  rw [e]
  refine ⟨?_, hz⟩
  unfold hostB hostL
  rw [e, hz, decide_eq_true (by rw [← len_tl]; omega), decide_eq_true (by omega), List.all_eq_true.mpr fun l hl => (wlab_lab (h3 l hl)).1]
  rfl
theorem HostW.more {n m : Nat} {x : Str} (h : HostW n x) (e : n ≤ m) : HostW m x := by
  obtain ⟨L, h1, h2, h3, h4⟩ := h
  exact ⟨L, h1, Nat.le_trans h2 e, h3, h4⟩
theorem HostW.dot {n m : Nat} {x y : Str} (h : HostW n x) (k : HostW m y) : HostW (n + m) (x ++ "." ++ y) := by
  obtain ⟨L, h1, h2, h3, h4⟩ := h
  obtain ⟨M, k1, k2, k3, k4⟩ := k
  refine ⟨L ++ M, by simp [h1], by rw [List.length_append]; omega, fun l hl => ?_, ?_⟩
  · rcases List.mem_append.mp hl with q | q
    · exact h3 l q
    · exact k3 l q
  · rw [tl_append, tl_append, tl_dot, h4, k4, joinL_app h1 k1, List.append_assoc]; rfl
/-- address hosts: four numbers -/
def AddrW (x : Str) : Prop := ∃ L : List (List Nat), L.length = 4 ∧ (∀ l ∈ L, ∃ n : Nat, n < 256 ∧ l = numL n) ∧ tl x = joinL [46] L
theorem num_ok : ∀ n : Nat, n < 256 → (labB (numL n) && (numB (numL n) && (digB (numL n) && decide ((numL n).length ≤ 3)))) = true := by decide +kernel
theorem AddrW.parts {x : Str} (h : AddrW x) : ∃ L : List (List Nat), sp1 46 (tl x) = L ∧ L.length = 4 ∧ (∀ l ∈ L, labB l = true ∧ numB l = true ∧ digB l = true ∧ l.length ≤ 3) ∧ tl x = joinL [46] L := by
  obtain ⟨L, h1, h2, h3⟩ := h
  have h4 : ∀ l ∈ L, labB l = true ∧ numB l = true ∧ digB l = true ∧ l.length ≤ 3 := fun l hl => by
    obtain ⟨n, hn, rfl⟩ := h2 l hl
    have := num_ok n hn
    simp only [Bool.and_eq_true, decide_eq_true_eq] at this
    exact this
  refine ⟨L, ?_, h1, h4, h3⟩
  rw [h3, sp1_joinL (by intro e; rw [e] at h1; cases h1) fun p hp => dot_free (h4 p hp).1]
theorem AddrW.len {x : Str} (h : AddrW x) : x.length ≤ 16 := by
  obtain ⟨L, e, h1, h2, h3⟩ := h.parts
  rw [len_tl, h3]
  have := joinL_len (c := 46) (B := 3) L fun l hl => (h2 l hl).2.2.2
  omega
theorem AddrW.host {x : Str} (h : AddrW x) : hostB (tl x) = true ∧ digB (lastL (sp1 46 (tl x))) = true := by
  have hl := h.len
  obtain ⟨L, e, h1, h2, h3⟩ := h.parts
  have hz : digB (lastL L) = true := (h2 _ (lastL_mem (by intro e; rw [e] at h1; cases h1))).2.2.1
  rw [e]
  refine ⟨?_, hz⟩
  unfold hostB hostL
  rw [e, hz, decide_eq_true (by rw [← len_tl]; omega), decide_eq_true (by omega), List.all_eq_true.mpr fun l hl => (h2 l hl).1, List.all_eq_true.mpr fun l hl => (h2 l hl).2.1, decide_eq_true h1]
  rfl
/-- what a host is, for the law's own reckoning -/
theorem fit_due {h d : List Nat} (hh : hostB h = true) : fitB h d = (if digB (lastL (sp1 46 h)) = true then decide (sp1 46 h = sp1 46 d) else decide ((sp1 46 d).length ≤ (sp1 46 h).length) && decide ((sp1 46 h).drop ((sp1 46 h).length - (sp1 46 d).length) = sp1 46 d)) := by
  unfold fitB addrB
  rw [hh, Bool.true_and]
  cases hz : digB (lastL (sp1 46 h)) with
  | true =>
    rw [if_pos rfl, Bool.not_true, Bool.false_and, Bool.or_false, Bool.eq_iff_iff, decide_eq_true_eq, decide_eq_true_eq]
    exact ⟨fun e => by rw [e], fun e => by rw [← joinL_sp1 46 h, e, joinL_sp1]⟩
  | false =>
    rw [if_neg Bool.false_ne_true, Bool.not_false, Bool.true_and, Bool.eq_iff_iff, Bool.or_eq_true, Bool.and_eq_true, decide_eq_true_eq, decide_eq_true_eq, decide_eq_true_eq, List.isSuffixOf_iff_suffix]
    exact (sp1_suffix 46 h d).symm
end Kb
namespace Kb
open PySem PySem.Spec PyProof.Rows L2 TL
theorem digit_lsig : ∀ c ∈ lsig, Unicode.isDigit c = decide (c ∈ digs) := by decide +kernel
theorem isdigit_lab {z : Str} (h : labB (tl z) = true) : Txt.isdigit z = digB (tl z) := by
  unfold Txt.isdigit digB onlyB
  have hn := lab_ne h
  have h0 : decide (z.length > 0) = true := decide_eq_true (by rw [len_tl]; exact List.length_pos_iff.mpr hn)
  rw [h0, Bool.true_and, decide_eq_true hn, Bool.and_true, Bool.eq_iff_iff, Array.all_eq_true_iff_forall_mem, List.all_eq_true]
  constructor
  · intro q c hc
    rw [← digit_lsig c (lab_sign h hc)]
    exact q c (Array.mem_toList_iff.mp hc)
  · intro q c hc
    have hc := Array.mem_toList_iff.mpr hc
    rw [digit_lsig c (lab_sign h hc)]
    exact q c hc
theorem host_labels {x : Str} (h : hostB (tl x) = true) : ∀ l ∈ sp1 46 (tl x), labB l = true := by
  unfold hostB hostL at h
  simp only [Bool.and_eq_true, List.all_eq_true] at h
  exact h.2.2.1
theorem host_lt {x : Str} (h : hostB (tl x) = true) : ∀ s ∈ tl x, s < 1114112 := fun s hs => by
  have hl := host_labels h
  rw [← joinL_sp1 46 (tl x)] at hs
  have : ∀ L : List (List Nat), (∀ l ∈ L, labB l = true) → ∀ s ∈ joinL [46] L, s = 46 ∨ s ∈ lsig := by
    intro L
    induction L with
    | nil => intro _ s hs; cases hs
    | cons p L ih =>
      intro hL s hs
      cases L with
      | nil => exact .inr (lab_sign (hL p (List.mem_cons_self ..)) hs)
      | cons q r =>
        have hs : s ∈ p ++ (46 :: joinL [46] (q :: r)) := hs
        rcases List.mem_append.mp hs with a | a
        · exact .inr (lab_sign (hL p (List.mem_cons_self ..)) a)
        · rcases List.mem_cons.mp a with a | a
          · exact .inl a
          · exact ih (fun l hl => hL l (List.mem_cons_of_mem _ hl)) s a
  rcases this _ hl s hs with rfl | q
  · decide
  · have := lsig_lt q; omega
end Kb

namespace Kb
open PySem PySem.Spec PyProof.Rows L2
/-! ### a tuple times one -/
theorem tuple_mul1 (l : Addr) (items : Array Value) (n : Nat) (dd : Option Addr) (sl : Array (Option Value)) (u : Tok) :
    Meets (Builtin.«tuple.__mul__» ⟨[.ref l, .int 1 u], []⟩) (fun _ R s => s.heap.get? l = some { cls := .type "tuple", dict := dd, data := .seq items n, slots := sl } ∧
      R (.ok (.ret (Value.ref l))) s) :=
  .of_wp fun prog w A R s h => by
    obtain ⟨hp, g, d, tk, os⟩ := s
    obtain ⟨hl, h⟩ := h
    have f1 := AutoSeq1.idx_int
    have c1 : (items.isEmpty || (1 : Int) == 1) = true := by simp
    wp_walk using wpAny_loadPart' hl
    repeat (first
      | (refine wpAny_ite_false (decide_eq_false (by decide)) ?_; wp_walk using wpAny_loadPart' hl)
      | (refine wpAny_ite_true (decide_eq_true (by exact c1)) ?_; wp_walk using wpAny_loadPart' hl))
    all_goals first | exact ⟨_, rfl, h⟩ | skip
def rRep1 (K : PySem.W.Frag) : R2 := fun x y H Q => ∃ l xs, x = .ref l ∧ y = .int 1 ∧ SqT K H l xs ∧ Q (.ref l) H
section
variable {X : Cx}
theorem op_rep1 : OpR X (binaryOp .Mult) (rRep1 X.K) := by
  intro pins s σ H x y v u Q I rx ry h
  obtain ⟨l, xs, rfl, rfl, hT, q⟩ := h
  cases rx
  obtain ⟨t, rfl⟩ := ry
  obtain ⟨its, r, ⟨⟨cls, dd, data, sl⟩, ho, hc, n, hd⟩, hs⟩ := I.tuple hT
  simp only at hc hd
  subst hc hd
  refine wpAny_binaryOp_repeat_ref (T := "tuple") (U := "int") (by decide) ⟨_, ho, rfl⟩ (fun s' => typeIs_int s' 1 t) noFill_tuple_mul F.fills_int_mul F.slot_int_rmul repeat_tuple F.slot_int_index.lookup
    (call_meets F.slot_int_rmul (typeIs_int s 1 t) F.entry_int_rmul (F.args_int_rmul_2 _ _) (int_rmul_tuple 1 t l its.toArray n dd sl)
      ⟨ho, rfl, ⟨_, ho, rfl⟩, call_meets F.slot_tuple_mul ⟨_, ho, rfl⟩ F.entry_tuple_mul (F.args_tuple_mul_2 _ _) (tuple_mul1 l its.toArray n dd sl t) ⟨ho, ?_⟩⟩)
  exact ⟨.ref l, H, I, rfl, q⟩
end
end Kb

namespace Kb
open PySem PySem.Spec PyProof.Rows L2 TL PySem.StrLaws Builtin.Str
/-! ### partition, removeprefix, count -/
theorem partition_behind {x : Str} {c : Nat} {a b : List Nat} (e : tl x = a ++ c :: b) (ha : c ∉ a) : tl (Txt.partition x ⟨#[c]⟩).2.2 = b := by
  have hy : tl (⟨#[c]⟩ : Str) ≠ [] := by simp [tl]
  have at' : ∀ i, At x ⟨#[c]⟩ x.length i ↔ (tl x)[i]? = some c := fun i => by
    rw [at_iff hy]
    show (((tl x).drop i).take 1 == [c]) = true ↔ _
    exact take1_drop
  have hit : At x ⟨#[c]⟩ x.length a.length := (at' _).mpr (by rw [e]; simp)
  have key : ∀ i, At x ⟨#[c]⟩ x.length i → (∀ k, k < i → ¬ At x ⟨#[c]⟩ x.length k) → i = a.length := fun i h1 h2 => by
    rcases Nat.lt_trichotomy i a.length with q | q | q
    · have g := (at' i).mp h1
      rw [e, List.getElem?_append_left q] at g
      exact absurd (List.mem_of_getElem? g) ha
    · exact q
    · exact absurd hit (h2 _ q)
  have fw := find_whole x ⟨#[c]⟩
  unfold Txt.find at fw
  unfold Txt.partition
  cases ho : occurrences x ⟨#[c]⟩ 0 x.length 1 with
  | nil =>
    rw [ho] at fw
    rcases fw with ⟨_, h⟩ | ⟨i, e1, _⟩
    · exact absurd hit (h _)
    · simp only at e1; omega
  | cons j r =>
    rw [ho] at fw
    rcases fw with ⟨e1, _⟩ | ⟨i, e1, h1, h2⟩
    · simp only at e1; omega
    · simp only at e1
      have hj : j = a.length := (Int.ofNat_inj.mp e1) ▸ key i h1 h2
      show tl (strSub x (j + 1) x.length) = b
      rw [tl_strSub, hj, e, len_tl, e]
      rw [show a ++ c :: b = (a ++ [c]) ++ b by simp, List.drop_left' (by simp)]
      rw [List.take_of_length_le (by simp; omega)]
theorem partition_none {x : Str} {c : Nat} (h : c ∉ tl x) : tl (Txt.partition x ⟨#[c]⟩).2.2 = [] := by
  have hy : tl (⟨#[c]⟩ : Str) ≠ [] := by simp [tl]
  have at' : ∀ i, At x ⟨#[c]⟩ x.length i ↔ (tl x)[i]? = some c := fun i => by
    rw [at_iff hy]
    show (((tl x).drop i).take 1 == [c]) = true ↔ _
    exact take1_drop
  have fw := find_whole x ⟨#[c]⟩
  unfold Txt.find at fw
  unfold Txt.partition
  cases ho : occurrences x ⟨#[c]⟩ 0 x.length 1 with
  | nil => rfl
  | cons j r =>
    rw [ho] at fw
    rcases fw with ⟨e1, _⟩ | ⟨i, e1, h1, h2⟩
    · simp only at e1; omega
    · exact absurd (List.mem_of_getElem? ((at' i).mp h1)) h
theorem removeprefix_hit {x y : Str} {b : List Nat} (e : tl x = tl y ++ b) : tl (Txt.removeprefix x y) = b := by
  unfold Txt.removeprefix
  have hs : subAt x y 0 = true := by
    rw [subAt_eq, List.drop_zero]
    show (List.take y.length (tl x) == tl y) = true
    rw [e, len_tl, List.take_left, beq_iff_eq]
  rw [if_pos hs]
  show tl (if x.length - y.length == x.length then x else strSub x y.length x.length) = b
  by_cases h0 : y.length = 0
  · rw [if_pos (by simp [h0])]
    rw [len_tl] at h0
    rw [e, List.eq_nil_of_length_eq_zero h0, List.nil_append]
  · have hx : x.length = y.length + b.length := by rw [len_tl, e, List.length_append, ← len_tl]
    rw [if_neg (by simp; omega), tl_strSub_end, e, len_tl, List.drop_left]
theorem removeprefix_miss {x y : Str} (h : ¬ tl y <+: tl x) : Txt.removeprefix x y = x := by
  unfold Txt.removeprefix
  rw [if_neg]
  · rfl
  · intro hs
    rw [subAt_eq, List.drop_zero] at hs
    have hs : (List.take y.length (tl x) == tl y) = true := hs
    exact h ((beq_iff_eq.mp hs) ▸ List.take_prefix _ _)
theorem count_sp1 (x : Str) (c : Nat) : Txt.count x ⟨#[c]⟩ + 1 = ((sp1 c (tl x)).length : Int) := by
  rw [count_cnt]
  show cnt c (tl x) + 1 = _
  generalize tl x = l
  induction l with
  | nil => rfl
  | cons y l ih =>
    rw [cnt_cons]
    by_cases h : y = c
    · subst h
      rw [sp1_hit, if_pos rfl, List.length_cons]
      push_cast
      omega
    · obtain ⟨p, r, e⟩ := sp1_cons c l
      rw [sp1_miss h e, if_neg h]
      rw [e] at ih
      rw [List.length_cons] at ih ⊢
      omega
end Kb
namespace Kb
open PySem PySem.Spec PyProof.Rows L2 TL
/-! ### rules, and the suffixes that they give, by labels -/
def excT (t : List Nat) : Bool := decide (t.head? = some 33)
def patT (t : List Nat) : List Nat := if excT t then t.tail else t
def ruleB (t : List Nat) : Bool :=
  if excT t then decide (1 < (sp1 46 t.tail).length) && (sp1 46 t.tail).all labB
  else (sp1 46 (if [42, 46].isPrefixOf t then t.drop 2 else t)).all labB
def patL (t : List Nat) : List (List Nat) := sp1 46 (patT t)
def lastN {α : Type} (n : Nat) (w : List α) : List α := w.drop (w.length - n)
def mtL (P w : List (List Nat)) : Bool := decide (P.length ≤ w.length) && (if P.head? = some [42] then decide ((lastN P.length w).tail = P.tail) else decide (lastN P.length w = P))
def bigN (b : Nat) (q : List Nat → Bool) : List (List Nat) → Nat
  | [] => b
  | t :: rs => bigN (if q t then max b (patL t).length else b) q rs
def excN (rs w : List (List Nat)) : Nat := bigN 0 (fun t => excT t && mtL (patL t) w) rs
def lonN (rs w : List (List Nat)) : Nat := bigN 1 (fun t => !excT t && mtL (patL t) w) rs
def sufN (rs w : List (List Nat)) : Nat := if 0 < excN rs w then excN rs w - 1 else lonN rs w
def famL (rs w : List (List Nat)) : List (List Nat) := lastN ((lastN (sufN rs w) w).length + 1) w
section
variable {α : Type}
theorem lastN_len (n : Nat) (w : List α) : (lastN n w).length = min n w.length := by
  unfold lastN; rw [List.length_drop]; omega
theorem lastN_all {n : Nat} {w : List α} (h : w.length ≤ n) : lastN n w = w := by
  unfold lastN; rw [show w.length - n = 0 by omega, List.drop_zero]
theorem lastN_lastN {n m : Nat} {w : List α} (h : n ≤ m) : lastN n (lastN m w) = lastN n w := by
  unfold lastN; rw [List.drop_drop, List.length_drop]; congr 1; omega
theorem lastN_cons {n : Nat} {x : α} {w : List α} (h : n ≤ w.length) : lastN n (x :: w) = lastN n w := by
  unfold lastN
  rw [List.length_cons, show w.length + 1 - n = (w.length - n) + 1 by omega, List.drop_succ_cons]
theorem lastN_mem {n : Nat} {w : List α} {x : α} (h : x ∈ lastN n w) : x ∈ w := List.mem_of_mem_drop h
theorem lastN_min {n : Nat} {w : List α} : lastN (min n w.length) w = lastN n w := by
  unfold lastN; congr 1; omega
end
theorem cutV_last (xs : List V) {n : Nat} (h : 1 ≤ n) : cutV xs (some (-(n : Int))) none = lastN n xs := by
  show (xs.drop (HT.sIx xs.length 0 (some (-(n : Int))))).take (HT.sIx xs.length xs.length none - HT.sIx xs.length 0 (some (-(n : Int)))) = _
  have e : HT.sIx xs.length 0 (some (-(n : Int))) = xs.length - n := by
    show (if (-(n : Int)) < 0 then ((-(n : Int)) + (xs.length : Int)).toNat else min (-(n : Int)).toNat xs.length) = _
    rw [if_pos (by omega)]
    omega
  rw [e, HT.sIx_none]
  exact List.take_of_length_le (by rw [List.length_drop] <;> omega)
/-! #### the greatest of sizes -/
theorem bigN_ge (q : List Nat → Bool) : ∀ (rs : List (List Nat)) (b : Nat), b ≤ bigN b q rs
  | [], b => Nat.le_refl _
  | t :: rs, b => by
    show b ≤ bigN _ q rs
    refine Nat.le_trans ?_ (bigN_ge q rs _)
    split <;> omega
theorem bigN_mem (q : List Nat → Bool) : ∀ (rs : List (List Nat)) (b : Nat) (t : List Nat), t ∈ rs → q t = true → (patL t).length ≤ bigN b q rs
  | r :: rs, b, t, h, hq => by
    show _ ≤ bigN _ q rs
    rcases List.mem_cons.mp h with e | e
    · subst e
      have := bigN_ge q rs (if q t then max b (patL t).length else b)
      rw [if_pos hq] at this ⊢
      omega
    · exact bigN_mem q rs _ t e hq
theorem bigN_cases (q : List Nat → Bool) : ∀ (rs : List (List Nat)) (b : Nat), bigN b q rs = b ∨ ∃ t ∈ rs, q t = true ∧ bigN b q rs = (patL t).length
  | [], b => .inl rfl
  | r :: rs, b => by
    show bigN _ q rs = b ∨ _
    by_cases hq : q r = true
    · rcases bigN_cases q rs (max b (patL r).length) with e | ⟨t, h1, h2, h3⟩
      · rcases Nat.le_total (patL r).length b with g | g
        · left; rw [if_pos hq, e]; omega
        · right; exact ⟨r, List.mem_cons_self .., hq, by show bigN _ q rs = _; rw [if_pos hq, e]; omega⟩
      · right; exact ⟨t, List.mem_cons_of_mem _ h1, h2, by show bigN _ q rs = _; rw [if_pos hq, h3]⟩
    · rw [if_neg hq]
      rcases bigN_cases q rs b with e | ⟨t, h1, h2, h3⟩
      · exact .inl e
      · right; exact ⟨t, List.mem_cons_of_mem _ h1, h2, by show bigN _ q rs = _; rw [if_neg hq, h3]⟩
theorem bigN_congr {q q' : List Nat → Bool} : ∀ {rs : List (List Nat)} {b : Nat}, (∀ t ∈ rs, q t = q' t) → bigN b q rs = bigN b q' rs
  | [], b, _ => rfl
  | r :: rs, b, h => by
    show bigN _ q rs = bigN _ q' rs
    rw [h r (List.mem_cons_self ..)]
    exact bigN_congr fun t ht => h t (List.mem_cons_of_mem _ ht)
theorem bigN_snoc (q : List Nat → Bool) : ∀ (rs : List (List Nat)) (b : Nat) (t : List Nat), bigN b q (rs ++ [t]) = if q t then max (bigN b q rs) (patL t).length else bigN b q rs
  | [], b, t => rfl
  | r :: rs, b, t => by
    show bigN _ q (rs ++ [t]) = _
    rw [bigN_snoc q rs]
    rfl
/-! #### what a match tells -/
theorem mtL_len {P w : List (List Nat)} (h : mtL P w = true) : P.length ≤ w.length := by
  unfold mtL at h
  rw [Bool.and_eq_true, decide_eq_true_eq] at h
  exact h.1
theorem mtL_lastN {P w : List (List Nat)} {k : Nat} (hk : k ≤ w.length) : mtL P (lastN k w) = (decide (P.length ≤ k) && mtL P w) := by
  unfold mtL
  rw [lastN_len, Nat.min_eq_left hk]
  by_cases h : P.length ≤ k
  · rw [lastN_lastN h, decide_eq_true h, decide_eq_true (Nat.le_trans h hk)]
    rfl
  · rw [decide_eq_false h]; rfl
theorem excT_len {t : List Nat} (hr : ruleB t = true) (h : excT t = true) : 2 ≤ (patL t).length := by
  unfold ruleB at hr
  rw [if_pos h, Bool.and_eq_true, decide_eq_true_eq] at hr
  unfold patL patT
  rw [if_pos h]
  exact hr.1
theorem excN_ge {rs w : List (List Nat)} (hr : ∀ t ∈ rs, ruleB t = true) (h : 0 < excN rs w) : 2 ≤ excN rs w ∧ excN rs w ≤ w.length := by
  unfold excN at h ⊢
  rcases bigN_cases (fun t => excT t && mtL (patL t) w) rs 0 with e | ⟨t, h1, h2, h3⟩
  · omega
  · rw [h3]
    simp only [Bool.and_eq_true] at h2
    exact ⟨excT_len (hr t h1) h2.1, mtL_len h2.2⟩
theorem lonN_ge {rs w : List (List Nat)} (hw : w ≠ []) : 1 ≤ lonN rs w ∧ lonN rs w ≤ w.length := by
  have h0 : 0 < w.length := List.length_pos_iff.mpr hw
  unfold lonN
  refine ⟨bigN_ge _ _ _, ?_⟩
  rcases bigN_cases (fun t => !excT t && mtL (patL t) w) rs 1 with e | ⟨t, h1, h2, h3⟩
  · omega
  · rw [h3]
    simp only [Bool.and_eq_true] at h2
    exact mtL_len h2.2
theorem sufN_ge {rs w : List (List Nat)} (hr : ∀ t ∈ rs, ruleB t = true) (hw : w ≠ []) : 1 ≤ sufN rs w ∧ sufN rs w ≤ w.length := by
  unfold sufN
  split
  · next h => have := excN_ge hr h; omega
  · exact lonN_ge hw
theorem famL_eq {rs w : List (List Nat)} (hr : ∀ t ∈ rs, ruleB t = true) (hw : w ≠ []) : famL rs w = lastN (sufN rs w + 1) w := by
  unfold famL
  have := sufN_ge hr hw
  rw [lastN_len, Nat.min_eq_left this.2]
/-- the last labels, if they are no fewer than the family's, have the same suffix -/
theorem sufN_lastN {rs w : List (List Nat)} {k : Nat} (hr : ∀ t ∈ rs, ruleB t = true) (hw : w ≠ []) (hk : k ≤ w.length) (h : min (sufN rs w + 1) w.length ≤ k) : sufN rs (lastN k w) = sufN rs w := by
  have e1 : excN rs (lastN k w) = excN rs w := by
    unfold excN
    refine bigN_congr fun t ht => ?_
    rw [mtL_lastN hk]
    cases hx : excT t <;> cases hm : mtL (patL t) w
    · rfl
    · rfl
    · rw [Bool.and_false]
    · have g : (patL t).length ≤ excN rs w := bigN_mem _ rs 0 t ht (by simp [hx, hm])
      have g0 := excT_len (hr t ht) hx
      have g1 := excN_ge hr (w := w) (rs := rs) (by omega)
      have g2 : sufN rs w = excN rs w - 1 := by unfold sufN; rw [if_pos (by omega)]
      rw [decide_eq_true (by omega)]; rfl
  unfold sufN
  rw [e1]
  by_cases h0 : 0 < excN rs w
  · rw [if_pos h0, if_pos h0]
  · rw [if_neg h0, if_neg h0]
    unfold lonN
    refine bigN_congr fun t ht => ?_
    rw [mtL_lastN hk]
    cases hx : excT t <;> cases hm : mtL (patL t) w
    · rw [Bool.and_false]
    · have g : (patL t).length ≤ lonN rs w := bigN_mem _ rs 1 t ht (by simp [hx, hm])
      have g2 : sufN rs w = lonN rs w := by unfold sufN; rw [if_neg h0]
      have := mtL_len hm
      rw [decide_eq_true (by omega)]; rfl
    · rfl
    · rfl
/-- hosts that hold the family have this family, others have another one -/
theorem famL_part {rs w : List (List Nat)} {k : Nat} (hr : ∀ t ∈ rs, ruleB t = true) (hw : w ≠ []) (hk0 : 1 ≤ k) (hk : k ≤ w.length) : decide (famL rs (lastN k w) = famL rs w) = decide ((famL rs w).length ≤ k) := by
  have hn : lastN k w ≠ [] := fun e => by have := lastN_len k w; rw [e] at this; simp at this; omega
  rw [famL_eq hr hn, famL_eq hr hw, lastN_len]
  rw [Bool.eq_iff_iff, decide_eq_true_eq, decide_eq_true_eq]
  constructor
  · intro e
    have := congrArg List.length e
    rw [lastN_len, lastN_len, lastN_len] at this
    omega
  · intro h
    rw [sufN_lastN hr hw hk h]
    by_cases g : sufN rs w + 1 ≤ k
    · exact lastN_lastN g
    · rw [lastN_all (n := k) (by omega)]
theorem famL_idem {rs w : List (List Nat)} (hr : ∀ t ∈ rs, ruleB t = true) (hw : w ≠ []) : famL rs (famL rs w) = famL rs w := by
  have h1 := sufN_ge hr hw
  have h0 : 0 < w.length := List.length_pos_iff.mpr hw
  have e : famL rs w = lastN (min (sufN rs w + 1) w.length) w := by rw [lastN_min]; exact famL_eq hr hw
  have := famL_part (k := min (sufN rs w + 1) w.length) hr hw (by omega) (by omega)
  rw [← e] at this
  rw [← decide_eq_true_iff (p := famL rs (famL rs w) = famL rs w), this, decide_eq_true_iff, e, lastN_len]
  omega
/-- a rule that does not match changes nothing -/
theorem sufN_snoc {rs w : List (List Nat)} {t : List Nat} (h : mtL (patL t) w = false) : sufN (rs ++ [t]) w = sufN rs w := by
  unfold sufN excN lonN
  rw [bigN_snoc, bigN_snoc]
  simp only [h, Bool.and_false, Bool.false_eq_true, if_false]
end Kb
namespace Kb
open PySem PySem.Spec PyProof.Rows L2 TL
/-! #### a label in front -/
theorem mtL_cons {P w : List (List Nat)} {y : List Nat} (h : P.length ≤ w.length) : mtL P (y :: w) = mtL P w := by
  unfold mtL
  rw [lastN_cons h, decide_eq_true h, List.length_cons, decide_eq_true (by omega)]
theorem lonN_below (rs w : List (List Nat)) (y : List Nat) : lonN rs (y :: w) = lonN rs w ∨ lonN rs (y :: w) = w.length + 1 := by
  have up : lonN rs w ≤ lonN rs (y :: w) := by
    unfold lonN
    rcases bigN_cases (fun t => !excT t && mtL (patL t) w) rs 1 with e | ⟨t, h1, h2, h3⟩
    · rw [e]; exact bigN_ge _ _ _
    · rw [h3]
      simp only [Bool.and_eq_true] at h2
      exact bigN_mem _ rs 1 t h1 (by simp only [Bool.and_eq_true]; exact ⟨h2.1, by rw [mtL_cons (mtL_len h2.2)]; exact h2.2⟩)
  have lo : 1 ≤ lonN rs w := bigN_ge _ _ _
  rcases bigN_cases (fun t => !excT t && mtL (patL t) (y :: w)) rs 1 with e | ⟨t, h1, h2, h3⟩
  · left
    have e : lonN rs (y :: w) = 1 := e
    omega
  · simp only [Bool.and_eq_true] at h2
    have h3 : lonN rs (y :: w) = (patL t).length := h3
    have hl := mtL_len h2.2
    rw [List.length_cons] at hl
    by_cases g : (patL t).length ≤ w.length
    · left
      have : (patL t).length ≤ lonN rs w := bigN_mem _ rs 1 t h1 (by simp only [Bool.and_eq_true]; exact ⟨h2.1, by rw [← mtL_cons (y := y) g]; exact h2.2⟩)
      omega
    · right; omega
theorem excN_below {rs w : List (List Nat)} {y : List Nat} (h : ∀ t ∈ rs, excT t = true → (patL t).head? ≠ some [42] ∧ y ∉ patL t) : excN rs (y :: w) = excN rs w := by
  unfold excN
  refine bigN_congr fun t ht => ?_
  cases hx : excT t
  · rfl
  · obtain ⟨h1, h2⟩ := h t ht hx
    by_cases g : (patL t).length ≤ w.length
    · rw [mtL_cons g]
    · have e : mtL (patL t) w = false := by unfold mtL; rw [decide_eq_false g]; rfl
      rw [e]
      unfold mtL
      rw [if_neg h1]
      by_cases g2 : (patL t).length ≤ (y :: w).length
      · rw [List.length_cons] at g2
        rw [lastN_all (by rw [List.length_cons]; omega), decide_eq_false (p := y :: w = patL t) fun e => h2 (e ▸ List.mem_cons_self ..), Bool.and_false]
      · rw [decide_eq_false g2]; rfl
theorem famL_below {rs w : List (List Nat)} {y : List Nat} (hr : ∀ t ∈ rs, ruleB t = true) (hw : w ≠ []) (h : ∀ t ∈ rs, excT t = true → (patL t).head? ≠ some [42] ∧ y ∉ patL t) :
    (famL rs (y :: w) = famL rs w ∨ famL rs (y :: w) = y :: w) ∧ (sufN rs w = w.length → famL rs (y :: w) = y :: w) := by
  have e1 := excN_below (w := w) h
  have n1 := sufN_ge hr hw
  rw [famL_eq hr hw, famL_eq hr (List.cons_ne_nil y w)]
  by_cases h0 : 0 < excN rs w
  · have g := excN_ge hr h0
    have e2 : sufN rs w = excN rs w - 1 := by unfold sufN; rw [if_pos h0]
    have e3 : sufN rs (y :: w) = excN rs w - 1 := by unfold sufN; rw [e1, if_pos h0]
    rw [e2, e3, lastN_cons (by omega)]
    exact ⟨.inl rfl, fun q => by omega⟩
  · have e2 : sufN rs w = lonN rs w := by unfold sufN; rw [if_neg h0]
    have e3 : sufN rs (y :: w) = lonN rs (y :: w) := by unfold sufN; rw [e1, if_neg h0]
    rw [e3]
    rcases lonN_below rs w y with e | e
    · rw [e, ← e2]
      by_cases g : sufN rs w + 1 ≤ w.length
      · rw [lastN_cons g]
        exact ⟨.inl rfl, fun q => by omega⟩
      · rw [lastN_all (w := y :: w) (by rw [List.length_cons]; omega)]
        exact ⟨.inr rfl, fun _ => rfl⟩
    · rw [e, lastN_all (w := y :: w) (by rw [List.length_cons]; omega)]
      exact ⟨.inr rfl, fun _ => rfl⟩
end Kb
namespace Kb
open PySem PySem.Spec PyProof.Rows L2 TL
/-! ### drawn rules over a, b and c -/
def abc (l : List Nat) : Prop := l = [97] ∨ l = [98] ∨ l = [99]
def GenR (t : List Nat) : Prop := ∃ L : List (List Nat), L ≠ [] ∧ L.length ≤ 4 ∧ (∀ l ∈ L, abc l) ∧ (t = joinL [46] L ∨ t = 42 :: 46 :: joinL [46] L ∨ (2 ≤ L.length ∧ t = 33 :: joinL [46] L))
theorem abc_wlab {l : List Nat} (h : abc l) : wlab l = true := by rcases h with rfl | rfl | rfl <;> decide
theorem abc_lab {l : List Nat} (h : abc l) : labB l = true := (wlab_lab (abc_wlab h)).1
theorem abc_len {l : List Nat} (h : abc l) : l.length ≤ 1 := by rcases h with rfl | rfl | rfl <;> decide
theorem abc_head {L : List (List Nat)} (hL : L ≠ []) (h : ∀ l ∈ L, abc l) : ∃ a r, joinL [46] L = a :: r ∧ a ≠ 33 ∧ a ≠ 42 := by
  obtain ⟨l, r, rfl⟩ := List.exists_cons_of_ne_nil hL
  have h1 := h l (List.mem_cons_self ..)
  have e : ∀ z, ∃ s, joinL [46] ([z] :: r) = z :: s := fun z => by
    cases r with
    | nil => exact ⟨[], rfl⟩
    | cons q r => exact ⟨_, rfl⟩
  rcases h1 with rfl | rfl | rfl
  · obtain ⟨s, e⟩ := e 97; exact ⟨97, s, e, by decide, by decide⟩
  · obtain ⟨s, e⟩ := e 98; exact ⟨98, s, e, by decide, by decide⟩
  · obtain ⟨s, e⟩ := e 99; exact ⟨99, s, e, by decide, by decide⟩
theorem abc_sp1 {L : List (List Nat)} (hL : L ≠ []) (h : ∀ l ∈ L, abc l) : sp1 46 (joinL [46] L) = L := sp1_joinL hL fun l hl => dot_free (abc_lab (h l hl))
theorem GenR.cases {t : List Nat} (h : GenR t) : ∃ L : List (List Nat), L ≠ [] ∧ L.length ≤ 4 ∧ (∀ l ∈ L, abc l) ∧ ((excT t = false ∧ t = joinL [46] L ∧ patL t = L) ∨ (excT t = false ∧ t = 42 :: 46 :: joinL [46] L ∧ patL t = [42] :: L) ∨ (excT t = true ∧ 2 ≤ L.length ∧ t = 33 :: joinL [46] L ∧ patL t = L)) := by
  obtain ⟨L, h1, h2, h3, h4⟩ := h
  refine ⟨L, h1, h2, h3, ?_⟩
  rcases h4 with rfl | rfl | ⟨h4, rfl⟩
  · left
    obtain ⟨a, r, e, e1, e2⟩ := abc_head h1 h3
    have hx : excT (joinL [46] L) = false := by unfold excT; rw [e]; exact decide_eq_false (by simpa using e1)
    refine ⟨hx, rfl, ?_⟩
    unfold patL patT
    rw [hx]
    exact abc_sp1 h1 h3
  · right; left
    refine ⟨rfl, rfl, ?_⟩
    show sp1 46 ([42] ++ 46 :: joinL [46] L) = _
    rw [sp1_app, abc_sp1 h1 h3]
    rfl
  · right; right
    refine ⟨rfl, h4, rfl, ?_⟩
    exact abc_sp1 h1 h3
theorem GenR.rule {t : List Nat} (h : GenR t) : ruleB t = true := by
  obtain ⟨L, h1, h2, h3, h4⟩ := h.cases
  have all : L.all labB = true := List.all_eq_true.mpr fun l hl => abc_lab (h3 l hl)
  unfold ruleB
  rcases h4 with ⟨hx, e, hp⟩ | ⟨hx, e, hp⟩ | ⟨hx, h5, e, hp⟩
  · rw [hx, e]
    obtain ⟨a, r, ea, e1, e2⟩ := abc_head h1 h3
    have : [42, 46].isPrefixOf (joinL [46] L) = false := by
      rw [ea]
      show ((42 == a) && _) = false
      rw [beq_eq_false_iff_ne.mpr (Ne.symm e2), Bool.false_and]
    rw [this]
    simp only [Bool.false_eq_true, if_false]
    rw [abc_sp1 h1 h3]
    exact all
  · rw [hx, e]
    have : [42, 46].isPrefixOf (42 :: 46 :: joinL [46] L) = true := by simp [List.isPrefixOf]
    rw [this]
    simp only [Bool.false_eq_true, if_false, if_true, List.drop_succ_cons, List.drop_zero]
    rw [abc_sp1 h1 h3]
    exact all
  · rw [hx, e, if_pos rfl]
    show (decide (1 < (sp1 46 (joinL [46] L)).length) && (sp1 46 (joinL [46] L)).all labB) = true
    rw [abc_sp1 h1 h3, all, decide_eq_true (by omega)]
    rfl
theorem GenR.exc {t : List Nat} (h : GenR t) (hx : excT t = true) : (patL t).head? ≠ some [42] ∧ ∀ l ∈ patL t, abc l := by
  obtain ⟨L, h1, h2, h3, h4⟩ := h.cases
  rcases h4 with ⟨e0, e, hp⟩ | ⟨e0, e, hp⟩ | ⟨e0, h5, e, hp⟩
  · rw [e0] at hx; cases hx
  · rw [e0] at hx; cases hx
  · rw [hp]
    refine ⟨fun q => ?_, h3⟩
    have := h3 [42] (List.mem_of_mem_head? q)
    rcases this with q | q | q <;> simp at q
theorem GenR.head {t : List Nat} (h : GenR t) : t.head? ≠ some 122 := by
  obtain ⟨L, h1, h2, h3, rfl | rfl | ⟨_, rfl⟩⟩ := h
  · obtain ⟨l, r, rfl⟩ := List.exists_cons_of_ne_nil h1
    have hq := h3 l (List.mem_cons_self ..)
    have e : ∀ z, (joinL [46] ([z] :: r)).head? = some z := fun z => by cases r <;> rfl
    rcases hq with rfl | rfl | rfl <;> rw [e] <;> decide
  · simp
  · simp
theorem GenR.len {t : List Nat} (h : GenR t) : t.length ≤ 12 := by
  obtain ⟨L, h1, h2, h3, h4⟩ := h
  have := joinL_len (c := 46) (B := 1) L fun l hl => abc_len (h3 l hl)
  rcases h4 with rfl | rfl | ⟨_, rfl⟩
  · omega
  · simp only [List.length_cons]; omega
  · simp only [List.length_cons]; omega
end Kb
namespace Kb
open PySem PySem.Spec PyProof.Rows L2
theorem Same.seqT {K : PySem.W.Frag} {a : Addr} {H H' : Hp} {xs : List V} (k : Same H H') (h : SqT K H a xs) : SqT K H' a xs := by
  rcases h with (h | ⟨o, h⟩) | h
  · exact .inl (.inl (k _ _ h))
  · exact .inl (.inr ⟨o, k _ _ h⟩)
  · exact .inr h
theorem Keep.seqT {K : PySem.W.Frag} {d a : Addr} {H H' : Hp} {xs : List V} (k : Keep d H H') (n : a ≠ d) (h : SqT K H a xs) : SqT K H' a xs := by
  rcases h with (h | ⟨o, h⟩) | h
  · exact .inl (.inl (k _ _ h n))
  · exact .inl (.inr ⟨o, k _ _ h n⟩)
  · exact .inr h
end Kb
namespace Kb
open PySem PySem.Spec PyProof.Rows L2 TL PySem.StrLaws Builtin.Str
theorem cutS_from (z : Str) {i : Int} (h : 0 ≤ i) : tl (cutS z (some i) none) = (tl z).drop i.toNat := by
  obtain ⟨k, rfl⟩ : ∃ k : Nat, i = (k : Int) := ⟨i.toNat, by omega⟩
  show ((tl z).drop (HT.sIx z.length 0 (some (k : Int)))).take (HT.sIx z.length z.length none - HT.sIx z.length 0 (some (k : Int))) = _
  rw [HT.sIx_none, HT.sIx_nat, Int.toNat_natCast, len_tl]
  rw [List.take_of_length_le (by rw [List.length_drop] <;> omega)]
  rcases Nat.le_total k (tl z).length with g | g
  · rw [Nat.min_eq_left g]
  · rw [Nat.min_eq_right g, List.drop_of_length_le (Nat.le_refl _), List.drop_of_length_le g]
end Kb
namespace Kb
open PySem PySem.Spec PyProof.Rows L2 TL
def RulesOK (rs : List Str) : Prop := rs.Nodup ∧ ∀ r ∈ rs, ruleB (tl r) = true ∧ r.length ≤ 1000
end Kb
namespace Kb
open PySem PySem.Spec PyProof.Rows L2 TL
theorem abc_at {r : Int} (h0 : 0 ≤ r) (h1 : r < 3) : ∃ c : Nat, atI ("abc" : Str).cps.toList r = some c ∧ abc (tl (⟨#[c]⟩ : Str)) := by
  rcases (by omega : r = 0 ∨ r = 1 ∨ r = 2) with rfl | rfl | rfl
  · exact ⟨97, by decide +kernel, .inl rfl⟩
  · exact ⟨98, by decide +kernel, .inr (.inl rfl)⟩
  · exact ⟨99, by decide +kernel, .inr (.inr rfl)⟩
theorem words_join (W : List Str) : tl (Txt.join ("." : Str) W) = joinL [46] (W.map tl) := by rw [join_tl, tl_dot]
theorem words_len {W : List Str} {B : Nat} (h : ∀ x ∈ W, (tl x).length ≤ B) : (W.map (·.length)).sum ≤ W.length * B :=
  PySem.StrLaws.sumLen_le (B := B) W fun w hw => by rw [len_tl]; exact h w hw
end Kb
namespace Kb
open PySem PySem.Spec PyProof.Rows L2 TL
theorem Keep.newer {d L : Addr} {H H' : Hp} (k : Keep d H H') (n : L ≠ d) (h : H' L = none) : H L = none := by
  cases e : H L with
  | none => rfl
  | some o => rw [k _ _ e n] at h; cases h
theorem Same.newer {L : Addr} {H H' : Hp} (k : Same H H') (h : H' L = none) : H L = none := by
  cases e : H L with
  | none => rfl
  | some o => rw [k _ _ e] at h; cases h
theorem in_strs {r : Str} {L : List Str} : inV (.str r) (L.map V.str) = decide (r ∈ L) := by
  unfold inV
  rw [Bool.eq_iff_iff, List.any_eq_true, decide_eq_true_eq]
  constructor
  · rintro ⟨v, hv, q⟩
    obtain ⟨x, hx, rfl⟩ := List.mem_map.mp hv
    have : x = r := by simpa [eqV] using q
    exact this ▸ hx
  · intro h
    exact ⟨.str r, List.mem_map.mpr ⟨r, h, rfl⟩, by simp [eqV]⟩
theorem flat_strs (L : List Str) : (L.map V.str).all flatV = true := by
  rw [List.all_eq_true]
  intro v hv
  obtain ⟨x, _, rfl⟩ := List.mem_map.mp hv
  rfl
end Kb
namespace Kb
open PySem PySem.Spec PyProof.Rows L2 TL
/-! ### hosts of small labels -/
theorem host_facts {w : List (List Nat)} {t : Str} (hw : w ≠ []) (hl : w.length ≤ 10) (ha : ∀ l ∈ w, wlab l = true) (e : tl t = joinL [46] w) :
    hostB (tl t) = true ∧ addrB (tl t) = false ∧ sp1 46 (tl t) = w ∧ t.length ≤ 50 := by
  have h : HostW 10 t := ⟨w, hw, hl, ha, e⟩
  have h1 := h.host (Nat.le_refl 10)
  have h2 := h.len
  refine ⟨h1.1, ?_, by rw [e, sp1_joinL hw fun p hp => dot_free (wlab_lab (ha p hp)).1], by omega⟩
  unfold addrB
  rw [h1.2, Bool.and_false]
theorem fit_last {w : List (List Nat)} {k : Nat} {h d : List Nat} (e1 : sp1 46 h = w) (e2 : sp1 46 d = lastN k w) (hk : k ≤ w.length) (ha : addrB h = false) : fitB h d = true := by
  have hd : (sp1 46 d).length = k := by rw [e2, lastN_len, Nat.min_eq_left hk]
  have := (sp1_suffix 46 h d).mp ⟨by rw [hd, e1]; exact hk, by rw [e1, hd, e2]; rfl⟩
  unfold fitB
  rw [ha]
  rcases this with q | q
  · rw [decide_eq_true q]; rfl
  · rw [List.isSuffixOf_iff_suffix.mpr q]; simp
theorem famL_len {rs w : List (List Nat)} (hr : ∀ t ∈ rs, ruleB t = true) (hw : w ≠ []) : famL rs w = lastN (famL rs w).length w ∧ 1 ≤ (famL rs w).length ∧ (famL rs w).length ≤ w.length := by
  have h0 : 0 < w.length := List.length_pos_iff.mpr hw
  have := sufN_ge hr hw
  have e := famL_eq hr hw
  have el : (famL rs w).length = min (sufN rs w + 1) w.length := by rw [e, lastN_len]
  refine ⟨?_, by omega, by omega⟩
  rw [el, lastN_min]; exact e
theorem lastN_ne {α : Type} {k : Nat} {w : List α} (h1 : 1 ≤ k) (h2 : w ≠ []) : lastN k w ≠ [] := fun q => by
  have := lastN_len k w
  have h0 : 0 < w.length := List.length_pos_iff.mpr h2
  rw [q, List.length_nil] at this
  omega
theorem lastN_map {α β : Type} (f : α → β) (k : Nat) (w : List α) : (lastN k w).map f = lastN k (w.map f) := by
  unfold lastN; rw [List.map_drop, List.length_map]
/-- a rule that asks a label before the host -/
theorem zrule {w : List (List Nat)} {t : List Nat} {rs : List (List Nat)} (hw : w ≠ []) (ha : ∀ l ∈ w, abc l) (e : t = 122 :: 46 :: joinL [46] w) (u : List (List Nat)) (hu : u.length ≤ w.length) :
    ruleB t = true ∧ sufN (rs ++ [t]) u = sufN rs u := by
  have hx : excT t = false := by rw [e]; rfl
  have hp : patL t = [122] :: w := by
    unfold patL patT
    rw [hx, e]
    show sp1 46 ([122] ++ 46 :: joinL [46] w) = _
    rw [sp1_app, abc_sp1 hw ha]; rfl
  constructor
  · unfold ruleB
    rw [hx, e]
    have : [42, 46].isPrefixOf (122 :: 46 :: joinL [46] w) = false := rfl
    rw [this]
    simp only [Bool.false_eq_true, if_false]
    show (sp1 46 ([122] ++ 46 :: joinL [46] w)).all labB = true
    rw [sp1_app, abc_sp1 hw ha, List.all_append, Bool.and_eq_true]
    exact ⟨by decide +kernel, List.all_eq_true.mpr fun l hl => abc_lab (ha l hl)⟩
  · refine sufN_snoc ?_
    rw [hp]
    unfold mtL
    rw [decide_eq_false (by rw [List.length_cons]; omega)]; rfl
theorem below_ok {rs : List (List Nat)} (h : ∀ t ∈ rs, GenR t) : ∀ t ∈ rs, excT t = true → (patL t).head? ≠ some [42] ∧ [121] ∉ patL t := fun t ht hx => by
  obtain ⟨h1, h2⟩ := (h t ht).exc hx
  exact ⟨h1, fun q => by rcases h2 _ q with r | r | r <;> simp at r⟩
end Kb

namespace Kb
open PySem PySem.Spec PyProof.Rows L2 TL PySem.Builtin PySem.Builtin.Str
/-! ### what is stripped away of a text at both ends -/
theorem strip_none (x g : Str) : (Txt.stripChars x g = ("" : Str)) ↔ ∀ c ∈ tl x, c ∈ tl g := by
  unfold Txt.stripChars
  rw [stripBy_eq]
  have hc : ∀ c, g.cps.contains c = true ↔ c ∈ tl g := fun c => by
    unfold tl
    rw [← Array.contains_toList, List.contains_iff_mem]
  obtain ⟨l1, l2, l3⟩ := lo_facts g.cps.contains x
  obtain ⟨h1, h2, h3, h4⟩ := hi_facts g.cps.contains x _ l1
  generalize stripLo g.cps.contains true x = lo at *
  generalize stripHi g.cps.contains true x lo = hi at *
  have hx : x.length = (tl x).length := len_tl x
  have e0 : (strSub x lo hi = ("" : Str)) ↔ hi = lo := by
    constructor
    · intro e
      have : (strSub x lo hi).length = 0 := by rw [e]; decide +kernel
      simp [strSub, Str.length] at this
      have hx' : x.length = x.cps.size := rfl
      omega
    · intro e
      subst e
      apply ext_tl
      simp [strSub, tl]
      decide +kernel
  rw [e0]
  have gd : ∀ k, k < x.length → ∃ c, (tl x)[k]? = some c ∧ x.cps.getD k 0 = c := fun k hk => by
    refine ⟨x.cps.getD k 0, ?_, rfl⟩
    have hk' : k < x.cps.size := hk
    simp [tl, Array.getD, hk']
  constructor
  · intro e c hm
    obtain ⟨k, hk⟩ := List.mem_iff_getElem?.mp hm
    have hl : k < (tl x).length := by
      rw [List.getElem?_eq_some_iff] at hk
      exact hk.1
    rw [← hx] at hl
    obtain ⟨c', e1, e2⟩ := gd k hl
    rw [hk] at e1
    cases e1
    rw [← hc]
    by_cases q : k < lo
    · have := l2 k q; rw [e2] at this; exact this
    · have := h3 k (by omega) hl; rw [e2] at this; exact this
  · intro al
    have al' : ∀ k, k < x.length → g.cps.contains (x.cps.getD k 0) = true := fun k hk => by
      obtain ⟨c, e1, e2⟩ := gd k hk
      rw [e2, hc]
      exact al c (List.mem_of_getElem? e1)
    by_cases q : lo = x.length
    · omega
    · have := l3.resolve_left q
      rw [al' lo (by omega)] at this
      cases this
theorem strip_only (x g : Str) : (!decide (V.str x = V.str ("" : Str)) && decide (V.str (Txt.stripChars x g) = V.str ("" : Str))) = onlyB (tl g) (tl x) := by
  unfold onlyB
  rw [Bool.eq_iff_iff, Bool.and_eq_true, Bool.and_eq_true, Bool.not_eq_true', decide_eq_true_eq, decide_eq_true_eq, decide_eq_false_iff_not, List.all_eq_true]
  have e1 : (V.str x = V.str ("" : Str)) ↔ tl x = [] := ⟨fun q => by rw [V.str.inj q]; decide +kernel, fun q => by rw [show x = ("" : Str) from ext_tl (by rw [q]; decide +kernel)]⟩
  have e2 : (V.str (Txt.stripChars x g) = V.str ("" : Str)) ↔ ∀ c ∈ tl x, c ∈ tl g := by
    rw [← strip_none]
    exact ⟨fun q => V.str.inj q, fun q => by rw [q]⟩
  rw [e1, e2]
  constructor
  · rintro ⟨a, b⟩; exact ⟨fun c hc => decide_eq_true (b c hc), a⟩
  · rintro ⟨a, b⟩; exact ⟨b, fun c hc => of_decide_eq_true (a c hc)⟩
end Kb

namespace Kb
open PySem PySem.Spec PyProof.Rows L2 TL PySem.StrLaws PySem.Builtin PySem.Builtin.Str
/-! ### both ends trimmed, a text cut at a sign: the whole answers -/
def trimF (f : Nat → Bool) (l : List Nat) : List Nat := ((l.dropWhile f).reverse.dropWhile f).reverse
theorem dropWhile_all {f : Nat → Bool} : ∀ {p : List Nat} (s : List Nat), (∀ c ∈ p, f c = true) → (p ++ s).dropWhile f = s.dropWhile f
  | [], _, _ => rfl
  | x :: p, s, h => by
    rw [List.cons_append, List.dropWhile_cons, if_pos (h x (List.mem_cons_self ..)), dropWhile_all s fun c hc => h c (List.mem_cons_of_mem _ hc)]
theorem dropWhile_stop {f : Nat → Bool} {x : Nat} {l : List Nat} (h : f x = false) : (x :: l).dropWhile f = x :: l := by rw [List.dropWhile_cons, if_neg (by rw [h]; exact Bool.false_ne_true)]
theorem trim_nil {f : Nat → Bool} {p : List Nat} (h : ∀ c ∈ p, f c = true) : trimF f p = [] := by
  unfold trimF
  have : p.dropWhile f = [] := by have := dropWhile_all [] h; rw [List.append_nil] at this; rw [this]; rfl
  rw [this]; rfl
/-- blanks, a middle with other ends, blanks -/
theorem trim_mid {f : Nat → Bool} {p m s : List Nat} {a b : Nat} (hp : ∀ c ∈ p, f c = true) (hs : ∀ c ∈ s, f c = true) (ha : m.head? = some a) (fa : f a = false) (hb : m.getLast? = some b) (fb : f b = false) : trimF f (p ++ m ++ s) = m := by
  unfold trimF
  rw [List.append_assoc, dropWhile_all _ hp]
  obtain ⟨m', rfl⟩ : ∃ m', m = a :: m' := by
    cases m with
    | nil => cases ha
    | cons x m => cases ha; exact ⟨m, rfl⟩
  rw [List.cons_append, dropWhile_stop fa, ← List.cons_append, List.reverse_append, dropWhile_all _ (fun c hc => hs c (List.mem_reverse.mp hc))]
  obtain ⟨m2, e⟩ : ∃ m2, (a :: m').reverse = b :: m2 := by
    rw [List.getLast?_eq_head?_reverse] at hb
    cases h : (a :: m').reverse with
    | nil => rw [h] at hb; cases hb
    | cons x r => rw [h] at hb; cases hb; exact ⟨r, rfl⟩
  rw [e, dropWhile_stop fb, ← e, List.reverse_reverse]
/-- told by the two places -/
theorem trim_at {f : Nat → Bool} {l : List Nat} {a b : Nat} (hab : a ≤ b) (hb : b ≤ l.length) (h1 : ∀ k, k < a → ∃ c, l[k]? = some c ∧ f c = true) (h2 : ∀ k, b ≤ k → k < l.length → ∃ c, l[k]? = some c ∧ f c = true)
    (h3 : a = l.length ∨ ∃ c, l[a]? = some c ∧ f c = false) (h4 : b = a ∨ ∃ c, l[b - 1]? = some c ∧ f c = false) : trimF f l = (l.drop a).take (b - a) := by
  have hp : ∀ c ∈ l.take a, f c = true := fun c hc => by
    obtain ⟨k, hk⟩ := List.mem_iff_getElem?.mp hc
    have h := (List.getElem?_eq_some_iff.mp hk).1
    rw [List.length_take] at h
    rw [List.getElem?_take, if_pos (by omega)] at hk
    obtain ⟨c', e, g⟩ := h1 k (by omega)
    rw [hk] at e; cases e; exact g
  have hs : ∀ c ∈ l.drop b, f c = true := fun c hc => by
    obtain ⟨k, hk⟩ := List.mem_iff_getElem?.mp hc
    have h := (List.getElem?_eq_some_iff.mp hk).1
    rw [List.length_drop] at h
    rw [List.getElem?_drop] at hk
    obtain ⟨c', e, g⟩ := h2 (b + k) (by omega) (by omega)
    rw [hk] at e; cases e; exact g
  have el : l = l.take a ++ (l.drop a).take (b - a) ++ l.drop b := by
    rw [List.append_assoc]
    have : (l.drop a).take (b - a) ++ l.drop b = l.drop a := by
      conv => rhs; rw [← List.take_append_drop (b - a) (l.drop a)]
      rw [List.drop_drop, show a + (b - a) = b by omega]
    rw [this, List.take_append_drop]
  by_cases hm : b = a
  · subst hm
    rw [Nat.sub_self, List.take_zero]
    refine trim_nil fun c hc => ?_
    rw [el, Nat.sub_self, List.take_zero, List.append_nil] at hc
    rcases List.mem_append.mp hc with q | q
    · exact hp c q
    · exact hs c q
  · obtain ⟨x, e1, g1⟩ : ∃ c, l[a]? = some c ∧ f c = false := by
      rcases h3 with h | h
      · omega
      · exact h
    obtain ⟨y, e2, g2⟩ := h4.resolve_left hm
    conv => lhs; rw [el]
    refine trim_mid hp hs (a := x) (b := y) ?_ g1 ?_ g2
    · rw [List.head?_take, if_neg (by omega), List.head?_drop]; exact e1
    · have hlen : ((l.drop a).take (b - a)).length = b - a := by rw [List.length_take, List.length_drop]; omega
      rw [List.getLast?_eq_getElem?, hlen, List.getElem?_take, if_pos (by omega), List.getElem?_drop, show a + (b - a - 1) = b - 1 by omega]
      exact e2
theorem strip_trim (x g : Str) : tl (Txt.stripChars x g) = trimF (fun c => decide (c ∈ tl g)) (tl x) := by
  unfold Txt.stripChars
  rw [stripBy_eq]
  have hc : ∀ c, g.cps.contains c = decide (c ∈ tl g) := fun c => by
    unfold tl
    rw [Bool.eq_iff_iff, decide_eq_true_eq, ← Array.contains_toList, List.contains_iff_mem]
  obtain ⟨l1, l2, l3⟩ := lo_facts g.cps.contains x
  obtain ⟨h1, h2, h3, h4⟩ := hi_facts g.cps.contains x _ l1
  show tl (strSub x (stripLo g.cps.contains true x) (stripHi g.cps.contains true x (stripLo g.cps.contains true x))) = _
  generalize stripLo g.cps.contains true x = lo at *
  generalize stripHi g.cps.contains true x lo = hi at *
  have hx : x.length = (tl x).length := len_tl x
  have gd : ∀ k, k < x.length → ∃ c, (tl x)[k]? = some c ∧ x.cps.getD k 0 = c := fun k hk => by
    refine ⟨x.cps.getD k 0, ?_, rfl⟩
    have hk' : k < x.cps.size := hk
    simp [tl, Array.getD, hk']
  have pos : ∀ k, k < x.length → g.cps.contains (x.cps.getD k 0) = true → ∃ c, (tl x)[k]? = some c ∧ decide (c ∈ tl g) = true := fun k hk h => by
    obtain ⟨c, e1, e2⟩ := gd k hk
    exact ⟨c, e1, by rw [← hc, ← e2]; exact h⟩
  have neg : ∀ k, k < x.length → g.cps.contains (x.cps.getD k 0) = false → ∃ c, (tl x)[k]? = some c ∧ decide (c ∈ tl g) = false := fun k hk h => by
    obtain ⟨c, e1, e2⟩ := gd k hk
    exact ⟨c, e1, by rw [← hc, ← e2]; exact h⟩
  rw [tl_strSub]
  refine (trim_at h1 (by omega) (fun k hk => pos k (by omega) (l2 k hk)) (fun k hk hk2 => pos k (by omega) (h3 k hk (by omega))) ?_ ?_).symm
  · by_cases q : lo = x.length
    · exact .inl (by omega)
    · exact .inr (neg lo (by omega) (l3.resolve_left q))
  · by_cases q : hi = lo
    · exact .inl q
    · exact .inr (neg (hi - 1) (by omega) (h4.resolve_left q))
/-- a text at its first c -/
theorem find_sign (x : Str) (c : Nat) : Txt.find x ⟨#[c]⟩ = (if c ∈ tl x then (((tl x).takeWhile fun s => !decide (s = c)).length : Int) else -1) := by
  have hy : tl (⟨#[c]⟩ : Str) ≠ [] := by simp [tl]
  have at' : ∀ i, At x ⟨#[c]⟩ x.length i ↔ (tl x)[i]? = some c := fun i => by
    rw [at_iff hy]
    show (((tl x).drop i).take 1 == [c]) = true ↔ _
    exact take1_drop
  rcases find_whole x ⟨#[c]⟩ with ⟨e, h⟩ | ⟨i, e, h1, h2⟩
  · rw [e, if_neg]
    intro hm
    obtain ⟨k, hk⟩ := List.mem_iff_getElem?.mp hm
    exact h k ((at' k).mpr hk)
  · have g := (at' i).mp h1
    rw [e, if_pos (List.mem_of_getElem? g)]
    congr 1
    have hlt := (List.getElem?_eq_some_iff.mp g).1
    have no : ∀ k, k < i → (tl x)[k]? ≠ some c := fun k hk q => h2 k hk ((at' k).mpr q)
    have : ∀ (l : List Nat) (i : Nat), l[i]? = some c → (∀ k, k < i → l[k]? ≠ some c) → i = (l.takeWhile fun s => !decide (s = c)).length := by
      intro l
      induction l with
      | nil => intro i h; simp at h
      | cons a l ih =>
        intro i h n
        cases i with
        | zero => simp at h; rw [h]; simp
        | succ i =>
          have ha : a ≠ c := fun q => n 0 (by omega) (by rw [q]; rfl)
          rw [List.takeWhile_cons, if_pos (by simp [ha]), List.length_cons, ih i (by simpa using h) fun k hk => by simpa using n (k + 1) (by omega)]
    exact this _ _ g no
theorem partition_full (x : Str) (c : Nat) : (c ∈ tl x → tl (Txt.partition x ⟨#[c]⟩).1 = (tl x).takeWhile (fun s => !decide (s = c)) ∧ (Txt.partition x ⟨#[c]⟩).2.1 = ⟨#[c]⟩ ∧ tl (Txt.partition x ⟨#[c]⟩).2.2 = (tl x).drop (((tl x).takeWhile (fun s => !decide (s = c))).length + 1)) ∧
    (c ∉ tl x → (Txt.partition x ⟨#[c]⟩).1 = x ∧ (Txt.partition x ⟨#[c]⟩).2.1 = "" ∧ (Txt.partition x ⟨#[c]⟩).2.2 = "") := by
  have fs := find_sign x c
  unfold Txt.find at fs
  unfold Txt.partition
  cases ho : occurrences x ⟨#[c]⟩ 0 x.length 1 with
  | nil =>
    rw [ho] at fs
    refine ⟨fun h => ?_, fun h => ⟨rfl, rfl, rfl⟩⟩
    rw [if_pos h] at fs
    simp only at fs; omega
  | cons j r =>
    rw [ho] at fs
    refine ⟨fun h => ?_, fun h => ?_⟩
    · rw [if_pos h] at fs
      have hj : j = ((tl x).takeWhile (fun s => !decide (s = c))).length := Int.ofNat_inj.mp fs
      refine ⟨?_, rfl, ?_⟩
      · show tl (strSub x 0 j) = _
        rw [tl_strSub, hj, List.drop_zero, Nat.sub_zero]
        conv => lhs; rw [← List.takeWhile_append_dropWhile (p := fun s => !decide (s = c)) (l := tl x), List.take_left' (by rw [List.takeWhile_append_dropWhile])]
      · show tl (strSub x (j + 1) x.length) = _
        rw [tl_strSub, hj, len_tl, List.take_of_length_le (by rw [List.length_drop]; exact Nat.le_refl _)]
    · rw [if_neg h] at fs
      simp only at fs; omega
end Kb

namespace Kb
open PySem PySem.Spec PyProof.Rows L2 TL PySem.Calls PySem.NumText
/-! ### int(text) up to 4,300 signs: the setting is read in the written part -/
theorem nodigits_of {K : PySem.W.Frag} {h : Heap} (X : K.In h) (hl : h.NoLimit) (e : PySem.W.nsIn K cStatics "sys.int_max_str_digits" = some none) : h.NoDigits := by
  obtain ⟨mc, ns, _⟩ := hl
  refine ⟨mc, ns, ?_⟩
  obtain ⟨o, es, ep, ho, hd, _, hf⟩ := ns
  unfold PySem.W.nsIn at e
  split at e
  rotate_left
  · cases e
  · next q =>
    have z := X _ _ q
    rw [ho] at z
    cases z
    cases hd
    split at e
    · cases e
    · next g =>
      have g2 : nsFind es "sys.int_max_str_digits" = none := by unfold nsFind findBy; rw [← Array.find?_toList, g]; rfl
      exact (hf _).symm.trans g2
theorem wp_digitsMax {M : Model} {A : Around} {E : Value → Shared → Prop} {s : Shared} {Q : Nat → Shared → Prop} (hn : s.heap.NoDigits) (h : Q 4300 s) : wpAny M A PySem.Builtin.intMaxStrDigits Q E s := by
  obtain ⟨mc, ns, e⟩ := hn
  unfold PySem.Builtin.intMaxStrDigits
  refine wpAny_bind (wpAny_nsGet ns ?_)
  rw [e]
  exact wpAny_pure h
theorem wp_longText {M : Model} {A : Around} {E : Value → Shared → Prop} {s : Shared} {Q : Value → Shared → Prop} {v : Value} {t : List Nat} {n : Int} (hn : s.heap.NoDigits)
    (hs : ¬ (t.takeWhile (· != 0)).length ≤ 640) (hr : (int_private% "readNumeral") 4300 10 (t.takeWhile (· != 0)) = (int_private% "Numeral.value") n)
    (ha : ((t.takeWhile (· != 0)).length == t.length) = true) (h : Q (.int n s.toks) { s with toks := s.toks + 1 }) :
    wpAny M A ((int_private% "intFromText") v t 10) Q E s := by
  obtain ⟨hp, g, d, tk, os⟩ := s
  repeat (any_goals (first | assumption | (with_reducible refine wpAny_ite_false (decide_eq_false hs) ?_) | (with_reducible refine wp_digitsMax hn ?_) | wp_step))
  all_goals (try rw [hr])
  all_goals (try dsimp only)
  repeat (any_goals (first | assumption | (with_reducible refine wpAny_ite_true (decide_eq_true ha) ?_) | wp_step))
theorem meets_longText {x : Str} {u : Tok} {n : Int} (hl : ¬ (numSeenOf x).length ≤ 640) (hz : x.length ≤ sizeLine) (hn : PySem.intText? x = some n) :
    Meets (PySem.Builtin.«int.__new__» ⟨[.type "int", .str x u], []⟩) (fun _ R s => s.heap.NoDigits ∧ R (.ok (.ret (.int n s.toks))) { s with toks := s.toks + 1 }) := by
  intro prog w A R s ⟨hd, h⟩
  have hr : (int_private% "readNumeral") 4300 10 (numSeenOf x) = (int_private% "Numeral.value") n ∧ ((numSeenOf x).length == (numTextOf x).length) = true := by
    rcases read4300 x hz with ⟨m, h1, h2, h3⟩ | ⟨h1, _⟩
    · rw [hn] at h1
      cases h1
      exact ⟨h3, h2⟩
    · rw [hn] at h1; cases h1
  have hk := PySem.W.KIN.Hid.mk (And.intro hl hr)
  obtain ⟨hp, g, d, tk, os⟩ := s
  have f1 := F.conv_sub_int
  have f2 := F.madeHere_int
  have f3 := PySem.W.KIN.str_int
  have f4 := PySem.W.KIN.str_idx
  have f5 := PySem.W.KIN.str_trunc
  have f6 : typeOf (.str x u) = pure (.type "str") := rfl
  clear hl hr hn hz
  repeat (any_goals (first | assumption | ((with_reducible show wpAny _ _ ((int_private% "intFromText") _ _ _) _ _ _); refine wp_longText hd hk.out.1 hk.out.2.1 hk.out.2.2 ?_) | wp_step))
section
variable {X : Cx}
/-- int(text), up to 4,300 signs -/
theorem call_int_strL (hd : PySem.W.nsIn X.K cStatics "sys.int_max_str_digits" = some none) : CallR X (.type "int") (fun xs H Q => ∃ a n, xs = [.str a] ∧ PySem.intText? a = some n ∧ a.length ≤ sizeLine ∧ (a.length ≤ 640 ∨ ¬ (numSeenOf a).length ≤ 640) ∧ Q (.int n) H) := by
  intro pins s σ H xs us Q I rs h
  obtain ⟨a, n, rfl, hn, hl, q, h⟩ := h
  cases rs with
  | cons r1 rs =>
    cases rs
    obtain ⟨t, rfl⟩ := r1
    rcases q with q | q
    · exact PySem.W.KIN.call_text hn q ⟨.int n, H, I.tok _, ⟨_, rfl⟩, h⟩
    · exact call_int_1 (meets_longText q hl hn) ⟨nodigits_of I.kIn I.nolimit hd, show _ ∧ _ from ⟨rfl, ⟨.int n, H, I.tok _, ⟨_, rfl⟩, h⟩⟩⟩
end
/-! ### the number of a text of digits, with a sign perhaps -/
theorem int_dig4 {x : Str} (h : digB (tl x) = true) (hl : x.length ≤ 4300) : intText? x = some ((NumText.digitsVal (tl x) : Nat) : Int) := intText_digits (digB_iff.mp h).1 (digB_iff.mp h).2 hl
theorem int_neg4 {x : Str} {l : List Nat} (e : tl x = 45 :: l) (h : digB l = true) (hl : x.length ≤ 4300) : intText? x = some (-((NumText.digitsVal l : Nat) : Int)) := intText_neg e (digB_iff.mp h).1 (digB_iff.mp h).2 hl
theorem seen_signs {x : Str} (h : ∀ c ∈ tl x, c = 45 ∨ (48 ≤ c ∧ c ≤ 57)) : (numSeenOf x).length = x.length := by
  rw [(numText_signs h).2]; exact (len_tl x).symm
end Kb

namespace Kb
open PySem PySem.Spec PyProof.Rows L2 TL
/-! ### a table of the module: text keys, values that a reading knows -/
def lookL : List (Str × V) → Str → Option V
  | [], _ => none
  | p :: r, z => if p.1 = z then some p.2 else lookL r z
def KeysAre : List DictEntry → List (Str × V) → Prop
  | [], [] => True
  | e :: r, p :: l => (∃ t, e.key = .str p.1 t) ∧ RelV p.2 e.val ∧ KeysAre r l
  | _, _ => False
theorem refKey_str {e : DictEntry} {x : Str} {t : Tok} (h : e.key = .str x t) : e.refKey = false := by
  unfold DictEntry.refKey; rw [h]
theorem keysAre_ref : ∀ {es : List DictEntry} {l : List (Str × V)}, KeysAre es l → es.any (·.refKey) = false
  | [], [], _ => rfl
  | e :: r, p :: l, ⟨⟨t, h1⟩, _, h3⟩ => by rw [List.any_cons, refKey_str h1, keysAre_ref h3]; rfl
theorem keysAre_find (z : Str) : ∀ {es : List DictEntry} {l : List (Str × V)}, KeysAre es l → (lookL l z = none ∧ es.find? (·.key.isStr z) = none) ∨ ∃ v e, lookL l z = some v ∧ es.find? (·.key.isStr z) = some e ∧ RelV v e.val
  | [], [], _ => .inl ⟨rfl, rfl⟩
  | e :: r, p :: l, ⟨⟨t, h1⟩, h2, h3⟩ => by
    by_cases hz : p.1 = z
    · refine .inr ⟨p.2, e, ?_, ?_, h2⟩
      · simp [lookL, hz]
      · rw [List.find?_cons]; simp [h1, Value.isStr, hz]
    · have e1 : lookL (p :: l) z = lookL l z := by simp [lookL, hz]
      have e2 : (e :: r).find? (·.key.isStr z) = r.find? (·.key.isStr z) := by
        have hb : e.key.isStr z = false := by rw [h1]; show (p.1 == z) = false; exact beq_eq_false_iff_ne.mpr hz
        rw [List.find?_cons]; simp only [hb]
      rw [e1, e2]; exact keysAre_find z h3
def Tabl (K : PySem.W.Frag) (w : World) (l : List (Str × V)) (d : Addr) : Prop := ∃ es n, KDict K w d es n ∧ KeysAre es.toList l
theorem Tabl.look {K : PySem.W.Frag} {w : World} {l : List (Str × V)} {d : Addr} {es : Array DictEntry} {n : Nat} (D : KDict K w d es n) (h : KeysAre es.toList l) (z : Str) :
    (lookL l z = none ∧ PySem.W.nsIn K d z = some none) ∨ ∃ v u, lookL l z = some v ∧ PySem.W.nsIn K d z = some (some u) ∧ RelV v u := by
  have hr := keysAre_ref h
  unfold PySem.W.nsIn
  rw [D.at_]
  rcases keysAre_find z h with ⟨h1, h2⟩ | ⟨v, e, h1, h2, h3⟩
  · refine .inl ⟨h1, ?_⟩
    simp only [h2, hr]; rfl
  · refine .inr ⟨v, e.val, h1, ?_, h3⟩
    simp only [h2]
def Tab (K : PySem.W.Frag) (w : World) (mg : Str → Option Value) (x : Str) (l : List (Str × V)) : Prop := ∃ d, mg x = some (.ref d) ∧ Tabl K w l d
theorem Tab.mk' {K : PySem.W.Frag} {w : World} {mg : Str → Option Value} {h : Heap} {x : Str} {l : List (Str × V)} {d : Addr} {es : Array DictEntry} {n : Nat} (X : K.In h) (G : h.Ns PySem.mainGlobals mg) (a : PySem.W.nsIn K PySem.mainGlobals x = some (some (.ref d)))
    (at_ : K.lookup d = some ⟨.type "dict", none, .dict es n, #[]⟩) (lit : PySem.W.KeysLit w.params es.toList) (low : (d == sysModules) = false) (ka : KeysAre es.toList l) : Tab K w mg x l :=
  ⟨d, PySem.W.mg_of X G a, es, n, ⟨at_, lit, low⟩, ka⟩
theorem tupIdx_mk {K : PySem.W.Frag} {mg : Str → Option Value} {x : Str} {a : Addr} {its : Array Value} {n : Nat} {sl : Array (Option Value)} (h : mg x = some (.ref a)) (l : K.lookup a = some ⟨.type "tuple", none, .seq its n, sl⟩) :
    ∃ a o, mg x = some (.ref a) ∧ K.lookup a = some o ∧ o.cls = .type "tuple" ∧ o.dict = none := ⟨a, _, h, l, rfl, rfl⟩
def rInTab (l : List (Str × V)) (d : Addr) (neg : Bool) : R2 := fun x y H Q => ∃ z, x = .str z ∧ y = .ref d ∧ Q (.bl ((lookL l z).isSome != neg)) H
section
variable {X : Cx} {d : Addr} {l : List (Str × V)}
theorem op_inTab (T : Tabl X.K X.w l d) : OpR X (compareOp .In) (rInTab l d false) := by
  obtain ⟨es, n, D, ka⟩ := T
  intro pins s σ H x y v u Q I rx ry h
  obtain ⟨z, rfl, rfl, q⟩ := h
  refine op_in_kd D pins s σ H _ _ v u Q I rx ry ?_
  rcases Tabl.look D ka z with ⟨h1, h2⟩ | ⟨v, u, h1, h2, _⟩
  · rw [h1] at q; exact ⟨z, none, rfl, rfl, h2, q⟩
  · rw [h1] at q; exact ⟨z, some u, rfl, rfl, h2, q⟩
theorem op_notInTab (T : Tabl X.K X.w l d) : OpR X (compareOp .NotIn) (rInTab l d true) := by
  obtain ⟨es, n, D, ka⟩ := T
  intro pins s σ H x y v u Q I rx ry h
  obtain ⟨z, rfl, rfl, q⟩ := h
  refine op_notIn_kd D pins s σ H _ _ v u Q I rx ry ?_
  rcases Tabl.look D ka z with ⟨h1, h2⟩ | ⟨v, u, h1, h2, _⟩
  · rw [h1] at q; exact ⟨z, none, rfl, rfl, h2, q⟩
  · rw [h1] at q; exact ⟨z, some u, rfl, rfl, h2, q⟩
def rIxTab (l : List (Str × V)) (d : Addr) : R2 := fun x y H Q => ∃ z v, x = .ref d ∧ y = .str z ∧ lookL l z = some v ∧ Q v H
theorem ix_tab (T : Tabl X.K X.w l d) : IxR X (rIxTab l d) := by
  obtain ⟨es, n, D, ka⟩ := T
  intro value slice pins s σ H x y v u Q I rx ry h hs
  obtain ⟨z, r, rfl, rfl, hl, q⟩ := h
  refine ix_kdict value slice pins s σ H _ _ v u Q I rx ry ?_ hs
  rcases Tabl.look D ka z with ⟨h1, _⟩ | ⟨v, u, h1, h2, h3⟩
  · rw [h1] at hl; cases hl
  · obtain rfl : v = r := Option.some.inj (h1.symm.trans hl)
    exact ⟨d, z, v, rfl, rfl, ⟨es, n, u, D.at_, D.lit, h2, h3⟩, q⟩
end
end Kb

namespace Kb
open PySem PySem.Spec PyProof.Rows L2 TL
/-! ### paths as lists of signs -/
/-- a sign that a path may have -/
def psign (c : Nat) : Bool := decide (33 ≤ c) && decide (c ≤ 126) && (decide (c ≠ 59) && decide (c ≠ 63) && decide (c ≠ 35)) && decide (c ≠ 37)
def pathB (l : List Nat) : Bool := decide (l.length ≤ 200) && ([47].isPrefixOf l && l.all psign)
def pfB (p q : List Nat) : Bool := decide (p = q) || (q.isPrefixOf p && ([47].isSuffixOf q || p[q.length]? == some 47))
/-- all in front of the last slash, or a slash -/
def dflt (l : List Nat) : List Nat := if joinL [47] (sp1 47 l).dropLast = [] then [47] else joinL [47] (sp1 47 l).dropLast
theorem tl_slash : tl ("/" : Str) = [47] := by decide +kernel
theorem slash_eq : ("/" : Str) = ⟨#[47]⟩ := ext_tl tl_slash
theorem dflt_cut {l a b : List Nat} (e : l = a ++ 47 :: b) (hb : 47 ∉ b) : dflt l = if a = [] then [47] else a := by
  unfold dflt
  have : (sp1 47 l).dropLast = sp1 47 a := by
    rw [e, sp1_app, sp1_of_free hb, List.dropLast_concat]
  rw [this, joinL_sp1]
theorem pathB_len {x : Str} (h : pathB (tl x) = true) : x.length ≤ 200 := by
  unfold pathB at h
  rw [Bool.and_eq_true, decide_eq_true_eq] at h
  rw [len_tl]; exact h.1
theorem pathB_head {x : Str} (h : pathB (tl x) = true) : ∃ r, tl x = 47 :: r := by
  unfold pathB at h
  rw [Bool.and_eq_true, Bool.and_eq_true, List.isPrefixOf_iff_prefix] at h
  obtain ⟨r, e⟩ := h.2.1
  exact ⟨r, e.symm⟩
/-- the signs a, b, the dot and the slash -/
def sgn4 (z : Str) : Bool := (tl z).all fun c => c == 47 || c == 97 || c == 98 || c == 46
def PathQ (m : Nat) (x : Str) : Prop := (∃ r, tl x = 47 :: r) ∧ sgn4 x = true ∧ x.length ≤ m
theorem sgn4_app {x y : Str} (h1 : sgn4 x = true) (h2 : sgn4 y = true) : sgn4 (x ++ y) = true := by
  unfold sgn4 at *
  rw [tl_append, List.all_append, h1, h2]; rfl
theorem PathQ.app {m k : Nat} {x y : Str} (h : PathQ m x) (h2 : sgn4 y = true) (h3 : y.length ≤ k) : PathQ (m + k) (x ++ y) := by
  obtain ⟨⟨r, e⟩, h1, h4⟩ := h
  refine ⟨⟨r ++ tl y, by rw [tl_append, e]; rfl⟩, sgn4_app h1 h2, ?_⟩
  rw [Str.length_append]; omega
theorem PathQ.more {m k : Nat} {x : Str} (h : PathQ m x) (e : m ≤ k) : PathQ k x := ⟨h.1, h.2.1, Nat.le_trans h.2.2 e⟩
theorem PathQ.path {m : Nat} {x : Str} (h : PathQ m x) (e : m ≤ 200) : pathB (tl x) = true := by
  obtain ⟨⟨r, e1⟩, h2, h3⟩ := h
  unfold pathB
  rw [decide_eq_true (by rw [len_tl] at h3; omega), Bool.true_and]
  have a : [47].isPrefixOf (tl x) = true := List.isPrefixOf_iff_prefix.mpr ⟨r, e1.symm⟩
  rw [a, Bool.true_and, List.all_eq_true]
  intro s hs
  unfold sgn4 at h2
  rw [List.all_eq_true] at h2
  have := h2 s hs
  simp only [Bool.or_eq_true, beq_iff_eq] at this
  rcases this with ((rfl | rfl) | rfl) | rfl <;> decide
/-- the default path: a part of it -/
theorem dflt_cases {l r : List Nat} (e : l = 47 :: r) : ∃ a b, l = a ++ 47 :: b ∧ 47 ∉ b ∧ ((a = [] ∧ dflt l = [47]) ∨ (a ≠ [] ∧ dflt l = a)) := by
  obtain ⟨a, b, e2, hb⟩ := last_cut (c := 47) (l := l) (by rw [e]; exact List.mem_cons_self ..)
  refine ⟨a, b, e2, hb, ?_⟩
  by_cases ha : a = []
  · exact .inl ⟨ha, by rw [dflt_cut e2 hb, if_pos ha]⟩
  · exact .inr ⟨ha, by rw [dflt_cut e2 hb, if_neg ha]⟩
theorem dflt_head {l r : List Nat} (e : l = 47 :: r) : ∃ r2, dflt l = 47 :: r2 := by
  obtain ⟨a, b, e2, hb, (⟨ha, h⟩ | ⟨ha, h⟩)⟩ := dflt_cases e
  · exact ⟨[], h⟩
  · rw [h]
    obtain ⟨x, a2, rfl⟩ := List.exists_cons_of_ne_nil ha
    rw [e] at e2
    simp only [List.cons_append, List.cons.injEq] at e2
    exact ⟨a2, by rw [← e2.1]⟩
theorem dflt_sub {l r : List Nat} (e : l = 47 :: r) : (dflt l).length ≤ l.length ∧ ∀ c ∈ dflt l, c ∈ l := by
  obtain ⟨a, b, e2, hb, (⟨ha, h⟩ | ⟨ha, h⟩)⟩ := dflt_cases e
  · rw [h, e]
    exact ⟨by simp, fun c hc => by rw [List.mem_singleton.mp hc]; exact List.mem_cons_self ..⟩
  · rw [h, e2]
    exact ⟨by simp, fun c hc => List.mem_append_left _ hc⟩
theorem dflt_less {l r : List Nat} (e : l = 47 :: r) (h0 : l ≠ [47]) : (dflt l).length < l.length := by
  obtain ⟨a, b, e2, hb, (⟨ha, h⟩ | ⟨ha, h⟩)⟩ := dflt_cases e
  · rw [h, e2, ha]
    cases b with
    | nil => exact absurd (by rw [e2, ha]; rfl) h0
    | cons x b => simp
  · rw [h, e2]; simp
theorem PathQ.dflt {m : Nat} {x y : Str} (h : PathQ m x) (e : tl y = dflt (tl x)) : PathQ m y := by
  obtain ⟨⟨r, e1⟩, h2, h3⟩ := h
  obtain ⟨h4, h5⟩ := dflt_sub e1
  obtain ⟨r2, e2⟩ := dflt_head e1
  refine ⟨⟨r2, by rw [e, e2]⟩, ?_, ?_⟩
  · unfold sgn4 at *
    rw [List.all_eq_true] at *
    intro c hc
    rw [e] at hc
    exact h2 c (h5 c hc)
  · rw [len_tl, e]
    rw [len_tl] at h3
    omega
/-! ### to fit is an order -/
theorem pf_iff {p q : List Nat} : pfB p q = true ↔ p = q ∨ (q <+: p ∧ ((∃ r, q = r ++ [47]) ∨ p[q.length]? = some 47)) := by
  unfold pfB
  rw [Bool.or_eq_true, Bool.and_eq_true, Bool.or_eq_true, decide_eq_true_eq, List.isPrefixOf_iff_prefix, List.isSuffixOf_iff_suffix, beq_iff_eq]
  constructor
  · rintro (h | ⟨h, (⟨r, e⟩ | h2)⟩)
    · exact .inl h
    · exact .inr ⟨h, .inl ⟨r, e.symm⟩⟩
    · exact .inr ⟨h, .inr h2⟩
  · rintro (h | ⟨h, (⟨r, e⟩ | h2)⟩)
    · exact .inl h
    · exact .inr ⟨h, .inl ⟨r, e.symm⟩⟩
    · exact .inr ⟨h, .inr h2⟩
theorem pf_self (p : List Nat) : pfB p p = true := pf_iff.mpr (.inl rfl)
theorem pf_slash {p r : List Nat} (e : p = 47 :: r) : pfB p [47] = true := pf_iff.mpr (.inr ⟨⟨r, e.symm⟩, .inl ⟨[], rfl⟩⟩)
theorem pf_pre {p q : List Nat} (h : pfB p q = true) : q <+: p := by
  rcases pf_iff.mp h with rfl | h
  · exact List.prefix_refl _
  · exact h.1
theorem pf_anti {p q : List Nat} (h : pfB p q = true) (k : pfB q p = true) : p = q := by
  have a := pf_pre h
  have b := pf_pre k
  exact b.eq_of_length (Nat.le_antisymm b.length_le a.length_le)
theorem pre_at {p q : List Nat} (h : q <+: p) {i : Nat} (hi : i < q.length) : p[i]? = q[i]? := by
  obtain ⟨r, rfl⟩ := h
  rw [List.getElem?_append_left hi]
theorem pf_trans {p q r : List Nat} (h : pfB p q = true) (k : pfB q r = true) : pfB p r = true := by
  rcases pf_iff.mp k with rfl | ⟨k1, k2⟩
  · exact h
  have a := pf_pre h
  refine pf_iff.mpr (.inr ⟨k1.trans a, ?_⟩)
  rcases k2 with k2 | k2
  · exact .inl k2
  · have : r.length < q.length := by
      have := (List.getElem?_eq_some_iff.mp k2).1
      exact this
    exact .inr (by rw [pre_at a this]; exact k2)
theorem pf_comp {p q r : List Nat} (h : pfB p q = true) (k : pfB p r = true) (hl : q.length ≤ r.length) : pfB r q = true := by
  have a := pf_pre h
  have b := pf_pre k
  have c : q <+: r := List.prefix_of_prefix_length_le a b hl
  rcases Nat.lt_or_ge q.length r.length with g | g
  · rcases pf_iff.mp h with rfl | ⟨_, h2⟩
    · have := b.length_le
      omega
    · refine pf_iff.mpr (.inr ⟨c, ?_⟩)
      rcases h2 with h2 | h2
      · exact .inl h2
      · exact .inr (by rw [← pre_at b g]; exact h2)
  · exact pf_iff.mpr (.inl (c.eq_of_length (Nat.le_antisymm hl g)).symm)
theorem pf_dflt {p r : List Nat} (e : p = 47 :: r) : pfB p (dflt p) = true := by
  obtain ⟨a, b, e2, hb, (⟨ha, h⟩ | ⟨ha, h⟩)⟩ := dflt_cases e
  · rw [h]; exact pf_slash e
  · rw [h]
    exact pf_iff.mpr (.inr ⟨⟨47 :: b, e2.symm⟩, .inr (by rw [e2]; simp)⟩)
end Kb

namespace Kb
open PySem PySem.Spec PyProof.Rows L2
/-! ### own errors with one field -/
def spInit (K : PySem.W.Frag) (C : Addr) (f : Str) : Sp := fun vs H Q _ => ∃ (a : Addr) (v : V), vs = [.ref a, v] ∧ H a = some (exo a C none) ∧ OexC K C ∧ PySem.W.findIn K (.ref C) f = some none ∧
  ∀ dx, H dx = none → dx ≠ a → Q .non (L2.upd (L2.upd H dx (exd dx [(f, v)])) a (exo a C (some dx)))
/-- what the top has written of such a class -/
structure Err (K : PySem.W.Frag) (mg : Str → Option Value) (cn f : Str) (C : Addr) : Prop where
  T : OexC K C
  X : XfC K C
  g : mg cn = some (.ref C)
  no : PySem.W.findIn K (.ref C) f = some none
  te : PySem.W.exmOne K (.ref C) (.ref C) = some true
  ini : ∃ (fI : Addr) (fd : FuncData), PySem.W.findIn K (.ref C) "__init__" = some (some (.ref fI)) ∧ PySem.W.typeIn K (.ref fI) = some (.type "function") ∧ Binds K fd ["self", f] [] ∧
    ∀ (P : Program) (w : World) (base : Heap), FnOk P w K mg base CX0 1 fI fd ["self", f] (spInit K C f)
/-- C(e) -/
def tErr (C : Addr) (f : Str) (ta : TA) : L2.St → Hp → XK → Prop := fun σ H Q => ta σ H fun vs H1 => ∃ v, vs = [v] ∧ ∀ d, H1 d = none → Q (.ref C) (some d) (L2.upd H1 d (.xd [(f, v)]))
def taMono (t : TA) : TA := fun σ H Q => ∃ Q0 : List V → Hp → Prop, t σ H Q0 ∧ ∀ x H1, Q0 x H1 → Q x H1
theorem pa_mono {X : Cx} {es : List Expr} {t : TA} (h : PA X es t) : PA X es (taMono t) :=
  ⟨fun pos pins s σ H Q I ⟨Q0, h0, m⟩ => thn (h.run pos pins s σ H Q0 I h0) fun us s1 ⟨vs, H1, I1, r1, q1⟩ => ⟨vs, H1, I1, r1, m _ _ q1⟩⟩
theorem upd_del {H : Hp} {a d : Addr} {o1 o2 o3 o4 : HO} (ha : H a = none) (hd : d ≠ a) : L2.upd (del (L2.upd (L2.upd (L2.upd H a o1) d o2) a o3) a) d o4 = L2.upd H d o4 := by
  funext b
  by_cases h1 : b = d
  · subst h1; rw [upd_same, upd_same]
  · rw [upd_ne h1, upd_ne h1]
    by_cases h2 : b = a
    · subst h2; rw [del_same, ha]
    · rw [del_ne h2, upd_ne h2, upd_ne h1, upd_ne h2]
section
variable {X : Cx}
theorem pmk_err {cn f : Str} {C : Addr} {e : Expr} {ta : TA} {p pos : Pos} {k : Nat} (T : Err X.K X.mg cn f C) (hr : Room k X.A) (hk : 2 ≤ k) (hx : Passes CX0 X (fun _ _ _ => False)) (ha : PA X [e] ta) (hg : Gl X cn)
    (hdb : (cn == ("__debug__" : Str)) = false := by decide) (he : starEach (e :: []) X.env = (false, eval e X.env) :: starEach [] X.env := by rfl) (hpl : (backTo pos (starEach [] X.env)).any (·.1) = false := by rfl) :
    PMk X (.Call (.Name cn p) [e] [] pos) (tErr C f ta) := by
  intro pins s σ H Q I h
  obtain ⟨fI, fd, iC, tI, hb, F⟩ := T.ini
  refine pmk_oex (dvs := []) (ds := []) T.T iC tI (F X.prog X.w X.base) (hr.mono hk) hb .nil hx hg T.g (pa_mono ha) hdb he hpl pins s σ H Q I ?_
  refine ⟨_, h, ?_⟩
  rintro vs H1 ⟨v, rfl, hq⟩
  refine ⟨by show 1 ≤ 1000; decide, fun a hn => ⟨a, v, rfl, upd_same, T.T, T.no, fun dx hdx hne => ⟨rfl, dx, [(f, v)], upd_same, ?_, ?_, ?_⟩⟩⟩
  · rw [upd_ne hne, upd_same]
  · rw [upd_ne hne] at hdx; exact hdx
  · rw [upd_ne hne] at hdx
    rw [upd_del hn hne]
    exact hq dx hdx
/-- raise C(e) -/
def tRaise (C : Addr) (f : Str) (W : WX) (ta : TA) : TS := fun _ σ H => tErr C f ta σ H fun cls d H' => W cls d σ H'
theorem ps_raiseE {cn f : Str} {C : Addr} {e : Expr} {ta : TA} {W : WX} {p pos pos2 : Pos} {k : Nat} (hc : X.calm = true) (T : Err X.K X.mg cn f C) (hr : Room k X.A) (hk : 2 ≤ k) (hx : Passes CX0 X (fun _ _ _ => False)) (tk : Takes X W) (ha : PA X [e] ta) (hg : Gl X cn)
    (hdb : (cn == ("__debug__" : Str)) = false := by decide) (he : starEach (e :: []) X.env = (false, eval e X.env) :: starEach [] X.env := by rfl) (hpl : (backTo pos (starEach [] X.env)).any (·.1) = false := by rfl) :
    PS X (.Raise (some (.Call (.Name cn p) [e] [] pos)) none pos2) (tRaise C f W ta) := ps_raise hc tk (pmk_err T hr hk hx ha hg hdb he hpl)
theorem pe_cX {W : WX} {j k : Nat} {x : Str} {ps : List Str} {sp : Sp} {p pos : Pos} {e : Expr} {es : List Expr} {t : TA} (c : Cal X.prog X.w X.K X.mg X.base (L2.CX X.prog X.w) j x ps sp) (hr : Room k X.A) (hjk : j ≤ k) (hg : Gl X x) (tk : Takes X W)
    (ha : PA X (e :: es) t) (hdb : (x == ("__debug__" : Str)) = false := by decide) (he : starEach (e :: es) X.env = (false, eval e X.env) :: starEach es X.env := by rfl) (hpl : (backTo pos (starEach es X.env)).any (·.1) = false := by rfl) :
    PE X (.Call (.Name x p) (e :: es) [] pos) (tCallS sp (WE W) t) := by
  obtain ⟨f, fd, F, m, kp, b⟩ := c
  exact pe_callS F (hr.mono hjk) hg m kp b (fun σ => passAt tk σ) ha hdb he hpl
end
section
variable {P : Program} {w : World} {K : PySem.W.Frag} {mg : Str → Option Value} {base : Heap}
theorem Df.okX {x : Str} {st : Stmt} {N ps : List Str} {k : Nat} {sp : Sp} (D : Df K mg x st ps) (S : FnScope N ps (defScope st)) (len : ∀ vs H Q E, sp vs H Q E → vs.length = ps.length)
    (hbody : ∀ (f : Addr) (cdv : Value) (A : Around) (outer : List Env) (s : Shared) (H : Hp) (vs : List V) (Q : VK) (E : XK), Room k (A.deeper (envOfC x (defScope st) s.heap.objs.size f cdv)) → sp vs H Q E →
      ∃ t, PSs (cxOf (L2.CX P w) P w K mg base N x (defScope st) f cdv A outer s H E) (defBody st) t ∧ t { nx := fun _ H' => Q .non H', rt := Q } (start N vs) H) : Cal P w K mg base (L2.CX P w) (k + 1) x ps sp := by
  obtain ⟨f, fd, F, m, b⟩ := D
  exact ⟨f, fd, F.okX S len (hbody f), m, F.kp, .all b⟩
end
/-! ### such a class, from the written part -/
theorem exm_own {K : PySem.W.Frag} {S : Addr} (h1 : PySem.W.subIn K (.ref S) (.type "BaseException") = some true) (h2 : PySem.W.isClsIn K S = true) (h3 : PySem.W.typeIn K (.ref S) = some (.type "type")) (h4 : PySem.W.subIn K (.ref S) (.ref S) = some true) :
    PySem.W.exmOne K (.ref S) (.ref S) = some true := by
  unfold PySem.W.isClsIn at h2
  unfold PySem.W.exmOne
  simp only [h1, h2, h3, h4]
  unfold PySem.W.kitCls
  simp [h2, h3, h4]
theorem Err.mk' {K : PySem.W.Frag} {mg : Str → Option Value} {h : Heap} {cn f q0 : Str} {C fI : Addr} {st : Stmt} {nm q : Str} {N : Addr} {bs bm : List Value} {sn : List Str} {sub : List Value} {ab : Bool} {col : Option Bool} {dd : Option Addr} {m0 m1 m2 m3 m5 : Option Value}
    {oc : Value} {od an : Option Addr} {sl : Array (Option Value)} {kV doc pm cd ct : Value} (X : K.In h) (G : h.Ns PySem.mainGlobals mg)
    (b : ∀ (kV doc pm : Value) (an : Option Addr) (cdv ct : Value) (us : List Value), us.length = (["self", f] : List Str).length → bindArgs (PySem.W.fnOf "__init__" q0 (defArgs st) (defBody st) (defScope st) .none kV doc pm an cdv ct) ⟨us, []⟩ = pure ((["self", f] : List Str).zip us))
    (ok : ∀ {fI : Addr} {fd : FuncData} (P : Program) (w : World) (base : Heap), Fun K "__init__" q0 st fI fd → FnOk P w K mg base CX0 1 fI fd ["self", f] (spInit K C f))
    (aC : PySem.W.nsIn K PySem.mainGlobals cn = some (some (.ref C)))
    (xL : K.lookup C = some (excClassObj nm q C N bs bm true sn sub ab col dd m0 m1 m2 m3 m5 "ValueError.__new__")) (rv : PySem.HandSPX.refsVE bm = true)
    (sa : PySem.W.findIn K (.ref C) "__setattr__" = some (some (.builtin "object.__setattr__"))) (ga : PySem.W.findIn K (.ref C) "__getattribute__" = some (some (.builtin "BaseException.__getattribute__"))) (gg : PySem.W.findIn K (.ref C) "__getattr__" = some none) (nb : PySem.W.findIn K (.ref C) f = some none)
    (a1 : PySem.W.findIn K (.ref C) "__init__" = some (some (.ref fI))) (t1 : PySem.W.typeIn K (.ref fI) = some (.type "function"))
    (l1 : K.lookup fI = some ⟨oc, od, .func (PySem.W.fnOf "__init__" q0 (defArgs st) (defBody st) (defScope st) .none kV doc pm an cd ct), sl⟩) (c1 : PySem.W.codeIn K cd q0 = true) (k1 : PySem.W.keepIn K (.ref fI) = true)
    (kC : PySem.W.keepIn K (.ref C) = true) (eC : PySem.W.subIn K (.ref C) (.type "BaseException") = some true) (tC : PySem.W.typeIn K (.ref C) = some (.type "type")) (hC : PySem.W.hasDictIn K C = true) (iC : PySem.W.isClsIn K C = true) (sC : PySem.W.subIn K (.ref C) (.ref C) = some true) : Err K mg cn f C where
  T := ⟨⟨nm, q, N, bs, bm, sn, sub, ab, col, dd, m0, m1, m2, m3, m5, xL, rv⟩, sa, eC, tC, kC⟩
  X := ⟨ga, gg, eC, hC⟩
  g := PySem.W.mg_of X G aC
  no := nb
  te := exm_own eC iC tC sC
  ini := ⟨fI, _, a1, t1, .all (b kV doc pm an cd ct), fun P w base => ok P w base (fun_mk l1 c1 k1)⟩
end Kb
namespace Kb
open PySem PySem.Spec PyProof.Rows L2
/-- nothing is let out -/
theorem passF {P : Program} {w : World} {X : Cx} : Passes (L2.CX P w) X (fun _ _ _ => False) := fun _ _ _ _ _ _ _ h => by
  obtain ⟨_, _, _, _, _, _, _, _, _, _, _, _, q⟩ := h
  exact q.elim
end Kb
namespace Kb
open PySem PySem.Spec PyProof.Rows L2
/-- a tuple of the written part -/
theorem sqT_of_lookup {K : PySem.W.Frag} {a : Addr} {dd : Option Addr} {its : Array Value} {n : Nat} {sl : Array (Option Value)} {xs : List V} (l : K.lookup a = some ⟨.type "tuple", dd, .seq its n, sl⟩) (z : its.size ≤ sizeLine) (v : Vals xs its.toList) : ∀ H : Hp, SqT K H a xs :=
  fun _ => .inr ⟨_, its, n, l, rfl, rfl, z, v⟩
theorem pe_gt {X : Cx} {x : Str} {pos : Pos} {a : Addr} (hg : Gl X x) (h : X.mg x = some (.ref a)) (hd : (x == ("__debug__" : Str)) = false := by decide) : PE X (.Name x pos) (tC (.ref a)) := pe_glob hg h rfl hd
end Kb

namespace Kb
open PySem PySem.Spec PyProof.Rows L2
/-! ### defs that are called while no repr is under way -/
structure FnG (P : Program) (w : World) (K : PySem.W.Frag) (mg : Str → Option Value) (base : Heap) (CX : CXT) (k : Nat) (f : Addr) (fd : FuncData) (ps : List Str) (sp : Sp) : Prop where
  len : ∀ vs H Q E, sp vs H Q E → vs.length = ps.length
  run : ∀ (A : Around) (outer : List Env) (s : Shared) (H : Hp) (args : Args) (us : List Value) (vs : List V) (Q : VK) (E : XK), A.guards = some [] → Room k A → Env0 P w K mg base A outer s H → BindsTo s fd args (ps.zip us) → Vals vs us → sp vs H Q E →
    codeAny (model P w) A (.call (.ref f) args) (CR CX outer P w H s Q E) s
section
variable {P : Program} {w : World} {K : PySem.W.Frag} {mg : Str → Option Value} {base : Heap} {CX : CXT}
theorem FnG.mono {j k : Nat} {f : Addr} {fd : FuncData} {ps : List Str} {sp : Sp} (F : FnG P w K mg base CX j f fd ps sp) (h : j ≤ k) : FnG P w K mg base CX k f fd ps sp :=
  ⟨F.len, fun A outer s H args us vs Q E hg hr => F.run A outer s H args us vs Q E hg (hr.mono h)⟩
theorem fnG_of {k : Nat} {f : Addr} {x qual : Str} {st : Stmt} {fd : FuncData} {N ps : List Str} {sp : Sp} (F : Fun K x qual st f fd) (S : FnScope N ps (defScope st)) (len : ∀ vs H Q E, sp vs H Q E → vs.length = ps.length)
    (hbody : ∀ (cdv : Value) (A : Around) (outer : List Env) (s : Shared) (H : Hp) (vs : List V) (Q : VK) (E : XK), A.guards = some [] → Room k (A.deeper (envOfC qual (defScope st) s.heap.objs.size f cdv)) → sp vs H Q E →
      ∃ t, PSs (cxOf CX P w K mg base N qual (defScope st) f cdv A outer s H E) (defBody st) t ∧ t { nx := fun _ H' => Q .non H', rt := Q } (start N vs) H) : FnG P w K mg base CX (k + 1) f fd ps sp := by
  obtain ⟨oc, od, kV, doc, pm, an, cdv, ct, osl, rfl, lk, hcd⟩ := F.ex
  refine ⟨len, fun A outer s H args us vs Q E hgd hr e0 hb r hsp => ?_⟩
  have KX : K.In s.heap := e0.mod.kin.keeps fun b o e => (e0.bs b o e).1
  have hkind : ∀ y ∈ ps.zip us, (defScope st).names.lookup y.1 = some .local ∨ ((defScope st).names.lookup y.1 = some .cell ∧ ((cellsFrom (s.heap.objs.size + 1) (defScope st).names []).lookup y.1).isSome = true) := fun ⟨n, v⟩ hy =>
    (S.par n (List.of_mem_zip hy).1).elim .inl fun q => .inr ⟨q, PySem.W.cellsFrom_some _ _ _ (.inl q)⟩
  refine codeAny_call_function hr.depth (KX _ _ lk) rfl S.co S.gen rfl (PySem.W.codeRec_of KX hcd) (hb _ _ _ _ (wpAny_newFunctionEnv_cells S.kind hkind fun env he s1 x => ?_))
  subst he
  refine ⟨(e0.mod.nolimit.keeps fun b o e => (e0.bs b o e).1).keeps x.toInCall.keep, codeAny_func ?_⟩
  obtain ⟨t, ht, hq⟩ := hbody cdv A outer s H vs Q E hgd (hr.deeper _) hsp
  refine wpAny_mono (ht.run [] s1 (start N vs) H _ (inv_start S hr.hd e0 (len _ _ _ _ hsp) r x) hq) (fun fl s' hs => ?_) fun e s' hs => hs
  cases fl with
  | ret u => obtain ⟨v, σ', H', J, rv, q⟩ := hs; exact ⟨v, H', J.os, J.bare, J.base, J.hok, rv, q⟩
  | next => obtain ⟨σ', H', J, q⟩ := hs; exact ⟨V.non, H', J.os, J.bare, J.base, J.hok, rfl, q⟩
  | brk => obtain ⟨_, _, _, q⟩ := hs; exact q.elim
  | cont => obtain ⟨_, _, _, q⟩ := hs; exact q.elim
end
/-! ### repr -/
section
variable {X : Cx}
/-- repr of what is no dict -/
def rRepr (K : PySem.W.Frag) : List V → Hp → VK → Prop := fun xs H Q => ∃ x d, xs = [x] ∧ Dp K H x d ∧ d.showable = true ∧ d.hasDict = false ∧ d.shown.length ≤ sizeLine ∧ d.depth ≤ 64 ∧ Q (.str d.shown) H
theorem call_reprD (hu : X.A.units + 65 < cLine) (hg : X.A.guards = some []) : CallR X (.builtin "repr") (rRepr X.K) := by
  intro pins s σ H xs us Q I r h
  obtain ⟨x, d, rfl, hd, hs, hn, hz, hp, q⟩ := h
  obtain ⟨u, rfl, r1⟩ := vals1 r
  obtain ⟨as, rd⟩ := Dp.reads I d x u hd r1
  have ref : ∀ a : Addr, u = .ref a → wpAny (model X.prog X.w) X.A (call (Value.builtin "repr") [u]) (EP X pins σ Q) X.xe s := fun a e => by
    subst e
    exact repr_of_reads' rd hs (fun q => by rw [hn] at q; cases q) hg (by omega) (fun _ _ e => e) (fun h' t tk k => ⟨.str d.shown, H, I.kept (t' := tk) k, ⟨t, rfl⟩, q⟩) hz
  cases rd with
  | none => simp only [PyData.shown] at q; exact PySem.P.repr_of_none ⟨.str "None", H, I.tok _, ⟨_, rfl⟩, q⟩
  | bool b => simp only [PyData.shown] at q; exact PySem.P.repr_of_bool ⟨.str (if b then "True" else "False"), H, I.tok _, ⟨_, rfl⟩, q⟩
  | int i t => simp only [PyData.shown] at q; exact PySem.P.repr_of_int (by simpa [PyData.showable] using hs) ⟨.str (toString i), H, I.tok _, ⟨_, rfl⟩, q⟩
  | str y t => simp only [PyData.shown] at q; exact PySem.P.repr_of_str ⟨.str (reprText y), H, I.tok _, ⟨_, rfl⟩, q⟩ (by simpa only [PyData.shown] using hz)
  | list h1 h2 h3 h4 => exact ref _ rfl
  | tuple h1 h2 h3 h4 => exact ref _ rfl
  | dict h1 h2 h3 h4 h5 => exact ref _ rfl
end
end Kb
namespace Kb
open PySem PySem.Spec PyProof.Rows L2
/-! ### the law's call, by such a promise: nothing but the script is tracked -/
theorem law_callG {P : Program} {w : World} {K : PySem.W.Frag} {mg mb : Str → Option Value} {CX : CXT} {k : Nat} {fa a : Addr} {fd : FuncData} {x : Str} {sp : Sp} {s₁ : Shared} {vs : List Value} {ns : List Int}
    (KX : K.In s₁.heap) (hns : s₁.heap.Ns PySem.mainGlobals mg) (hb : s₁.heap.Ns builtinsNs mb) (hbb : ∀ x : Str, x ≠ "__name__" → mb x = bootBuiltins x) (hlim : s₁.heap.NoLimit) (hg : s₁.gens = #[])
    (ha : s₁.heap.get? a = some { cls := .type "list", data := .seq vs.toArray }) (hi : IntsAre vs ns) (hl : ns.length ≤ sizeLine) (hr : Room k callerA)
    (F : ∀ base : Heap, K.In base → base.Ns PySem.mainGlobals mg → FnG P w K mg base CX k fa fd [x] sp) (hbind : ∀ (s : Shared) (u : Value), BindsTo s fd ⟨[u], []⟩ [(x, u)])
    (hsp : ∀ H : Hp, Only H → SqL K H a (ns.map V.int) → sp [.ref a] H (fun v _ => v = .bl true) fun _ _ _ => False)
    (hCX : ∀ H e s', CX [] H s₁ (fun _ _ _ => False) e s' → False) :
    codeAny (model P w) callerA (.call (.ref fa) ⟨[.ref a], []⟩) (fun r s' => r = .ok (.ret (.bool true)) ∧ OldK s₁.heap s'.heap ∧ s'.os = s₁.os ∧ AllBare s'.gens) s₁ := by
  have rv := vals_ints hi
  have core : ∀ H : Hp, Only H → SqL K H a (ns.map V.int) → HOk P w H s₁.heap → (∀ b, H b ≠ none → b = a) → (H a ≠ none → K.lookup a = none) →
      codeAny (model P w) callerA (.call (.ref fa) ⟨[.ref a], []⟩) (fun r s' => r = .ok (.ret (.bool true)) ∧ OldK s₁.heap s'.heap ∧ s'.os = s₁.os ∧ AllBare s'.gens) s₁ := by
    intro H hO hS hok hA hK
    have one : ∀ b, b ≠ a → H b = none := fun b n => Classical.byContradiction fun q => n (hA b q)
    have dicts : ∀ {b : Addr} {o : Obj} {es : Array DictEntry} {ep : Nat}, s₁.heap.get? b = some o → o.data = .dict es ep → b ≠ a := fun {b o es ep} e d q => by
      subst q
      rw [ha] at e
      cases e
      cases (show Data.seq vs.toArray _ = Data.dict es ep from d)
    have spaces : ∀ {b : Addr} {m : Str → Option Value}, s₁.heap.Ns b m → (hidT s₁.heap H).Ns b m := fun ⟨o, es, ep, e, d, r⟩ => ⟨o, es, ep, hidT_get e (one _ (dicts e d)), d, r⟩
    have kin : K.In (hidT s₁.heap H) := fun b o e => hidT_get (KX b o e) (Classical.byContradiction fun q => by
      have e2 : b = a := hA b q
      subst e2
      rw [hK q] at e
      cases e)
    obtain ⟨mc, l1, l2⟩ := hlim
    refine codeAny_mono ((F _ kin (spaces hns)).run callerA [] s₁ H ⟨[.ref a], []⟩ [.ref a] [.ref a] _ _ rfl hr
      ⟨rfl, ⟨kin, spaces hns, ⟨mb, spaces hb, hbb⟩, ⟨mc, spaces l1, l2⟩⟩, fun b o e => of_hidT e, Nat.le_of_eq (hidT_size _ _), trivial, fun b hb => absurd (show b ∈ ([] : List Addr) from hb) (by simp), hok, .of_eq hg⟩
      (hbind s₁ (.ref a)) (.cons rfl .nil) (hsp H hO hS)) fun r s' h => ?_
    match r, h with
    | .error e, h => exact (hCX H e s' h).elim
    | .ok (.ret u), ⟨v, H', os, bare, un, hok', r', q⟩ =>
      cases (show v = .bl true from q)
      cases (show u = Value.bool true from r')
      refine ⟨rfl, OldK.of_keep fun b o e => ?_, os, bare⟩
      rcases hO b with z | ⟨ob, xs, z⟩
      · exact un.keep b o e z (fun y => absurd (show b ∈ ([] : List Addr) from y) (by simp)) (by simp)
      · obtain ⟨e1, _⟩ := hok b _ z
        obtain ⟨e2, _⟩ := hok' b _ (un.frzs b ob _ z)
        rw [e] at e1
        cases e1
        exact e2
  cases hk : K.lookup a with
  | some o =>
    have e := KX a o hk
    rw [ha] at e
    cases e
    exact core (fun _ => none) (fun _ => .inl rfl) (.inr ⟨_, vs.toArray, _, hk, rfl, rfl, rfl, by rw [List.size_toArray, hi.length]; exact hl, by simpa using rv⟩) (fun b u z => nomatch (show (none : Option HO) = some u from z)) (fun b z => absurd rfl z) fun z => absurd rfl z
  | none =>
    have at' : ∀ b, b ≠ a → (if b = a then some (HO.frz { cls := .type "list", data := .seq vs.toArray } (.lst (ns.map V.int))) else none) = none := fun b n => if_neg n
    refine core (fun b => if b = a then some (.frz { cls := .type "list", data := .seq vs.toArray } (.lst (ns.map V.int))) else none) (fun b => ?_) (.inl (.inr ⟨{ cls := .type "list", data := .seq vs.toArray }, if_pos rfl⟩)) (fun b u z => ?_) (fun b z => Classical.byContradiction fun n => z (at' b n)) fun _ => hk
    · by_cases hb : b = a
      · exact .inr ⟨_, _, if_pos hb⟩
      · exact .inl (at' b hb)
    · by_cases hb : b = a
      · subst hb
        cases (if_pos rfl).symm.trans z
        exact ⟨ha, by rw [List.length_map]; exact hl, vs, _, rv, ha⟩
      · cases (at' b hb).symm.trans z
theorem walkG {l : PySem.W.OpenLaw} {n k : Nat} {q : Program} {loose : List Str} {XP : (Str → Option Value) → Heap → Prop} {YP : World → Heap → Prop} {d : DefRec} {K : Params → PySem.W.Frag} {CX : World → CXT} {sp : World → Sp} {x : Str}
    (hn : l.most = some n) (hn2 : n ≤ sizeLine) (hdf : d.params.defaults = []) (hr : Room k callerA) (hY : ∀ (w : World) (h : Heap), YP w h → (K w.params).In h)
    (F : ∀ (w : World) (mg : Str → Option Value) (fa : Addr) (h : Heap), (K w.params).In h → h.Ns PySem.mainGlobals mg → mg d.name = some (.ref fa) →
      ∃ fd : FuncData, (∀ (s : Shared) (u : Value), BindsTo s fd ⟨[u], []⟩ [(x, u)]) ∧
        ∀ base : Heap, (K w.params).In base → base.Ns PySem.mainGlobals mg → FnG l.prog w (K w.params) mg base (CX w) k fa fd [x] (sp w))
    (hsp : ∀ (w : World) (H : Hp) (a : Addr) (ns : List Int), ns.length ≤ n → Only H → SqL (K w.params) H a (ns.map V.int) → sp w [.ref a] H (fun v _ => v = .bl true) fun _ _ _ => False)
    (hCX : ∀ (w : World) (H : Hp) (s : Shared) (e : Value) (s' : Shared), CX w [] H s (fun _ _ _ => False) e s' → False) :
    PySem.W.WalkO q loose XP YP l.row.toRowW d [] (fun f vs => PySem.call f vs) := by
  refine Att.attach_call hn hdf fun w s₀ s₁ mg mb fa o pm cd doc a vs ns G Y ho hd hcd hmg hobj hints hlen hg => ?_
  have KX := hY w _ Y
  obtain ⟨fd, hb, hF⟩ := F w mg fa _ KX G.T.g hmg
  exact law_callG KX G.T.g G.T.b G.T.builtins G.T.nolimit hg hobj hints (Nat.le_trans hlen hn2) hr hF hb (fun H hO hS => hsp w H a ns hlen hO hS) fun H e s' => hCX w H s₁ e s'
end Kb
namespace Kb
open PySem PySem.Spec PyProof.Rows L2
theorem repr_u {k : Nat} {A : Around} (hr : Room k A) : A.units + 65 < cLine := by have := hr.un; omega
theorem Fun.okG {P : Program} {w : World} {K : PySem.W.Frag} {mg : Str → Option Value} {base : Heap} {k : Nat} {f : Addr} {x qual : Str} {st : Stmt} {fd : FuncData} {N ps : List Str} {sp : Sp} (F : Fun K x qual st f fd) (S : FnScope N ps (defScope st)) (len : ∀ vs H Q E, sp vs H Q E → vs.length = ps.length)
    (hbody : ∀ (cdv : Value) (A : Around) (outer : List Env) (s : Shared) (H : Hp) (vs : List V) (Q : VK) (E : XK), A.guards = some [] → Room k (A.deeper (envOfC qual (defScope st) s.heap.objs.size f cdv)) → sp vs H Q E →
      ∃ t, PSs (cxOf CX0 P w K mg base N qual (defScope st) f cdv A outer s H E).nox (defBody st) t ∧ t { nx := fun _ H' => Q .non H', rt := Q } (start N vs) H) : FnG P w K mg base CX0 (k + 1) f fd ps sp :=
  fnG_of F S len fun cdv A outer s H vs Q E hg hr h => let ⟨t, a, q⟩ := hbody cdv A outer s H vs Q E hg hr h; ⟨t, a.nox, q⟩
end Kb
namespace Kb
open PySem PySem.Spec PyProof.Rows L2 TL
/-! ### a text times a number -/
def rMulS : R2 := fun x y H Q => ∃ (a : Str) (n : Int), x = .str a ∧ y = .int n ∧ n ≤ 4000 ∧ 0 ≤ n ∧ a.length ≤ 4000 ∧ ∀ z : Str, tl z = (List.replicate n.toNat (tl a)).flatten → Q (.str z) H
theorem foldl_app (c : Array Nat) : ∀ (m : Nat) (acc : Array Nat), ((List.replicate m c).foldl (· ++ ·) acc).toList = acc.toList ++ (List.replicate m c.toList).flatten
  | 0, acc => by simp
  | m + 1, acc => by
    rw [List.replicate_succ, List.foldl_cons, foldl_app c m, List.replicate_succ, List.flatten_cons, Array.toList_append, List.append_assoc]
theorem op_mulS {X : Cx} : OpR X (binaryOp .Mult) rMulS := by
  intro pins s σ H x y v u Q I rx ry h
  obtain ⟨a, n, rfl, rfl, h1, h2, h3, q⟩ := h
  obtain ⟨t, rfl⟩ := rx
  obtain ⟨t2, rfl⟩ := ry
  have hz : a.length * n.toNat ≤ 4000 * 4000 := Nat.mul_le_mul h3 (by omega)
  have hline : sizeLine = 16777216 := sizeLine_eq
  refine PySem.P.mul_str (by rw [decide_eq_false (by omega), decide_eq_false (by omega)]; rfl) (fun h4 _ h5 => ?_) (fun _ _ => ?_) ?_
  · have h6 : (4000 : Int) ≤ (2 ^ 63 - 1) / n := Int.le_ediv_of_mul_le (by omega) (by omega)
    omega
  · unfold Builtin.Str.tooLong
    rw [hline]
    exact decide_eq_false (by omega)
  · by_cases hn : n < 1
    · rw [if_pos hn]
      have e : n = 0 := by omega
      subst e
      exact ⟨by decide, .str Str.empty, H, I.tok _, ⟨_, rfl⟩, q Str.empty rfl⟩
    · rw [if_neg hn]
      by_cases h5 : (n == 1 || a.length == 0) = true
      · rw [if_pos h5]
        refine ⟨.str a, H, I, ⟨_, rfl⟩, q a ?_⟩
        rw [Bool.or_eq_true, beq_iff_eq, beq_iff_eq] at h5
        rcases h5 with rfl | h5
        · simp
        · rw [len_tl] at h5
          rw [List.eq_nil_of_length_eq_zero h5]; simp
      · rw [if_neg h5]
        refine ⟨?_, .str ⟨(List.replicate n.toNat a.cps).foldl (· ++ ·) #[]⟩, H, I.tok _, ⟨_, rfl⟩, q _ ?_⟩
        · rw [hline, len_tl]
          show (((List.replicate n.toNat a.cps).foldl (· ++ ·) #[]).toList).length ≤ _
          rw [foldl_app]
          have : ((List.replicate n.toNat a.cps.toList).flatten).length = n.toNat * a.length := by
            rw [PyProof.Rows.lm_len_rep_flat]; rfl
          simp only [Array.toList_empty, List.nil_append]
          rw [this, Nat.mul_comm]
          omega
        · show (((List.replicate n.toNat a.cps).foldl (· ++ ·) #[]).toList) = _
          rw [foldl_app]
          rfl
end Kb

namespace Kb
open PySem PySem.Spec PyProof.Rows L2 TL
/-! ### texts of plain signs -/
def ascii (x : Str) : Prop := ∀ s ∈ tl x, s < 128
theorem ascii.app {x y : Str} (a : ascii x) (b : ascii y) : ascii (x ++ y) := fun s hs => by
  rw [tl_append] at hs
  rcases List.mem_append.mp hs with q | q
  · exact a s q
  · exact b s q
theorem joinE : ∀ L : List (List Nat), joinL [] L = L.flatten
  | [] => rfl
  | [p] => by simp [joinL]
  | p :: q :: r => by
    show p ++ ([] ++ joinL [] (q :: r)) = _
    rw [joinE (q :: r)]
    rfl
theorem ascii.join {c : Str} {W : List Str} (hc : ascii c) (h : ∀ x ∈ W, ascii x) : ascii (Txt.join c W) := fun s hs => by
  rw [join_tl] at hs
  induction W with
  | nil => simp [joinL] at hs
  | cons p W ih =>
    cases W with
    | nil => exact h p (List.mem_cons_self ..) s (by simpa [joinL] using hs)
    | cons q r =>
      have hs : s ∈ tl p ++ (tl c ++ joinL (tl c) ((q :: r).map tl)) := hs
      rcases List.mem_append.mp hs with g | g
      · exact h p (List.mem_cons_self ..) s g
      · rcases List.mem_append.mp g with g | g
        · exact hc s g
        · exact ih (fun x hx => h x (List.mem_cons_of_mem _ hx)) g
theorem ascii.cut {x : Str} {lo hi : Option Int} (h : ascii x) : ascii (cutS x lo hi) := fun s hs => by
  have hs : s ∈ ((tl x).drop (HT.sIx x.length 0 lo)).take (HT.sIx x.length x.length hi - HT.sIx x.length 0 lo) := hs
  exact h s (List.mem_of_mem_drop (List.mem_of_mem_take hs))
theorem cut_len {x : Str} {lo hi : Option Int} : (cutS x lo hi).length ≤ x.length := by
  rw [len_tl, len_tl]
  show (((tl x).drop (HT.sIx x.length 0 lo)).take (HT.sIx x.length x.length hi - HT.sIx x.length 0 lo)).length ≤ _
  rw [List.length_take, List.length_drop]
  omega
theorem ascii.rep {x y : Str} {n : Nat} (h : ascii x) (e : tl y = (List.replicate n (tl x)).flatten) : ascii y := fun s hs => by
  rw [e, List.mem_flatten] at hs
  obtain ⟨l, hl, hs⟩ := hs
  rw [List.eq_of_mem_replicate hl] at hs
  exact h s hs
theorem ascii.up {x : Str} (h : ascii x) : ascii (Txt.upper x) ∧ (Txt.upper x).length = x.length := by
  have e : tl (Txt.upper x) = (tl x).map up1 := by rw [upper_ascii h]; simp [tl]
  refine ⟨fun s hs => ?_, by rw [len_tl, e, List.length_map, ← len_tl]⟩
  rw [e] at hs
  obtain ⟨c, hc, rfl⟩ := List.mem_map.mp hs
  have : ∀ c, c < 128 → up1 c < 128 := by decide +kernel
  exact this c (h c hc)
theorem lower_tl {x : Str} (h : ascii x) : tl (Txt.lower x) = (tl x).map lo1 := by rw [lower_ascii h]; simp [tl]
theorem ascii.low {x : Str} (h : ascii x) : ascii (Txt.lower x) ∧ (Txt.lower x).length = x.length := by
  refine ⟨fun s hs => ?_, by rw [len_tl, lower_tl h, List.length_map, ← len_tl]⟩
  rw [lower_tl h] at hs
  obtain ⟨c, hc, rfl⟩ := List.mem_map.mp hs
  have : ∀ c, c < 128 → lo1 c < 128 := by decide +kernel
  exact this c (h c hc)
/-- a sign of a written text -/
theorem sign_at {z : Str} {r : Int} (h0 : 0 ≤ r) (h1 : r < (z.length : Int)) (ha : ascii z) : ∃ c : Nat, atI z.cps.toList r = some c ∧ ascii (⟨#[c]⟩ : Str) := by
  obtain ⟨n, rfl⟩ : ∃ n : Nat, r = (n : Int) := ⟨r.toNat, by omega⟩
  have hn : n < (tl z).length := by rw [← len_tl]; omega
  refine ⟨(tl z)[n], atI_nat (List.getElem?_eq_getElem hn), fun s hs => ?_⟩
  have : s = (tl z)[n] := by simpa [tl] using hs
  rw [this]
  exact ha _ (List.getElem_mem hn)
end Kb
namespace Kb
open PySem PySem.Spec PyProof.Rows L2 TL
theorem ends_at {x : Str} (h : 1 ≤ x.length) : ∃ a z : Nat, atI x.cps.toList 0 = some a ∧ atI x.cps.toList (-1) = some z ∧ (tl x).head? = some a ∧ (tl x).getLast? = some z := by
  have hne : tl x ≠ [] := fun e => by rw [len_tl, e] at h; simp at h
  obtain ⟨r, d, er⟩ := snoc_of_ne hne
  obtain ⟨a, r2, ea⟩ : ∃ a r2, tl x = a :: r2 := List.exists_cons_of_ne_nil hne
  refine ⟨a, d, ?_, ?_, by rw [ea]; rfl, by rw [er, List.getLast?_concat]⟩
  · show atI (tl x) ((0 : Nat) : Int) = _; rw [ea]; exact atI_nat rfl
  · show atI (tl x) (-1) = _; rw [er]; exact atI_last r d
theorem ascii_lit {x : Str} (h : (tl x).all (· < 128) = true) : ascii x := fun s hs => by
  have := List.all_eq_true.mp h s hs
  simpa using this
end Kb
namespace Kb
open PySem PySem.Spec PyProof.Rows L2 TL
/-- a comprehension over a text -/
theorem lc_str {z : Str} {g : TG} {tt : TT} {te : TE} {vs : List Nat} {σ : L2.St} {H1 : Hp} {D : Addr} {Qd : Hp → Prop} (Pv : Nat → Hp → Prop) (h0 : Pv 0 (L2.upd H1 D (.lst [])))
    (hs : ∀ i c H, (tl z)[i]? = some c → Pv i H → g (.str ⟨#[c]⟩) (wipe σ vs) H fun σ2 H2 => wipe σ2 vs = wipe σ vs ∧ tt σ2 H2 fun b H3 =>
      if b = true then te σ2 H3 fun y H4 => ∃ acc, H4 D = some (.lst acc) ∧ acc.length < sizeLine ∧ Pv (i + 1) (L2.upd H4 D (.lst (acc ++ [y]))) else Pv (i + 1) H3) (hd : ∀ H, Pv (tl z).length H → Qd H) :
    ∃ W : Nat → Nat → Hp → Prop, (∃ m, W 0 m (L2.upd H1 D (.lst []))) ∧ ∀ i m H, W i m H →
      ((Its z).stop i H ∧ Qd H) ∨ ((Its z).go i H ∧ ∃ Nx : Hp → Prop, (∀ H', Nx H' → ∃ m', m' < m ∧ W (i + 1) m' H') ∧ ∀ x H', (Its z).yld i H x H' → g x (wipe σ vs) H' fun σ2 H2 => wipe σ2 vs = wipe σ vs ∧ tt σ2 H2 fun b H3 =>
        if b = true then te σ2 H3 fun y H4 => ∃ acc, H4 D = some (.lst acc) ∧ acc.length < sizeLine ∧ Nx (L2.upd H4 D (.lst (acc ++ [y]))) else Nx H3) := by
  refine lc_it walk_str Pv h0 (fun _ _ _ _ => trivial) (fun i x H H' hi p y => ?_) (fun H p => hd H (by rw [show (tl z).length = z.cps.size by simp [tl]]; exact p))
  obtain ⟨rfl, c, hc, rfl⟩ := y
  exact hs i c _ (by rw [← hc]; simp [tl]) p
/-- the last part of a text -/
def smallS (x : Str) : Prop := x.length ≤ 1000 ∧ ascii x
theorem lay_str {x : Str} (h : ascii x) : PyData.canLay0 (.str x) = true := by
  rw [PyData.canLay0]
  show x.cps.all _ = true
  rw [Array.all_eq_true_iff_forall_mem]
  intro s hs
  have := h s (Array.mem_toList_iff.mpr hs)
  exact decide_eq_true (by omega)
end Kb
namespace Kb
open PySem PySem.Spec PyProof.Rows L2 TL
theorem Same.put {H H1 : Hp} {L : Addr} {o : HO} (s : Same H H1) (h : H L = none) : Same H (L2.upd H1 L o) := fun b u e => by
  rw [upd_ne (ne_of_none e h)]
  exact s b u e
theorem all_take1 {α : Type} {p : α → Bool} {l : List α} {i : Nat} {c : α} (h : l[i]? = some c) : (l.take (i + 1)).all p = ((l.take i).all p && p c) := by
  rw [List.take_succ, h, List.all_append]
  simp
theorem eq_nil_snoc {α : Type} {W : List α} {x : α} : (W ++ [x] = []) ↔ False := by simp
theorem lay_strs {W : List Str} (h : ∀ w ∈ W, ascii w) : SeqAt.shaped (.list (W.map PyData.str)) = true := shaped_strs fun w hw => lay_str (h w hw)
theorem eqv_nil (W : List Str) : PyData.eqv (.list (W.map PyData.str)) (.list (([] : List Str).map PyData.str)) = decide (W = []) := by rw [PyData.eqv, eqvAll_strs]
theorem tl_lsig2 : ("abcdefghijklmnopqrstuvwxyz0123456789-" : Str).cps.toList = lsig := tl_lsig
theorem tl_digs2 : ("0123456789" : Str).cps.toList = digs := tl_digs
theorem ascii_mem {x : Str} {i c : Nat} (h : ascii x) (hi : (tl x)[i]? = some c) : ascii (⟨#[c]⟩ : Str) := fun s hs => by
  have : s = c := by simpa [tl] using hs
  rw [this]
  exact h c (List.mem_of_getElem? hi)
end Kb
namespace Kb
open PySem PySem.Spec PyProof.Rows L2 TL
theorem numB_iff {l : List Nat} : numB l = true ↔ ∃ j, j < 256 ∧ l = numL j := by
  constructor
  · intro h
    unfold numB at h
    rw [Bool.and_eq_true, Bool.and_eq_true, Bool.or_eq_true, decide_eq_true_eq, decide_eq_true_eq, decide_eq_true_eq] at h
    obtain ⟨hd, hv, hz⟩ := h
    obtain ⟨had, hne⟩ := digB_iff.mp hd
    refine ⟨NumText.digitsVal l, by omega, ?_⟩
    obtain ⟨n, hn⟩ : ∃ n, l.length = n + 1 := ⟨l.length - 1, by have := List.length_pos_iff.mpr hne; omega⟩
    have e := NumText.toDigits_digitsVal n l hn had (by
      rcases hz with rfl | hz
      · left; simp at hn; omega
      · right
        obtain ⟨c, r, rfl⟩ := List.exists_cons_of_ne_nil hne
        refine ⟨c, r, rfl, ?_⟩
        have := had c (List.mem_cons_self ..)
        have hc : c ≠ 48 := fun q => hz (by rw [q]; rfl)
        omega)
    show l = (Nat.toDigits 10 (NumText.digitsVal l)).map Char.toNat
    rw [e, List.map_map]
    refine (List.map_id l).symm.trans (List.map_congr_left fun c hc => ?_)
    have h1 := had c hc
    have : ∀ c, c < 58 → c = (Char.ofNat c).toNat := by decide +kernel
    exact this c (by omega)
  · rintro ⟨j, hj, rfl⟩
    have : ∀ j, j < 256 → numB (numL j) = true := by decide +kernel
    exact this j hj
end Kb
namespace Kb
open PySem PySem.Spec PyProof.Rows L2 TL PySem.StrLaws Builtin.Str
/-! ### texts that tell hosts -/
def stripDot (l : List Nat) : List Nat := if l.getLast? = some 46 then l.dropLast else l
def tellsL (l : List Nat) : Bool := hostB (stripDot l)
def beginsB (l : List Nat) : Bool := hostB l || (hostB (l ++ [97]) || hostB (l ++ [46, 97]))
def goodL (l : List Nat) : Bool := tellsL l || beginsB l
def PlaceIs (m : List Nat) (k : Nat) : Prop := (k = m.length + 1 ∧ ∀ j, j < m.length → goodL (m.take (j + 1)) = true) ∨ (1 ≤ k ∧ k ≤ m.length ∧ goodL (m.take k) = false ∧ ∀ j, j + 1 < k → goodL (m.take (j + 1)) = true)
theorem PlaceIs.uniq {m : List Nat} {k k' : Nat} (a : PlaceIs m k) (b : PlaceIs m k') : k = k' := by
  rcases a with ⟨a1, a2⟩ | ⟨a0, a1, a2, a3⟩ <;> rcases b with ⟨b1, b2⟩ | ⟨b0, b1, b2, b3⟩
  · omega
  · have := a2 (k' - 1) (by omega)
    rw [show k' - 1 + 1 = k' by omega, b2] at this
    cases this
  · have := b2 (k - 1) (by omega)
    rw [show k - 1 + 1 = k by omega, a2] at this
    cases this
  · rcases Nat.lt_trichotomy k k' with q | q | q
    · have := b3 (k - 1) (by omega)
      rw [show k - 1 + 1 = k by omega, a2] at this
      cases this
    · exact q
    · have := a3 (k' - 1) (by omega)
      rw [show k' - 1 + 1 = k' by omega, b2] at this
      cases this
theorem host_dot {l : List Nat} (h : l.getLast? = some 46) : hostB l = false := by
  have hne : l ≠ [] := fun e => by rw [e] at h; cases h
  obtain ⟨r, d, er⟩ := snoc_of_ne hne
  rw [er, List.getLast?_concat] at h
  have hd : d = 46 := Option.some.inj h
  subst hd
  have e : sp1 46 l = sp1 46 r ++ [[]] := by rw [er, sp1_app]; rfl
  unfold hostB hostL
  have : (sp1 46 l).all labB = false := by
    rw [e, List.all_append]
    have : [([] : List Nat)].all labB = false := by decide +kernel
    rw [this, Bool.and_false]
  rw [this, Bool.false_and, Bool.and_false, Bool.and_false]
theorem strip_other {l : List Nat} (h : l.getLast? ≠ some 46) : stripDot l = l := if_neg h
theorem strip_dot {l : List Nat} : stripDot (l ++ [46]) = l := by
  unfold stripDot
  rw [if_pos (by rw [List.getLast?_concat]), List.dropLast_concat]
theorem tellsL_or (l : List Nat) : tellsL l = (hostB l || (decide (l.getLast? = some 46) && hostB l.dropLast)) := by
  unfold tellsL stripDot
  by_cases h : l.getLast? = some 46
  · rw [if_pos h, host_dot h, decide_eq_true h]; rfl
  · rw [if_neg h, decide_eq_false h, Bool.false_and, Bool.or_false]
theorem law_begins (l : List Nat) : (tellsL l || (tellsL (l ++ [97]) || (tellsL (l ++ [46, 97]) || tellsL (l ++ [46])))) = goodL l := by
  have e1 : tellsL (l ++ [97]) = hostB (l ++ [97]) := by unfold tellsL; rw [strip_other (by rw [List.getLast?_concat]; decide)]
  have e2 : tellsL (l ++ [46, 97]) = hostB (l ++ [46, 97]) := by
    unfold tellsL
    rw [strip_other]
    rw [show l ++ [46, 97] = (l ++ [46]) ++ [97] by simp, List.getLast?_concat]; decide
  have e3 : tellsL (l ++ [46]) = hostB l := by unfold tellsL; rw [strip_dot]
  rw [e1, e2, e3]
  unfold goodL beginsB
  cases tellsL l <;> cases hostB l <;> cases hostB (l ++ [97]) <;> cases hostB (l ++ [46, 97]) <;> rfl
theorem removesuffix_dot (x : Str) : tl (Txt.removesuffix x ("." : Str)) = stripDot (tl x) := by
  unfold Txt.removesuffix
  have d1 : ("." : Str).length = 1 := by decide +kernel
  by_cases h : (tl x).getLast? = some 46
  · have hne : tl x ≠ [] := fun e => by rw [e] at h; cases h
    obtain ⟨r, d, er⟩ := snoc_of_ne hne
    rw [er, List.getLast?_concat] at h
    have hd : d = 46 := Option.some.inj h
    subst hd
    have hl : x.length = r.length + 1 := by rw [len_tl, er]; simp
    have hs : subAt x ("." : Str) (x.length - ("." : Str).length) = true := by
      rw [subAt_eq, d1, hl]
      show (List.take 1 (List.drop (r.length + 1 - 1) (tl x)) == tl ("." : Str)) = true
      rw [er, tl_dot, Nat.add_sub_cancel, List.drop_left]
      rfl
    rw [if_pos (by rw [hs, d1, hl]; simp), er, strip_dot]
    show tl (if x.length - ("." : Str).length - 0 == x.length then x else strSub x 0 (x.length - ("." : Str).length)) = r
    rw [if_neg (by rw [d1, hl]; simp), tl_strSub, er, d1, hl]
    simp
  · rw [strip_other h, if_neg]
    · rfl
    · intro g
      rw [Bool.and_eq_true] at g
      obtain ⟨g1, g2⟩ := g
      have g1 : ("." : Str).length ≤ x.length := of_decide_eq_true g1
      rw [d1] at g1
      rw [subAt_eq, d1] at g2
      have g2 : (List.take 1 (List.drop (x.length - 1) (tl x)) == tl ("." : Str)) = true := g2
      rw [tl_dot] at g2
      have hne : tl x ≠ [] := fun e => by rw [len_tl, e] at g1; simp at g1
      obtain ⟨r, d, er⟩ := snoc_of_ne hne
      have hl : x.length = r.length + 1 := by rw [len_tl, er]; simp
      rw [hl, Nat.add_sub_cancel, er, List.drop_left] at g2
      have : d = 46 := by simpa using g2
      rw [er, List.getLast?_concat, this] at h
      exact h rfl
theorem strip_low {l : List Nat} (h : ∀ s ∈ l, s < 128) : (stripDot l).map lo1 = stripDot (l.map lo1) := by
  by_cases hne : l = []
  · rw [hne]; rfl
  obtain ⟨r, d, rfl⟩ := snoc_of_ne hne
  have hd := h d (List.mem_append_right _ (List.mem_singleton.mpr rfl))
  have key : ∀ c, c < 128 → (lo1 c = 46 ↔ c = 46) := by decide +kernel
  rw [List.map_append, List.map_cons, List.map_nil]
  by_cases q : d = 46
  · subst q
    rw [strip_dot, show lo1 46 = 46 by decide, strip_dot]
  · rw [strip_other (by rw [List.getLast?_concat]; simpa using q), strip_other (by rw [List.getLast?_concat]; simpa using fun e => q ((key d hd).mp e)), List.map_append]
    rfl
def lowL (x : Str) : List Nat := (tl x).map lo1
theorem lowT_tl {x : Str} (h : ascii x) : tl (Txt.lower (Txt.removesuffix x ("." : Str))) = stripDot (lowL x) := by
  have e := removesuffix_dot x
  have a : ascii (Txt.removesuffix x ("." : Str)) := fun s hs => by
    rw [e] at hs
    unfold stripDot at hs
    split at hs
    · exact h s ((List.dropLast_sublist _).subset hs)
    · exact h s hs
  rw [lower_tl a, e]
  exact strip_low h
end Kb
namespace Kb
open PySem PySem.Spec PyProof.Rows L2 TL PySem.StrLaws Builtin.Str
theorem cutS_m1 (z : Str) : tl (cutS z none (some (-1))) = (tl z).dropLast := by
  show ((tl z).drop (HT.sIx z.length 0 none)).take (HT.sIx z.length z.length (some (-1)) - HT.sIx z.length 0 none) = _
  rw [HT.sIx_none, List.drop_zero, Nat.sub_zero, List.dropLast_eq_take, len_tl]
  have e : HT.sIx (tl z).length (tl z).length (some (-1)) = (tl z).length - 1 := by
    show (if (-1 : Int) < 0 then ((-1 : Int) + ((tl z).length : Int)).toNat else min (-1 : Int).toNat (tl z).length) = _
    rw [if_pos (by decide)]
    omega
  rw [e]
theorem cutS_l1 (z : Str) : tl (cutS z (some (-1)) none) = lastN 1 (tl z) := by
  show ((tl z).drop (HT.sIx z.length 0 (some (-1)))).take (HT.sIx z.length z.length none - HT.sIx z.length 0 (some (-1))) = _
  rw [HT.sIx_none, len_tl]
  have e : HT.sIx (tl z).length 0 (some (-1)) = (tl z).length - 1 := by
    show (if (-1 : Int) < 0 then ((-1 : Int) + ((tl z).length : Int)).toNat else min (-1 : Int).toNat (tl z).length) = _
    rw [if_pos (by decide)]
    omega
  rw [e]
  exact List.take_of_length_le (by rw [List.length_drop] <;> omega)
theorem last_dot (z : Str) : decide (V.str (cutS z (some (-1)) none) = V.str ("." : Str)) = decide ((tl z).getLast? = some 46) := by
  rw [Bool.eq_iff_iff, decide_eq_true_eq, decide_eq_true_eq, V.str.injEq, str_eq_iff, cutS_l1, tl_dot]
  by_cases h : tl z = []
  · rw [h]; simp [lastN]
  · obtain ⟨r, d, er⟩ := snoc_of_ne h
    rw [er, List.getLast?_concat]
    unfold lastN
    rw [List.length_append, List.length_singleton, Nat.add_sub_cancel, List.drop_left]
    simp
end Kb
namespace Kb
open PySem PySem.Spec PyProof.Rows L2 TL
def Ans03 (H' : Hp) (m : List Nat) (v : V) : Prop := (tellsL m = true ∧ ∃ (p : Addr) (y : Str), v = .ref p ∧ H' p = some (.lst [.str y]) ∧ tl y = stripDot m) ∨ (tellsL m = false ∧ ∃ k : Nat, v = .int (k : Nat) ∧ PlaceIs m k)
theorem strip_len {l : List Nat} : (stripDot l).length ≤ l.length := by
  unfold stripDot
  split
  · rw [List.length_dropLast]; omega
  · exact Nat.le_refl _
theorem rs_len (x : Str) : (Txt.removesuffix x ("." : Str)).length ≤ x.length := by
  rw [len_tl, removesuffix_dot, len_tl]; exact strip_len
end Kb
namespace Kb
open PySem PySem.Spec PyProof.Rows L2 TL
/-- the first place at which a text begins no host -/
def PlaceB (m : List Nat) (k : Nat) : Prop := (k = m.length + 1 ∧ ∀ j, j < m.length → beginsB (m.take (j + 1)) = true) ∨ (1 ≤ k ∧ k ≤ m.length ∧ beginsB (m.take k) = false ∧ ∀ j, j + 1 < k → beginsB (m.take (j + 1)) = true)
theorem PlaceB.uniq {m : List Nat} {k k' : Nat} (a : PlaceB m k) (b : PlaceB m k') : k = k' := by
  rcases a with ⟨a1, a2⟩ | ⟨a0, a1, a2, a3⟩ <;> rcases b with ⟨b1, b2⟩ | ⟨b0, b1, b2, b3⟩
  · omega
  · have := a2 (k' - 1) (by omega)
    rw [show k' - 1 + 1 = k' by omega, b2] at this
    cases this
  · have := b2 (k - 1) (by omega)
    rw [show k - 1 + 1 = k by omega, a2] at this
    cases this
  · rcases Nat.lt_trichotomy k k' with q | q | q
    · have := b3 (k - 1) (by omega)
      rw [show k - 1 + 1 = k by omega, a2] at this
      cases this
    · exact q
    · have := a3 (k' - 1) (by omega)
      rw [show k' - 1 + 1 = k' by omega, b2] at this
      cases this
end Kb
namespace Kb
open PySem PySem.Spec PyProof.Rows L2
theorem ty_same {K : PySem.W.Frag} {H H' : Hp} {v : V} {t : Value} (s : Same H H') (h : TyX K H v t) : TyX K H' v t := by
  cases h with
  | base h =>
    refine .base ?_
    cases h with
    | non => exact .non
    | bl x => exact .bl x
    | int i => exact .int i
    | str x => exact .str x
    | flt x => exact .flt x
    | lst e => exact .lst (s _ _ e)
    | frz e => exact .frz (s _ _ e)
    | tup e => exact .tup (s _ _ e)
    | dK e => exact .dK (s _ _ e)
    | dT e => exact .dT (s _ _ e)
    | ins e cl ha hn htk hm => exact .ins (s _ _ e) cl ha hn htk hm
  | byt b => exact .byt b
  | set e => exact .set (s _ _ e)
  | kList e c => exact .kList e c
  | kTuple e c => exact .kTuple e c
  | kDict e c => exact .kDict e c
  | fTuple e => exact .fTuple (s _ _ e)
  | fDict e => exact .fDict (s _ _ e)
end Kb

namespace Kb
open PySem PySem.Spec PyProof.Rows L2 TL
/-! ### texts of addresses -/
/-- the first beginning that is not good -/
def Bad1 (g : List Nat → Bool) (m : List Nat) (k : Nat) : Prop := (k = m.length + 1 ∧ ∀ j, j < m.length → g (m.take (j + 1)) = true) ∨ (1 ≤ k ∧ k ≤ m.length ∧ g (m.take k) = false ∧ ∀ j, j + 1 < k → g (m.take (j + 1)) = true)
theorem Bad1.uniq {g : List Nat → Bool} {m : List Nat} {k k' : Nat} (a : Bad1 g m k) (b : Bad1 g m k') : k = k' := by
  rcases a with ⟨a1, a2⟩ | ⟨a0, a1, a2, a3⟩ <;> rcases b with ⟨b1, b2⟩ | ⟨b0, b1, b2, b3⟩
  · omega
  · have := a2 (k' - 1) (by omega)
    rw [show k' - 1 + 1 = k' by omega, b2] at this
    cases this
  · have := b2 (k - 1) (by omega)
    rw [show k - 1 + 1 = k by omega, a2] at this
    cases this
  · rcases Nat.lt_trichotomy k k' with q | q | q
    · have := b3 (k - 1) (by omega)
      rw [show k - 1 + 1 = k by omega, a2] at this
      cases this
    · exact q
    · have := a3 (k' - 1) (by omega)
      rw [show k' - 1 + 1 = k' by omega, b2] at this
      cases this
theorem Bad1.le {g : List Nat → Bool} {m : List Nat} {k : Nat} (a : Bad1 g m k) : 1 ≤ k ∧ k ≤ m.length + 1 := by
  rcases a with ⟨a1, a2⟩ | ⟨a0, a1, a2, a3⟩ <;> omega
def hS : List Nat := [104, 116, 116, 112, 58, 47, 47]
def sS : List Nat := [104, 116, 116, 112, 115, 58, 47, 47]
def schB (m : List Nat) : Bool := m.isPrefixOf hS || m.isPrefixOf sS
def schN (m : List Nat) : Option (List Nat × Nat) := if hS.isPrefixOf m = true then some ([104, 116, 116, 112], 7) else if sS.isPrefixOf m = true then some ([104, 116, 116, 112, 115], 8) else none
def stop3 (c : Nat) : Bool := decide (c = 47) || (decide (c = 63) || decide (c = 35))
def stop2 (c : Nat) : Bool := decide (c = 63) || decide (c = 35)
def hEnd (l : List Nat) : Nat := (l.takeWhile fun c => !stop3 c).length
inductive PR where
  | ok (n : Nat)
  | bad (n : Nat)
def pathR (r : List Nat) : PR := if 200 < (r.takeWhile psign).length then .bad 200 else match r[(r.takeWhile psign).length]? with
  | none => .ok (r.takeWhile psign).length
  | some c => if stop2 c = true then .ok (r.takeWhile psign).length else .bad (r.takeWhile psign).length
theorem tw_at {p : Nat → Bool} : ∀ {l : List Nat} {i : Nat}, (l.take i).all p = true → i ≤ l.length → (∀ c, l[i]? = some c → p c = false) → (l.takeWhile p).length = i
  | [], i, _, h, _ => by have : i = 0 := by simpa using h
                         subst this; rfl
  | x :: l, 0, _, _, h => by rw [List.takeWhile_cons_of_neg (by rw [h x rfl]; exact Bool.false_ne_true)]; rfl
  | x :: l, i + 1, ha, hl, h => by
    rw [List.take_succ_cons, List.all_cons, Bool.and_eq_true] at ha
    rw [List.takeWhile_cons_of_pos ha.1, List.length_cons, tw_at ha.2 (by simpa using hl) fun c hc => h c (by simpa using hc)]
theorem tw_ge {p : Nat → Bool} : ∀ {l : List Nat} {i : Nat}, (l.take i).all p = true → i ≤ l.length → i ≤ (l.takeWhile p).length
  | _, 0, _, _ => Nat.zero_le _
  | [], i + 1, _, h => by simp at h
  | x :: l, i + 1, ha, hl => by
    rw [List.take_succ_cons, List.all_cons, Bool.and_eq_true] at ha
    rw [List.takeWhile_cons_of_pos ha.1, List.length_cons]
    have := tw_ge ha.2 (by simpa using hl)
    omega
theorem hEnd_at {l : List Nat} {i c : Nat} (h : (l.take i).all (fun c => !stop3 c) = true) (hc : l[i]? = some c) (hs : stop3 c = true) : hEnd l = i :=
  tw_at h (Nat.le_of_lt (List.getElem?_eq_some_iff.mp hc).1) fun d hd => by rw [hc] at hd; cases hd; rw [hs]; rfl
theorem hEnd_all {l : List Nat} (h : l.all (fun c => !stop3 c) = true) : hEnd l = l.length :=
  tw_at (by rw [List.take_length]; exact h) (Nat.le_refl _) fun c hc => by rw [List.getElem?_eq_none (Nat.le_refl _)] at hc; cases hc
theorem psign_stop {c : Nat} (h : stop2 c = true) : psign c = false := by
  unfold stop2 at h
  rw [Bool.or_eq_true, decide_eq_true_eq, decide_eq_true_eq] at h
  rcases h with rfl | rfl <;> decide
theorem pathR_stop {r : List Nat} {i c : Nat} (h : (r.take i).all psign = true) (hi : i ≤ 200) (hc : r[i]? = some c) (hs : stop2 c = true) : pathR r = .ok i := by
  have e := tw_at h (Nat.le_of_lt (List.getElem?_eq_some_iff.mp hc).1) fun d hd => by rw [hc] at hd; cases hd; exact psign_stop hs
  unfold pathR
  rw [e, if_neg (by omega), hc]
  exact if_pos hs
theorem pathR_sign {r : List Nat} {i c : Nat} (h : (r.take i).all psign = true) (hi : i ≤ 200) (hc : r[i]? = some c) (hs : stop2 c = false) (hp : psign c = false) : pathR r = .bad i := by
  have e := tw_at h (Nat.le_of_lt (List.getElem?_eq_some_iff.mp hc).1) fun d hd => by rw [hc] at hd; cases hd; exact hp
  unfold pathR
  rw [e, if_neg (by omega), hc]
  exact if_neg (by rw [hs]; exact Bool.false_ne_true)
theorem pathR_long {r : List Nat} {c : Nat} (h : (r.take 200).all psign = true) (hc : r[200]? = some c) (hp : psign c = true) : pathR r = .bad 200 := by
  have := tw_ge (p := psign) (l := r) (i := 201) (by rw [all_at hc, h, hp]; rfl) (List.getElem?_eq_some_iff.mp hc).1
  unfold pathR
  rw [if_pos (by omega)]
theorem pathR_end {r : List Nat} (h : r.all psign = true) (hl : r.length ≤ 200) : pathR r = .ok r.length := by
  have e := tw_at (p := psign) (l := r) (i := r.length) (by rw [List.take_length]; exact h) (Nat.le_refl _) fun c hc => by rw [List.getElem?_eq_none (Nat.le_refl _)] at hc; cases hc
  unfold pathR
  rw [e, if_neg (by omega), List.getElem?_eq_none (Nat.le_refl _)]
def lows (l : List Nat) : List Nat := l.map lo1
def AddrOk (L sc ho pa : List Nat) : Prop := ∃ n k, schN (lows L) = some (sc, n) ∧ tellsL (lows ((L.drop n).take (hEnd (L.drop n)))) = true ∧ ho = stripDot (lows ((L.drop n).take (hEnd (L.drop n)))) ∧
  pathR ((L.drop n).drop (hEnd (L.drop n))) = .ok k ∧ pa = if k = 0 then [47] else ((L.drop n).drop (hEnd (L.drop n))).take k
def AddrBad (L : List Nat) (m : Nat) : Prop := (schN (lows L) = none ∧ Bad1 schB (lows L) m) ∨ ∃ sc n, schN (lows L) = some (sc, n) ∧
  ((tellsL (lows ((L.drop n).take (hEnd (L.drop n)))) = false ∧ ∃ j, Bad1 goodL (lows ((L.drop n).take (hEnd (L.drop n)))) j ∧ m = n + j) ∨
   (tellsL (lows ((L.drop n).take (hEnd (L.drop n)))) = true ∧ ∃ j, pathR ((L.drop n).drop (hEnd (L.drop n))) = .bad j ∧ m = n + hEnd (L.drop n) + j + 1))
theorem AddrOk.uniq {L a b c a' b' c' : List Nat} (h : AddrOk L a b c) (h' : AddrOk L a' b' c') : a = a' ∧ b = b' ∧ c = c' := by
  obtain ⟨n, k, h1, h2, h3, h4, h5⟩ := h
  obtain ⟨n', k', g1, g2, g3, g4, g5⟩ := h'
  rw [h1] at g1
  cases g1
  rw [h4] at g4
  cases g4
  exact ⟨rfl, h3.trans g3.symm, h5.trans g5.symm⟩
theorem AddrBad.uniq {L : List Nat} {m m' : Nat} (h : AddrBad L m) (h' : AddrBad L m') : m = m' := by
  rcases h with ⟨h1, h2⟩ | ⟨sc, n, h1, h2⟩ <;> rcases h' with ⟨g1, g2⟩ | ⟨sc', n', g1, g2⟩
  · exact h2.uniq g2
  · rw [h1] at g1; cases g1
  · rw [h1] at g1; cases g1
  · rw [h1] at g1
    cases g1
    rcases h2 with ⟨h2, j, h3, rfl⟩ | ⟨h2, j, h3, rfl⟩ <;> rcases g2 with ⟨g2, j', g3, rfl⟩ | ⟨g2, j', g3, rfl⟩
    · rw [h3.uniq g3]
    · rw [h2] at g2; cases g2
    · rw [h2] at g2; cases g2
    · rw [h3] at g3; cases g3; rfl
theorem AddrOk.bad {L a b c : List Nat} {m : Nat} (h : AddrOk L a b c) (g : AddrBad L m) : False := by
  obtain ⟨n, k, h1, h2, h3, h4, h5⟩ := h
  rcases g with ⟨g1, g2⟩ | ⟨sc', n', g1, g2⟩
  · rw [h1] at g1; cases g1
  · rw [h1] at g1
    cases g1
    rcases g2 with ⟨g2, j, g3, rfl⟩ | ⟨g2, j, g3, rfl⟩
    · rw [h2] at g2; cases g2
    · rw [h4] at g3; cases g3
theorem schN_sc {m sc : List Nat} {n : Nat} (h : schN m = some (sc, n)) : (sc = [104, 116, 116, 112] ∧ n = 7 ∨ sc = [104, 116, 116, 112, 115] ∧ n = 8) ∧ n ≤ m.length ∧ n = sc.length + 3 ∧ (sc ++ [58, 47, 47]) <+: m := by
  unfold schN at h
  split at h
  · rename_i g
    cases h
    have p := List.isPrefixOf_iff_prefix.mp g
    exact ⟨.inl ⟨rfl, rfl⟩, p.length_le, rfl, p⟩
  · split at h
    · rename_i g
      cases h
      have p := List.isPrefixOf_iff_prefix.mp g
      exact ⟨.inr ⟨rfl, rfl⟩, p.length_le, rfl, p⟩
    · cases h
theorem AddrBad.le {L : List Nat} {m : Nat} (h : AddrBad L m) : 1 ≤ m ∧ m ≤ L.length + 1 := by
  have e : (lows L).length = L.length := by unfold lows; rw [List.length_map]
  have hE : ∀ l, hEnd l ≤ l.length := fun l => (List.takeWhile_prefix _).length_le
  rcases h with ⟨h1, h2⟩ | ⟨sc, n, h1, h2⟩
  · have := h2.le; omega
  · have hn := (schN_sc h1).2.1
    have h3 := hE (L.drop n)
    rw [List.length_drop] at h3
    rcases h2 with ⟨h2, j, h4, rfl⟩ | ⟨h2, j, h4, rfl⟩
    · have := h4.le
      unfold lows at this
      rw [List.length_map, List.length_take, List.length_drop] at this
      omega
    · have hj : j ≤ ((L.drop n).drop (hEnd (L.drop n))).length := by
        have t := (List.takeWhile_prefix psign (l := (L.drop n).drop (hEnd (L.drop n)))).length_le
        unfold pathR at h4
        split at h4
        · cases h4; omega
        · split at h4
          · cases h4
          · split at h4
            · cases h4
            · cases h4; exact t
      rw [List.length_drop, List.length_drop] at hj
      omega
end Kb
namespace Kb
open PySem PySem.Spec PyProof.Rows L2 TL
/-! ### beginnings of hosts -/
theorem sp1_glue (c : Nat) : ∀ (p s : List Nat) (C : List (List Nat)) (q h : List Nat) (T : List (List Nat)), sp1 c p = C ++ [q] → sp1 c s = h :: T → sp1 c (p ++ s) = C ++ (q ++ h) :: T
  | [], s, C, q, h, T, e1, e2 => by
    have e1 : [[]] = C ++ [q] := e1
    cases C with
    | nil =>
      simp only [List.nil_append, List.cons.injEq, and_true] at e1
      subst e1
      exact e2
    | cons a C =>
      simp at e1
  | x :: p, s, C, q, h, T, e1, e2 => by
    by_cases hx : x = c
    · subst hx
      rw [sp1_hit] at e1
      rw [List.cons_append, sp1_hit]
      cases C with
      | nil =>
        simp only [List.nil_append, List.cons.injEq] at e1
        exact absurd e1.2 (sp1_ne _ _)
      | cons a C =>
        rw [List.cons_append, List.cons.injEq] at e1
        rw [sp1_glue x p s C q h T e1.2 e2, ← e1.1]; rfl
    · obtain ⟨a, r, e⟩ := sp1_cons c p
      rw [sp1_miss hx e] at e1
      rw [List.cons_append]
      cases C with
      | nil =>
        simp only [List.nil_append, List.cons.injEq] at e1
        obtain ⟨rfl, rfl⟩ := e1
        rw [sp1_miss hx (sp1_glue c p s [] a h T e e2)]; rfl
      | cons b C =>
        rw [List.cons_append, List.cons.injEq] at e1
        obtain ⟨rfl, rfl⟩ := e1
        rw [sp1_miss hx (sp1_glue c p s (a :: C) q h T e e2)]; rfl
theorem hostB_of {l : List Nat} {L : List (List Nat)} (e : sp1 46 l = L) (h1 : l.length ≤ 100) (h2 : L.length ≤ 10) (h3 : ∀ p ∈ L, labB p = true) (h4 : digB (lastL L) = false) : hostB l = true := by
  unfold hostB hostL
  rw [e, h4, decide_eq_true h1, decide_eq_true h2, List.all_eq_true.mpr h3]; rfl
theorem labB_open {q h : List Nat} (hl : labB (q ++ h) = true) (hq : q ≠ []) (h19 : q.length ≤ 19) : labB (q ++ [97]) = true ∧ digB (q ++ [97]) = false := by
  unfold labB onlyB at hl
  simp only [Bool.and_eq_true, List.all_eq_true, decide_eq_true_eq] at hl
  obtain ⟨g1, ⟨g2, g3⟩, g4, g5⟩ := hl
  obtain ⟨a, r, rfl⟩ := List.exists_cons_of_ne_nil hq
  refine ⟨?_, ?_⟩
  · unfold labB onlyB
    simp only [Bool.and_eq_true, List.all_eq_true, decide_eq_true_eq]
    refine ⟨by simp at h19 ⊢; omega, ⟨fun c hc => ?_, by simp⟩, by simpa using g4, by rw [List.getLast?_concat]; decide⟩
    rcases List.mem_append.mp hc with m | m
    · exact g2 c (List.mem_append_left _ m)
    · rw [List.mem_singleton.mp m]; decide
  · unfold digB onlyB
    rw [List.all_append, show [97].all (fun c => decide (c ∈ digs)) = false by decide, Bool.and_false, Bool.false_and]
theorem labB_a : labB [97] = true ∧ digB [97] = false := by decide
theorem host_prefix {H : List Nat} (h : hostB H = true) {i : Nat} (hi : 1 ≤ i) (hl : i ≤ H.length) : goodL (H.take i) = true := by
  unfold goodL
  rcases Nat.lt_or_ge i H.length with hlt | hge
  · have hs : H.drop i ≠ [] := fun e => by rw [List.drop_eq_nil_iff] at e; omega
    obtain ⟨C, q, e1⟩ : ∃ C q, sp1 46 (H.take i) = C ++ [q] := ⟨_, _, (List.dropLast_concat_getLast (sp1_ne 46 (H.take i))).symm⟩
    obtain ⟨g, T, e2⟩ := sp1_cons 46 (H.drop i)
    have eH := sp1_glue 46 _ _ C q g T e1 e2
    rw [List.take_append_drop] at eH
    unfold hostB hostL at h
    rw [eH] at h
    simp only [Bool.and_eq_true, List.all_eq_true, decide_eq_true_eq] at h
    obtain ⟨h1, h2, h3, _⟩ := h
    rw [List.length_append, List.length_cons] at h2
    have hqg := h3 (q ++ g) (List.mem_append_right _ (List.mem_cons_self ..))
    have hC : ∀ p ∈ C, labB p = true := fun p hp => h3 p (List.mem_append_left _ hp)
    have lt : (H.take i).length = i := by rw [List.length_take]; omega
    suffices beginsB (H.take i) = true by rw [this, Bool.or_true]
    unfold beginsB
    by_cases hq : q = []
    · have : hostB (H.take i ++ [97]) = true := by
        refine hostB_of (L := C ++ [[97]]) (by rw [sp1_glue 46 _ [97] C q [97] [] e1 (by decide), hq]; rfl) (by rw [List.length_append, lt]; simp; omega) (by rw [List.length_append]; simp; omega) (fun p hp => ?_) (by rw [lastL_snoc]; exact labB_a.2)
        rcases List.mem_append.mp hp with m | m
        · exact hC p m
        · rw [List.mem_singleton.mp m]; exact labB_a.1
      rw [this]; simp
    · rcases Nat.lt_or_ge q.length 20 with h20 | h20
      · obtain ⟨o1, o2⟩ := labB_open hqg hq (by omega)
        have : hostB (H.take i ++ [97]) = true := by
          refine hostB_of (L := C ++ [q ++ [97]]) (sp1_glue 46 _ [97] C q [97] [] e1 (by decide)) (by rw [List.length_append, lt]; simp; omega) (by rw [List.length_append]; simp; omega) (fun p hp => ?_) (by rw [lastL_snoc]; exact o2)
          rcases List.mem_append.mp hp with m | m
          · exact hC p m
          · rw [List.mem_singleton.mp m]; exact o1
        rw [this]; simp
      · have hlab := lab_len hqg
        rw [List.length_append] at hlab
        have hg : g = [] := List.eq_nil_of_length_eq_zero (by omega)
        subst hg
        rw [List.append_nil] at hqg
        obtain ⟨x, s, es⟩ := List.exists_cons_of_ne_nil hs
        have hx : x = 46 := by
          by_cases hx : x = 46
          · exact hx
          · obtain ⟨a, r, e⟩ := sp1_cons 46 s
            rw [es, sp1_miss hx e] at e2
            simp at e2
        subst hx
        rw [es, sp1_hit, List.cons.injEq] at e2
        have hT : T ≠ [] := by rw [← e2.2]; exact sp1_ne _ _
        obtain ⟨t, T2, rfl⟩ := List.exists_cons_of_ne_nil hT
        have ht := lab_ne (h3 t (List.mem_append_right _ (List.mem_cons_of_mem _ (List.mem_cons_self ..))))
        have hsn : s ≠ [] := fun e => by
          have e3 := e2.2
          rw [e] at e3
          simp [sp1] at e3
          exact ht e3.1
        have hlen : 2 ≤ (H.drop i).length := by
          rw [es, List.length_cons]
          have := List.length_pos_iff.mpr hsn
          omega
        rw [List.length_drop] at hlen
        rw [List.length_cons] at h2
        have : hostB (H.take i ++ [46, 97]) = true := by
          refine hostB_of (L := (C ++ [q]) ++ [[97]]) (by rw [sp1_glue 46 _ [46, 97] C q [] [[97]] e1 (by decide), List.append_nil, List.append_assoc]; rfl) (by rw [List.length_append, lt]; simp; omega) (by rw [List.length_append, List.length_append]; simp; omega) (fun p hp => ?_) (by rw [lastL_snoc]; exact labB_a.2)
          rcases List.mem_append.mp hp with m | m
          · rcases List.mem_append.mp m with m | m
            · exact hC p m
            · rw [List.mem_singleton.mp m]; exact hqg
          · rw [List.mem_singleton.mp m]; exact labB_a.1
        rw [this]; simp
  · rw [List.take_of_length_le (by omega)]
    unfold beginsB
    rw [h]; simp
/-- the signs of a host -/
theorem host_sign {l : List Nat} (h : hostB l = true) : ∀ s ∈ l, s = 46 ∨ s ∈ lsig := fun s hs => by
  have hl : ∀ p ∈ sp1 46 l, labB p = true := by
    unfold hostB hostL at h
    simp only [Bool.and_eq_true, List.all_eq_true] at h
    exact h.2.2.1
  by_cases e : s = 46
  · exact .inl e
  · rw [← joinL_sp1 46 l] at hs
    have : ∀ L : List (List Nat), (∀ p ∈ L, labB p = true) → s ∈ joinL [46] L → s ∈ lsig := by
      intro L
      induction L with
      | nil => intro _ hs; cases hs
      | cons p L ih =>
        intro hL hs
        cases L with
        | nil => exact lab_sign (hL p (List.mem_cons_self ..)) hs
        | cons q r =>
          have hs : s ∈ p ++ (46 :: joinL [46] (q :: r)) := hs
          rcases List.mem_append.mp hs with a | a
          · exact lab_sign (hL p (List.mem_cons_self ..)) a
          · rcases List.mem_cons.mp a with a | a
            · exact absurd a e
            · exact ih (fun l hl => hL l (List.mem_cons_of_mem _ hl)) a
    exact .inr (this _ hl hs)
theorem hsign_ok {s : Nat} (h : s = 46 ∨ s ∈ lsig) : stop3 s = false ∧ lo1 s = s ∧ s < 128 := by
  rcases h with rfl | h
  · decide
  · simp only [lsig, List.mem_cons, List.not_mem_nil, or_false] at h
    have : ∀ s, s < 128 → (s = 45 ∨ (48 ≤ s ∧ s ≤ 57) ∨ (97 ≤ s ∧ s ≤ 122)) → stop3 s = false ∧ lo1 s = s ∧ s < 128 := by decide +kernel
    exact this s (by omega) (by omega)
theorem lows_host {l : List Nat} (h : ∀ s ∈ l, s = 46 ∨ s ∈ lsig) : lows l = l := by
  unfold lows
  exact (List.map_congr_left fun s hs => (hsign_ok (h s hs)).2.1).trans (List.map_id l)
theorem host_tells {l : List Nat} (h : hostB l = true) : tellsL l = true ∧ stripDot l = l ∧ tellsL (l ++ [46]) = true ∧ stripDot (l ++ [46]) = l := by
  have e : l.getLast? ≠ some 46 := fun e => by rw [host_dot e] at h; cases h
  have e2 := strip_other e
  refine ⟨by unfold tellsL; rw [e2]; exact h, e2, ?_, strip_dot⟩
  unfold tellsL
  rw [strip_dot]; exact h
end Kb
namespace Kb
open PySem PySem.Spec PyProof.Rows L2 TL
/-! ### texts that are put together -/
def Sch (sc : List Nat) (n : Nat) : Prop := (sc = [104, 116, 116, 112] ∧ n = 7) ∨ (sc = [104, 116, 116, 112, 115] ∧ n = 8)
theorem Sch.at {sc : List Nat} {n : Nat} (h : Sch sc n) (X : List Nat) : schN (sc ++ ([58, 47, 47] ++ X)) = some (sc, n) := by
  rcases h with ⟨rfl, rfl⟩ | ⟨rfl, rfl⟩ <;> rfl
theorem addr_built {sc A W R : List Nat} {n k : Nat} (hs : Sch sc n) (hA : lows A = sc ++ [58, 47, 47]) (hW : ∀ s ∈ W, stop3 s = false) (ht : tellsL (lows W) = true)
    (hR : ∀ c r, R = c :: r → stop3 c = true) (hk : pathR R = .ok k) : AddrOk (A ++ (W ++ R)) sc (stripDot (lows W)) (if k = 0 then [47] else R.take k) := by
  have hn : A.length = n := by
    have := congrArg List.length hA
    unfold lows at this
    rw [List.length_map] at this
    rw [this]
    rcases hs with ⟨rfl, rfl⟩ | ⟨rfl, rfl⟩ <;> rfl
  have hd : (A ++ (W ++ R)).drop n = W ++ R := by rw [← hn, List.drop_left]
  have hall : W.all (fun c => !stop3 c) = true := List.all_eq_true.mpr fun s h => by rw [hW s h]; rfl
  have he : hEnd (W ++ R) = W.length := by
    cases R with
    | nil => rw [List.append_nil]; exact hEnd_all hall
    | cons c r => exact hEnd_at (i := W.length) (by rw [List.take_left]; exact hall) (by rw [List.getElem?_append_right (Nat.le_refl _), Nat.sub_self]; rfl) (hR c r rfl)
  refine ⟨n, k, ?_, ?_, ?_, ?_, ?_⟩
  · unfold lows at *
    rw [List.map_append, hA, List.append_assoc]
    exact hs.at _
  · rw [hd, he, List.take_left]; exact ht
  · rw [hd, he, List.take_left]
  · rw [hd, he, List.drop_left]; exact hk
  · rw [hd, he, List.drop_left]
theorem path_tail {P t : List Nat} (h : P.all psign = true) (hl : P.length ≤ 200) (ht : ∀ c r, t = c :: r → stop2 c = true) : pathR (P ++ t) = .ok P.length := by
  cases t with
  | nil => rw [List.append_nil]; exact pathR_end h hl
  | cons c r => exact pathR_stop (i := P.length) (by rw [List.take_left]; exact h) hl (by rw [List.getElem?_append_right (Nat.le_refl _), Nat.sub_self]; rfl) (ht c r rfl)
theorem stop23 {c : Nat} (h : stop2 c = true) : stop3 c = true := by
  unfold stop3
  unfold stop2 at h
  rw [h, Bool.or_true]
theorem pathB_parts {P : List Nat} (h : pathB P = true) : P.all psign = true ∧ P.length ≤ 200 ∧ ∃ r, P = 47 :: r := by
  unfold pathB at h
  rw [Bool.and_eq_true, Bool.and_eq_true, decide_eq_true_eq, List.isPrefixOf_iff_prefix] at h
  obtain ⟨r, e⟩ := h.2.1
  exact ⟨h.2.2, h.1, r, e.symm⟩
/-- a beginning of an address's text -/
theorem addr_prefix {sc W P : List Nat} {n z : Nat} (hs : Sch sc n) (hW : hostB W = true) (hP : pathB P = true) (hz : z < (sc ++ ([58, 47, 47] ++ (W ++ P))).length) :
    AddrBad ((sc ++ ([58, 47, 47] ++ (W ++ P))).take z) (z + 1) ∨ ∃ ho pa, AddrOk ((sc ++ ([58, 47, 47] ++ (W ++ P))).take z) sc ho pa ∧ hostB ho = true ∧ pathB pa = true ∧
      ((sc ++ ([58, 47, 47] ++ (W ++ P))).take z = sc ++ ([58, 47, 47] ++ (ho ++ pa)) ∨ (sc ++ ([58, 47, 47] ++ (W ++ P))).take z = (sc ++ ([58, 47, 47] ++ (ho ++ pa))).dropLast ∨ ((sc ++ ([58, 47, 47] ++ (W ++ P))).take z).getLast? = some 46) := by
  obtain ⟨p1, p2, r, rfl⟩ := pathB_parts hP
  have hsg := host_sign hW
  have hn : (sc ++ [58, 47, 47]).length = n := by rcases hs with ⟨rfl, rfl⟩ | ⟨rfl, rfl⟩ <;> rfl
  have eA : sc ++ ([58, 47, 47] ++ (W ++ 47 :: r)) = (sc ++ [58, 47, 47]) ++ (W ++ 47 :: r) := by rw [List.append_assoc]
  have lA : lows (sc ++ [58, 47, 47]) = sc ++ [58, 47, 47] := by rcases hs with ⟨rfl, rfl⟩ | ⟨rfl, rfl⟩ <;> decide
  rcases Nat.lt_or_ge z n with h1 | h1
  · left
    have e : (sc ++ ([58, 47, 47] ++ (W ++ 47 :: r))).take z = (sc ++ [58, 47, 47]).take z := by rw [eA, List.take_append_of_le_length (by omega)]
    rw [e]
    left
    have k1 : ∀ z, z < 7 → schN (lows (([104, 116, 116, 112] ++ [58, 47, 47]).take z)) = none ∧ ∀ j, j < z → schB ((lows (([104, 116, 116, 112] ++ [58, 47, 47]).take z)).take (j + 1)) = true := by decide +kernel
    have k2 : ∀ z, z < 8 → schN (lows (([104, 116, 116, 112, 115] ++ [58, 47, 47]).take z)) = none ∧ ∀ j, j < z → schB ((lows (([104, 116, 116, 112, 115] ++ [58, 47, 47]).take z)).take (j + 1)) = true := by decide +kernel
    have lz : (lows ((sc ++ [58, 47, 47]).take z)).length = z := by
      unfold lows
      rw [List.length_map, List.length_take]; omega
    rcases hs with ⟨rfl, rfl⟩ | ⟨rfl, rfl⟩
    · exact ⟨(k1 z h1).1, .inl ⟨by rw [lz], fun j hj => (k1 z h1).2 j (by rw [lz] at hj; exact hj)⟩⟩
    · exact ⟨(k2 z h1).1, .inl ⟨by rw [lz], fun j hj => (k2 z h1).2 j (by rw [lz] at hj; exact hj)⟩⟩
  · have e : (sc ++ ([58, 47, 47] ++ (W ++ 47 :: r))).take z = (sc ++ [58, 47, 47]) ++ (W ++ 47 :: r).take (z - n) := by
      rw [eA, List.take_append, List.take_of_length_le (by omega), hn]
    have hz2 : z - n < (W ++ 47 :: r).length := by
      rw [eA, List.length_append] at hz; omega
    rw [e]
    rw [List.length_append] at hz2
    rcases Nat.lt_or_ge (z - n) (W.length + 1) with h2 | h2
    · -- within the host
      have e2 : (W ++ 47 :: r).take (z - n) = W.take (z - n) := List.take_append_of_le_length (by omega)
      rw [e2]
      have hsg2 : ∀ s ∈ W.take (z - n), s = 46 ∨ s ∈ lsig := fun s h => hsg s (List.mem_of_mem_take h)
      have lw : (W.take (z - n)).length = z - n := by rw [List.length_take]; omega
      generalize hQ : W.take (z - n) = U at hsg2 lw
      have lU := lows_host hsg2
      cases ht : tellsL U with
      | true =>
        right
        have b := addr_built (R := []) (k := 0) hs lA (fun s h => (hsign_ok (hsg2 s h)).1) (by rw [lU]; exact ht) (fun c r e => by cases e) rfl
        rw [List.append_nil, lU, if_pos rfl] at b
        refine ⟨_, _, b, ht, by decide, .inr ?_⟩
        by_cases hd : U.getLast? = some 46
        · right
          have hne : U ≠ [] := fun e => by rw [e] at hd; cases hd
          obtain ⟨u, d, rfl⟩ := snoc_of_ne hne
          rw [List.getLast?_concat] at hd
          rw [← List.append_assoc, List.getLast?_concat]
          exact hd
        · left
          rw [strip_other hd, show sc ++ ([58, 47, 47] ++ (U ++ [47])) = ((sc ++ [58, 47, 47]) ++ U) ++ [47] by simp, List.dropLast_concat]
      | false =>
        left; right
        have hn2 : ((sc ++ [58, 47, 47]) ++ U).drop n = U := by rw [← hn, List.drop_left]
        have he : hEnd U = U.length := hEnd_all (List.all_eq_true.mpr fun s h => by rw [(hsign_ok (hsg2 s h)).1]; rfl)
        refine ⟨sc, n, ?_, .inl ?_⟩
        · unfold lows at lA ⊢
          rw [List.map_append, lA, List.append_assoc]
          exact hs.at _
        · rw [hn2, he, List.take_length, lU]
          refine ⟨ht, U.length + 1, .inl ⟨rfl, fun j hj => ?_⟩, by omega⟩
          rw [← hQ, List.take_take, Nat.min_eq_left (by omega)]
          exact host_prefix hW (by omega) (by omega)
    · -- within the path
      obtain ⟨i, hi⟩ : ∃ i, z - n = W.length + (i + 1) := ⟨z - n - W.length - 1, by omega⟩
      have e2 : (W ++ 47 :: r).take (z - n) = W ++ 47 :: r.take i := by
        rw [hi, List.take_length_add_append, List.take_succ_cons]
      rw [e2]
      have hp : pathB (47 :: r.take i) = true := by
        unfold pathB
        rw [List.all_cons, Bool.and_eq_true] at p1
        rw [decide_eq_true (by rw [List.length_cons] at p2 ⊢; rw [List.length_take]; omega), Bool.true_and, List.all_cons, p1.1, Bool.true_and, Bool.and_eq_true]
        exact ⟨by simp [List.isPrefixOf], List.all_eq_true.mpr fun s h => List.all_eq_true.mp p1.2 s (List.mem_of_mem_take h)⟩
      obtain ⟨q1, q2, _⟩ := pathB_parts hp
      right
      have ht := host_tells hW
      have lU := lows_host hsg
      have b := addr_built (R := 47 :: r.take i) (k := (47 :: r.take i).length) hs lA (fun s h => (hsign_ok (hsg s h)).1) (by rw [lU]; exact ht.1) (fun c r e => by cases e; decide) (pathR_end q1 q2)
      rw [lU, ht.2.1, if_neg (by simp), List.take_length] at b
      exact ⟨_, _, b, hW, hp, .inl (by simp)⟩
end Kb
namespace Kb
open PySem PySem.Spec PyProof.Rows L2 TL
theorem cutS_two (z : Str) (n i : Nat) : tl (cutS z (some (n : Int)) (some ((n + i : Nat) : Int))) = ((tl z).drop n).take i := by
  show ((tl z).drop (HT.sIx z.length 0 (some (n : Int)))).take (HT.sIx z.length z.length (some ((n + i : Nat) : Int)) - HT.sIx z.length 0 (some (n : Int))) = _
  rw [HT.sIx_nat, HT.sIx_nat, len_tl]
  rcases Nat.le_total (tl z).length n with h | h
  · rw [Nat.min_eq_right h, List.drop_eq_nil_of_le h, List.drop_eq_nil_of_le (Nat.le_refl _), List.take_nil, List.take_nil]
  · rw [Nat.min_eq_left h]
    rcases Nat.le_total (tl z).length (n + i) with g | g
    · rw [Nat.min_eq_right g, List.take_of_length_le (by rw [List.length_drop]; omega), List.take_of_length_le (by rw [List.length_drop]; omega)]
    · rw [Nat.min_eq_left g, show n + i - n = i by omega]
end Kb
namespace Kb
theorem pathR_le {r : List Nat} {k : Nat} (h : pathR r = .ok k) : k ≤ r.length := by
  have t := (List.takeWhile_prefix psign (l := r)).length_le
  unfold pathR at h
  split at h
  · cases h
  · split at h
    · cases h; exact t
    · split at h
      · cases h; exact t
      · cases h
end Kb
namespace Kb
open PySem PySem.Spec PyProof.Rows L2 TL
def schemes2 : List Str := [("http" : Str), "https"]
theorem schemes_at {i : Nat} {e : Str} (h : schemes2[i]? = some e) : (i = 0 ∧ e = "http") ∨ (i = 1 ∧ e = "https") := by
  rcases i with _ | _ | i
  · cases h; exact .inl ⟨rfl, rfl⟩
  · cases h; exact .inr ⟨rfl, rfl⟩
  · cases h
theorem tl_mark0 : tl (("http" : Str) ++ ("://" : Str)) = hS := by decide +kernel
theorem tl_mark1 : tl (("https" : Str) ++ ("://" : Str)) = sS := by decide +kernel
theorem marks_len {e : Str} (h : e ∈ schemes2) : e.length + ("://" : Str).length ≤ 8 := by
  have : ∀ e ∈ schemes2, e.length + ("://" : Str).length ≤ 8 := by decide +kernel
  exact this e h
theorem tl_mark3 : tl ("://" : Str) = [58, 47, 47] := by decide +kernel
end Kb
namespace Kb
open PySem PySem.Spec PyProof.Rows L2 TL
theorem addr_mk {sc A W P t ho : List Nat} {n : Nat} (hs : Sch sc n) (hA : lows A = sc ++ [58, 47, 47]) (hW : ∀ s ∈ W, stop3 s = false) (ht : tellsL (lows W) = true) (hh : stripDot (lows W) = ho) (hP : pathB P = true)
    (hT : ∀ c r, t = c :: r → stop2 c = true) : AddrOk (A ++ (W ++ (P ++ t))) sc ho P := by
  obtain ⟨p1, p2, r, rfl⟩ := pathB_parts hP
  have := addr_built (R := (47 :: r) ++ t) (k := (47 :: r).length) hs hA hW ht (fun c r2 e => by cases e; decide) (path_tail p1 p2 hT)
  rw [hh, if_neg (by simp), List.take_left] at this
  exact this
theorem addr_mk0 {sc A W t ho : List Nat} {n : Nat} (hs : Sch sc n) (hA : lows A = sc ++ [58, 47, 47]) (hW : ∀ s ∈ W, stop3 s = false) (ht : tellsL (lows W) = true) (hh : stripDot (lows W) = ho)
    (hT : ∀ c r, t = c :: r → stop2 c = true) : AddrOk (A ++ (W ++ t)) sc ho [47] := by
  have := addr_built (R := t) (k := 0) hs hA hW ht (fun c r2 e => stop23 (hT c r2 e)) (path_tail (P := []) rfl (Nat.zero_le _) hT)
  rw [hh, if_pos rfl] at this
  exact this
theorem sch_of {x : Str} (h : x ∈ schemes2) : ∃ n, Sch (tl x) n ∧ lows (tl x ++ [58, 47, 47]) = tl x ++ [58, 47, 47] ∧ lows ((tl x).map up1 ++ [58, 47, 47]) = tl x ++ [58, 47, 47] ∧ ascii x ∧ x.length ≤ 5 := by
  have : x = "http" ∨ x = "https" := by
    unfold schemes2 at h
    simpa using h
  rcases this with rfl | rfl
  · exact ⟨7, .inl ⟨by decide +kernel, rfl⟩, by decide +kernel, by decide +kernel, ascii_lit (by decide +kernel), by decide +kernel⟩
  · exact ⟨8, .inr ⟨by decide +kernel, rfl⟩, by decide +kernel, by decide +kernel, ascii_lit (by decide +kernel), by decide +kernel⟩
theorem sch_in {x y : Str} (h : x ∈ schemes2) (e : tl y = tl x) : y ∈ schemes2 := by rw [ext_tl e]; exact h
theorem up_host {l : List Nat} (h : ∀ s ∈ l, s = 46 ∨ s ∈ lsig) : lows (l.map up1) = l ∧ ∀ s ∈ l.map up1, stop3 s = false := by
  have key : ∀ s, s < 128 → (s = 46 ∨ s = 45 ∨ (48 ≤ s ∧ s ≤ 57) ∨ (97 ≤ s ∧ s ≤ 122)) → lo1 (up1 s) = s ∧ stop3 (up1 s) = false := by decide +kernel
  have k2 : ∀ s ∈ l, lo1 (up1 s) = s ∧ stop3 (up1 s) = false := fun s hs => by
    rcases h s hs with rfl | q
    · decide
    · simp only [lsig, List.mem_cons, List.not_mem_nil, or_false] at q
      exact key s (by omega) (by omega)
  refine ⟨?_, fun s hs => ?_⟩
  · unfold lows
    rw [List.map_map]
    exact (List.map_congr_left fun s hs => (k2 s hs).1).trans (List.map_id l)
  · obtain ⟨c, hc, rfl⟩ := List.mem_map.mp hs
    exact (k2 c hc).2
def big : List Nat := joinL [46] (List.replicate 5 (List.replicate 20 97))
theorem bad108 : AddrBad (hS ++ (big ++ [47])) 108 := by
  have h1 : schN (lows (hS ++ (big ++ [47]))) = some ([104, 116, 116, 112], 7) := by decide +kernel
  have h2 : (hS ++ (big ++ [47])).drop 7 = big ++ [47] := by decide +kernel
  have h3 : hEnd (big ++ [47]) = 104 := by decide +kernel
  have h4 : lows ((big ++ [47]).take 104) = big := by decide +kernel
  have h5 : hostB (big.take 100) = true := by decide +kernel
  refine .inr ⟨_, 7, h1, .inl ?_⟩
  rw [h2, h3, h4]
  refine ⟨by decide +kernel, 101, .inr ⟨by decide, by decide +kernel, by decide +kernel, fun j hj => ?_⟩, rfl⟩
  have := host_prefix h5 (i := j + 1) (by omega) (by rw [show (big.take 100).length = 100 by decide +kernel]; omega)
  rw [List.take_take, Nat.min_eq_left (by omega)] at this
  exact this
theorem lay_strsT {W : List Str} (h : ∀ w ∈ W, ascii w) : SeqAt.shaped (.tuple (W.map PyData.str)) = true := by
  unfold SeqAt.shaped
  rw [PyData.canLay0, canLay_strs W fun w hw => lay_str (h w hw), PyData.depth, depth_strs]; rfl
theorem eqv_strsT (W Z : List Str) : PyData.eqv (.tuple (W.map PyData.str)) (.tuple (Z.map PyData.str)) = decide (W = Z) := by rw [PyData.eqv, eqvAll_strs]
theorem ascii_host {y : Str} (h : hostB (tl y) = true) : ascii y := fun s hs => (hsign_ok (host_sign h s hs)).2.2
theorem ascii_path {y : Str} (h : pathB (tl y) = true) : ascii y := fun s hs => by
  have := List.all_eq_true.mp (pathB_parts h).1 s hs
  unfold psign at this
  simp only [Bool.and_eq_true, decide_eq_true_eq] at this
  omega
end Kb

namespace Kb
open PySem PySem.Spec PyProof.Rows L2 TL
/-! ### short plain texts -/
structure Pl (m c : Nat) (l : List Nat) : Prop where
  len : l.length ≤ m
  lt : ∀ s ∈ l, s < 128 ∧ s ≠ 37
  dots : l.count 46 ≤ c
def plB (m c : Nat) (l : List Nat) : Bool := decide (l.length ≤ m) && (l.all (fun s => decide (s < 128) && decide (s ≠ 37)) && decide (l.count 46 ≤ c))
theorem Pl.of {m c : Nat} {l : List Nat} (h : plB m c l = true) : Pl m c l := by
  unfold plB at h
  simp only [Bool.and_eq_true, decide_eq_true_eq, List.all_eq_true] at h
  exact ⟨h.1, h.2.1, h.2.2⟩
theorem Pl.app {m c m' c' : Nat} {l l' : List Nat} (h : Pl m c l) (k : Pl m' c' l') : Pl (m + m') (c + c') (l ++ l') :=
  ⟨by rw [List.length_append]; exact Nat.add_le_add h.len k.len, fun s hs => (List.mem_append.mp hs).elim (h.lt s) (k.lt s), by rw [List.count_append]; exact Nat.add_le_add h.dots k.dots⟩
theorem Pl.sub {m c : Nat} {l l' : List Nat} (h : Pl m c l) (k : l'.Sublist l) : Pl m c l' :=
  ⟨Nat.le_trans k.length_le h.len, fun s hs => h.lt s (k.subset hs), Nat.le_trans (k.count_le 46) h.dots⟩
theorem Pl.more {m c m' c' : Nat} {l : List Nat} (h : Pl m c l) (e1 : m ≤ m') (e2 : c ≤ c') : Pl m' c' l := ⟨Nat.le_trans h.len e1, h.lt, Nat.le_trans h.dots e2⟩
theorem Pl.ascii {m c : Nat} {x : Str} (h : Pl m c (tl x)) : ascii x := fun s hs => (h.lt s hs).1
theorem Pl.small {m c : Nat} {x : Str} (h : Pl m c (tl x)) (e : m ≤ 1000) : smallS x := ⟨by rw [len_tl]; exact Nat.le_trans h.len e, h.ascii⟩
theorem sp1_count (c : Nat) : ∀ l : List Nat, (sp1 c l).length = l.count c + 1
  | [] => by simp [sp1]
  | x :: l => by
    obtain ⟨q, r, e⟩ := sp1_cons c l
    have ih := sp1_count c l
    by_cases hx : x = c
    · subst hx; rw [sp1_hit, List.length_cons, ih, List.count_cons_self]
    · rw [sp1_miss hx e, List.count_cons_of_ne hx, ← ih, e]; rfl
def lawHostB (l : List Nat) : Bool := (sp1 46 l).all labB && (!digB (lastL (sp1 46 l)) || ((sp1 46 l).all numB && decide ((sp1 46 l).length = 4)))
theorem Pl.host {m c : Nat} {l : List Nat} (h : Pl m c l) (e1 : m ≤ 100) (e2 : c ≤ 9) : lawHostB l = hostB l := by
  have h1 := h.len
  have h2 := h.dots
  unfold hostB hostL lawHostB
  rw [decide_eq_true (show l.length ≤ 100 by omega), decide_eq_true (show (sp1 46 l).length ≤ 10 by rw [sp1_count]; omega), Bool.true_and, Bool.true_and]
theorem low46 : ∀ c, c < 128 → (lo1 c = 46 ↔ c = 46) := by decide +kernel
theorem low_lt : ∀ c, c < 128 → lo1 c < 128 := by decide +kernel
theorem low37 : ∀ c, c < 128 → c ≠ 37 → lo1 c ≠ 37 := by decide +kernel
theorem count_lows : ∀ {l : List Nat}, (∀ s ∈ l, s < 128) → (lows l).count 46 = l.count 46
  | [], _ => rfl
  | x :: l, h => by
    have ih := count_lows (l := l) fun s hs => h s (List.mem_cons_of_mem _ hs)
    unfold lows at ih ⊢
    rw [List.map_cons]
    by_cases hx : x = 46
    · subst hx
      rw [show lo1 46 = 46 by decide, List.count_cons_self, List.count_cons_self, ih]
    · rw [List.count_cons_of_ne hx, List.count_cons_of_ne (fun e => hx ((low46 x (h x (List.mem_cons_self ..))).mp e)), ih]
theorem Pl.lows {m c : Nat} {l : List Nat} (h : Pl m c l) : Pl m c (lows l) := by
  refine ⟨by unfold Kb.lows; rw [List.length_map]; exact h.len, fun s hs => ?_, by rw [count_lows fun s hs => (h.lt s hs).1]; exact h.dots⟩
  obtain ⟨x, hx, rfl⟩ := List.mem_map.mp hs
  exact ⟨low_lt x (h.lt x hx).1, low37 x (h.lt x hx).1 (h.lt x hx).2⟩
/-! ### the part in front of a query or a mark -/
theorem sp1_head (c : Nat) : ∀ l : List Nat, ∃ r, sp1 c l = l.takeWhile (fun s => !decide (s = c)) :: r
  | [] => ⟨[], rfl⟩
  | x :: l => by
    obtain ⟨r, e⟩ := sp1_head c l
    by_cases hx : x = c
    · subst hx
      exact ⟨_, by rw [sp1_hit, List.takeWhile_cons_of_neg (by simp)]⟩
    · exact ⟨r, by rw [sp1_miss hx e, List.takeWhile_cons_of_pos (by simp [hx])]⟩
theorem tw_tw {p q : Nat → Bool} : ∀ l : List Nat, (l.takeWhile p).takeWhile q = l.takeWhile fun s => p s && q s
  | [] => rfl
  | x :: l => by
    cases hp : p x with
    | false => rw [List.takeWhile_cons_of_neg (by rw [hp]; exact Bool.false_ne_true), List.takeWhile_cons_of_neg (by rw [hp]; exact Bool.false_ne_true)]; rfl
    | true =>
      cases hq : q x with
      | false => rw [List.takeWhile_cons_of_pos hp, List.takeWhile_cons_of_neg (by rw [hq]; exact Bool.false_ne_true), List.takeWhile_cons_of_neg (by rw [hp, hq]; exact Bool.false_ne_true)]
      | true => rw [List.takeWhile_cons_of_pos hp, List.takeWhile_cons_of_pos hq, List.takeWhile_cons_of_pos (by rw [hp, hq]; rfl), tw_tw l]
def cutQ (l : List Nat) : List Nat := l.takeWhile fun c => !stop2 c
theorem cutQ_two (l : List Nat) : (l.takeWhile fun s => !decide (s = 63)).takeWhile (fun s => !decide (s = 35)) = cutQ l := by
  rw [tw_tw]
  unfold cutQ stop2
  congr 1
  funext s
  rw [Bool.not_or]
theorem cutQ_rest : ∀ l : List Nat, ∃ t, l = cutQ l ++ t ∧ (∀ c r, t = c :: r → stop2 c = true) ∧ ∀ s ∈ cutQ l, stop2 s = false := by
  intro l
  induction l with
  | nil => exact ⟨[], rfl, fun c r e => (by cases e), fun s hs => by cases hs⟩
  | cons x l ih =>
    obtain ⟨t, e, h1, h2⟩ := ih
    cases hx : stop2 x with
    | true =>
      have : cutQ (x :: l) = [] := List.takeWhile_cons_of_neg (by rw [hx]; exact Bool.false_ne_true)
      rw [this]
      exact ⟨x :: l, rfl, fun c r e => by cases e; exact hx, fun s hs => by cases hs⟩
    | false =>
      have : cutQ (x :: l) = x :: cutQ l := List.takeWhile_cons_of_pos (by rw [hx]; rfl)
      rw [this]
      refine ⟨t, by rw [List.cons_append, ← e], h1, fun s hs => ?_⟩
      rcases List.mem_cons.mp hs with rfl | q
      · exact hx
      · exact h2 s q
theorem pre_app {g a b : List Nat} (h : g.isPrefixOf a = true) : g.isPrefixOf (a ++ b) = true :=
  List.isPrefixOf_iff_prefix.mpr ((List.isPrefixOf_iff_prefix.mp h).trans (List.prefix_append a b))
/-- a beginning without the sign stands in front of it -/
theorem pre_cut {g a t : List Nat} (ht : ∀ c r, t = c :: r → c ∉ g) (h : g.isPrefixOf (a ++ t) = true) : g.isPrefixOf a = true := by
  have p := List.isPrefixOf_iff_prefix.mp h
  rcases Nat.lt_or_ge a.length g.length with q | q
  · exfalso
    cases t with
    | nil =>
      rw [List.append_nil] at p
      have := p.length_le
      omega
    | cons c r =>
      obtain ⟨u, e⟩ := p
      have : (a ++ c :: r)[a.length]? = some c := by rw [List.getElem?_append_right (Nat.le_refl _), Nat.sub_self]; rfl
      rw [← e, List.getElem?_append_left q] at this
      exact ht c r rfl (List.mem_of_getElem? this)
  · exact List.isPrefixOf_iff_prefix.mpr (List.prefix_of_prefix_length_le p (List.prefix_append a t) q)
theorem stop_not {c : Nat} (h : stop2 c = true) : c ∉ hS ∧ c ∉ sS ∧ lo1 c = c := by
  unfold stop2 at h
  rw [Bool.or_eq_true, decide_eq_true_eq, decide_eq_true_eq] at h
  rcases h with rfl | rfl <;> decide
theorem lows_app (a b : List Nat) : lows (a ++ b) = lows a ++ lows b := List.map_append
theorem lows_stop {t : List Nat} (h : ∀ c r, t = c :: r → stop2 c = true) : ∀ c r, lows t = c :: r → stop2 c = true := fun c r e => by
  cases t with
  | nil => cases e
  | cons x t =>
    have hx := h x t rfl
    unfold lows at e
    rw [List.map_cons, List.cons.injEq] at e
    rw [← e.1, (stop_not hx).2.2]; exact hx
theorem schN_cut {a t : List Nat} (h : ∀ c r, t = c :: r → stop2 c = true) : schN (lows (a ++ t)) = schN (lows a) := by
  have ht := lows_stop h
  rw [lows_app]
  have e : ∀ g : List Nat, (∀ c, stop2 c = true → c ∉ g) → g.isPrefixOf (lows a ++ lows t) = g.isPrefixOf (lows a) := fun g hg => by
    rw [Bool.eq_iff_iff]
    exact ⟨fun p => pre_cut (fun c r e => hg c (ht c r e)) p, pre_app⟩
  unfold schN
  rw [e hS fun c hc => (stop_not hc).1, e sS fun c hc => (stop_not hc).2.1]
theorem schBad_cut {a t : List Nat} {k : Nat} (h : ∀ c r, t = c :: r → stop2 c = true) (b : Bad1 schB (lows a) k) : Bad1 schB (lows (a ++ t)) k := by
  have ht := lows_stop h
  rw [lows_app]
  rcases b with ⟨rfl, b2⟩ | ⟨b0, b1, b2, b3⟩
  · cases e : lows t with
    | nil => rw [List.append_nil]; exact .inl ⟨rfl, b2⟩
    | cons c r =>
      refine .inr ⟨by omega, by rw [List.length_append, List.length_cons]; omega, ?_, fun j hj => by rw [List.take_append_of_le_length (by omega)]; exact b2 j (by omega)⟩
      have hc := ht c r e
      have mem : c ∈ (lows a ++ c :: r).take ((lows a).length + 1) := by
        rw [List.take_length_add_append, List.take_succ_cons]
        exact List.mem_append_right _ (List.mem_cons_self ..)
      unfold schB
      rw [Bool.or_eq_false_iff]
      constructor
      · rw [Bool.eq_false_iff]
        exact fun p => (stop_not hc).1 ((List.isPrefixOf_iff_prefix.mp p).subset mem)
      · rw [Bool.eq_false_iff]
        exact fun p => (stop_not hc).2.1 ((List.isPrefixOf_iff_prefix.mp p).subset mem)
  · refine .inr ⟨b0, by rw [List.length_append]; omega, by rw [List.take_append_of_le_length b1]; exact b2, fun j hj => by rw [List.take_append_of_le_length (by omega)]; exact b3 j hj⟩
def beforeS (l : List Nat) : List Nat := l.takeWhile fun s => !decide (s = 47)
theorem hEnd_cut : ∀ {m t : List Nat}, (∀ s ∈ m, stop2 s = false) → (∀ c r, t = c :: r → stop2 c = true) → hEnd (m ++ t) = (beforeS m).length
  | [], t, _, h => by
    cases t with
    | nil => rfl
    | cons c r =>
      unfold hEnd
      rw [List.nil_append, List.takeWhile_cons_of_neg (by rw [stop23 (h c r rfl)]; exact Bool.false_ne_true)]; rfl
  | x :: m, t, hm, h => by
    have ih := hEnd_cut (m := m) (t := t) (fun s hs => hm s (List.mem_cons_of_mem _ hs)) h
    have hx := hm x (List.mem_cons_self ..)
    unfold hEnd beforeS at ih ⊢
    by_cases h47 : x = 47
    · subst h47
      rw [List.cons_append, List.takeWhile_cons_of_neg (by decide), List.takeWhile_cons_of_neg (by decide)]
    · have : stop3 x = false := by
        unfold stop3
        unfold stop2 at hx
        rw [hx, decide_eq_false h47]; rfl
      rw [List.cons_append, List.takeWhile_cons_of_pos (by rw [this]; rfl), List.takeWhile_cons_of_pos (by rw [decide_eq_false h47]; rfl), List.length_cons, List.length_cons, ih]
theorem beforeS_take (l : List Nat) : l.take (beforeS l).length = beforeS l := by
  have := List.takeWhile_prefix (fun s => !decide (s = 47)) (l := l)
  exact (List.prefix_iff_eq_take.mp this).symm
theorem beforeS_lows : ∀ {l : List Nat}, (∀ s ∈ l, s < 128) → beforeS (lows l) = lows (beforeS l)
  | [], _ => rfl
  | x :: l, h => by
    have ih := beforeS_lows (l := l) fun s hs => h s (List.mem_cons_of_mem _ hs)
    have key : ∀ c, c < 128 → (lo1 c = 47 ↔ c = 47) := by decide +kernel
    unfold lows beforeS at ih ⊢
    rw [List.map_cons]
    by_cases hx : x = 47
    · subst hx; rw [List.takeWhile_cons_of_neg (by decide), List.takeWhile_cons_of_neg (by decide)]; rfl
    · rw [List.takeWhile_cons_of_pos (by rw [decide_eq_false (fun e => hx ((key x (h x (List.mem_cons_self ..))).mp e))]; rfl), List.takeWhile_cons_of_pos (by rw [decide_eq_false hx]; rfl), List.map_cons, ih]
end Kb
namespace Kb
open PySem PySem.Spec PyProof.Rows L2 TL
theorem due_parts {L sc : List Nat} {n : Nat} (h : schN (lows (cutQ L)) = some (sc, n)) : ∃ t, (∀ c r, t = c :: r → stop2 c = true) ∧ schN (lows L) = some (sc, n) ∧ n ≤ (cutQ L).length ∧ n = sc.length + 3 ∧
    (L.drop n).take (hEnd (L.drop n)) = beforeS ((cutQ L).drop n) ∧ hEnd (L.drop n) = (beforeS ((cutQ L).drop n)).length ∧
    (L.drop n).drop (hEnd (L.drop n)) = ((cutQ L).drop n).drop (beforeS ((cutQ L).drop n)).length ++ t ∧ ∀ s ∈ cutQ L, stop2 s = false := by
  obtain ⟨t, e, h1, h2⟩ := cutQ_rest L
  obtain ⟨_, hn, hn3, _⟩ := schN_sc h
  have hn : n ≤ (cutQ L).length := by unfold lows at hn; rw [List.length_map] at hn; exact hn
  have ed : L.drop n = (cutQ L).drop n ++ t := by
    conv => lhs; rw [e]
    rw [List.drop_append_of_le_length hn]
  have eh : hEnd (L.drop n) = (beforeS ((cutQ L).drop n)).length := by
    rw [ed]
    exact hEnd_cut (fun s hs => h2 s (List.mem_of_mem_drop hs)) h1
  have lb : (beforeS ((cutQ L).drop n)).length ≤ ((cutQ L).drop n).length := (List.takeWhile_prefix _).length_le
  refine ⟨t, h1, ?_, hn, hn3, ?_, eh, ?_, h2⟩
  · conv => lhs; rw [e]
    rw [schN_cut h1]; exact h
  · rw [eh, ed, List.take_append_of_le_length lb, beforeS_take]
  · rw [eh, ed, List.drop_append_of_le_length lb]
theorem due_bad0 {L : List Nat} {k : Nat} (h : schN (lows (cutQ L)) = none) (b : Bad1 schB (lows (cutQ L)) k) : AddrBad L k := by
  obtain ⟨t, e, h1, h2⟩ := cutQ_rest L
  left
  constructor
  · conv => lhs; rw [e]
    rw [schN_cut h1]; exact h
  · rw [e]
    exact schBad_cut h1 b
theorem due_bad1 {L sc : List Nat} {n j : Nat} (h : schN (lows (cutQ L)) = some (sc, n)) (ht : tellsL (lows (beforeS ((cutQ L).drop n))) = false) (b : Bad1 goodL (lows (beforeS ((cutQ L).drop n))) j) : AddrBad L (n + j) := by
  obtain ⟨t, h1, h2, h3, h4, h5, h6, h7, h8⟩ := due_parts h
  exact .inr ⟨sc, n, h2, .inl ⟨by rw [h5]; exact ht, j, by rw [h5]; exact b, rfl⟩⟩
theorem due_bad2 {L sc : List Nat} {n i c : Nat} (h : schN (lows (cutQ L)) = some (sc, n)) (ht : tellsL (lows (beforeS ((cutQ L).drop n))) = true)
    (ha : ((((cutQ L).drop n).drop (beforeS ((cutQ L).drop n)).length).take i).all psign = true) (hi : i ≤ 200) (hc : (((cutQ L).drop n).drop (beforeS ((cutQ L).drop n)).length)[i]? = some c) (hp : psign c = false) :
    AddrBad L (n + (beforeS ((cutQ L).drop n)).length + i + 1) := by
  obtain ⟨t, h1, h2, h3, h4, h5, h6, h7, h8⟩ := due_parts h
  have hl := (List.getElem?_eq_some_iff.mp hc).1
  refine .inr ⟨sc, n, h2, .inr ⟨by rw [h5]; exact ht, i, ?_, by rw [h6]⟩⟩
  rw [h7]
  exact pathR_sign (c := c) (by rw [List.take_append_of_le_length (by omega)]; exact ha) hi (by rw [List.getElem?_append_left hl]; exact hc) (h8 c (List.mem_of_mem_drop (List.mem_of_mem_drop (List.mem_of_getElem? hc)))) hp
theorem due_ok {L sc : List Nat} {n : Nat} (h : schN (lows (cutQ L)) = some (sc, n)) (ht : tellsL (lows (beforeS ((cutQ L).drop n))) = true)
    (ha : (((cutQ L).drop n).drop (beforeS ((cutQ L).drop n)).length).all psign = true) (hl : (((cutQ L).drop n).drop (beforeS ((cutQ L).drop n)).length).length ≤ 200) :
    AddrOk L sc (stripDot (lows (beforeS ((cutQ L).drop n)))) (if ((cutQ L).drop n).drop (beforeS ((cutQ L).drop n)).length = [] then [47] else ((cutQ L).drop n).drop (beforeS ((cutQ L).drop n)).length) := by
  obtain ⟨t, h1, h2, h3, h4, h5, h6, h7, h8⟩ := due_parts h
  refine ⟨n, _, h2, by rw [h5]; exact ht, by rw [h5], by rw [h7]; exact path_tail ha hl h1, ?_⟩
  rw [h7]
  generalize ((cutQ L).drop n).drop (beforeS ((cutQ L).drop n)).length = S
  by_cases e : S = []
  · subst e; rfl
  · rw [if_neg e, if_neg (fun z => e (List.eq_nil_of_length_eq_zero z)), List.take_left]
theorem psign_law {c : Nat} (h1 : c ≠ 37) (h2 : stop2 c = false) : psign c = (decide (33 ≤ c) && decide (c ≤ 126) && decide (c ≠ 59)) := by
  unfold stop2 at h2
  rw [Bool.or_eq_false_iff, decide_eq_false_iff_not, decide_eq_false_iff_not] at h2
  unfold psign
  rw [decide_eq_true h1, decide_eq_true h2.1, decide_eq_true h2.2]
  simp
end Kb
namespace Kb
open PySem PySem.Spec PyProof.Rows L2 TL
def rInQ (K : PySem.W.Frag) (neg : Bool) : R2 := rIn K neg
end Kb
namespace Kb
open PySem PySem.Spec PyProof.Rows L2 TL
theorem split_head (x : Str) {c : Nat} (hc : c < 256) : ∃ y ys, Txt.split x ⟨#[c]⟩ = y :: ys ∧ tl y = (tl x).takeWhile fun s => !decide (s = c) := by
  have e := split_sp1 x hc
  obtain ⟨r, er⟩ := sp1_head c (tl x)
  rw [er] at e
  cases h : Txt.split x ⟨#[c]⟩ with
  | nil => rw [h] at e; cases e
  | cons y ys =>
    rw [h, List.map_cons, List.cons.injEq] at e
    exact ⟨y, ys, rfl, e.1⟩
/-- an address in a list, or the place -/
def D09 (H : Hp) (L : List Nat) (v : V) : Prop := (∃ (a b c : List Nat) (p q : Addr) (x y z : Str), AddrOk L a b c ∧ v = .ref p ∧ H p = some (.lst [.ref q]) ∧ H q = some (.tup [.str x, .str y, .str z]) ∧ tl x = a ∧ tl y = b ∧ tl z = c ∧ x.length ≤ 1000 ∧ y.length ≤ 1000 ∧ z.length ≤ 1000) ∨
  ∃ k : Nat, v = .int (k : Nat) ∧ AddrBad L k
theorem mark_sq : ("?" : Str) = ⟨#[63]⟩ := ext_tl (by decide +kernel)
theorem mark_sh : ("#" : Str) = ⟨#[35]⟩ := ext_tl (by decide +kernel)
end Kb
namespace Kb
open PySem PySem.Spec PyProof.Rows L2 TL
theorem at0 (v : V) (vs : List V) : atI (v :: vs) 0 = some v := by
  show atI (v :: vs) ((0 : Nat) : Int) = _
  exact atI_nat rfl
end Kb
namespace Kb
open PySem PySem.Spec PyProof.Rows L2 TL
theorem addr_ascii {L a b c : List Nat} (h : AddrOk L a b c) (hl : ∀ s ∈ L, s < 128) : (∀ s ∈ a, s < 128) ∧ (∀ s ∈ b, s < 128) ∧ ∀ s ∈ c, s < 128 := by
  obtain ⟨n, k, h1, h2, rfl, h4, rfl⟩ := h
  refine ⟨?_, ?_, ?_⟩
  · rcases (schN_sc h1).1 with ⟨rfl, _⟩ | ⟨rfl, _⟩ <;> decide
  · intro s hs
    have : s ∈ lows ((L.drop n).take (hEnd (L.drop n))) := by
      unfold stripDot at hs
      split at hs
      · exact (List.dropLast_sublist _).subset hs
      · exact hs
    obtain ⟨x, hx, rfl⟩ := List.mem_map.mp this
    exact low_lt x (hl x (List.mem_of_mem_drop (List.mem_of_mem_take hx)))
  · intro s hs
    split at hs
    · rw [List.mem_singleton.mp hs]; decide
    · exact hl s (List.mem_of_mem_drop (List.mem_of_mem_drop (List.mem_of_mem_take hs)))
def IsD9 (L : List Nat) (d : PyData) : Prop := (∃ (a b c : List Nat) (x y z : Str), AddrOk L a b c ∧ d = .list [.tuple [.str x, .str y, .str z]] ∧ tl x = a ∧ tl y = b ∧ tl z = c) ∨ ∃ k : Nat, d = .int (k : Nat) ∧ AddrBad L k
theorem IsD9.uniq {L : List Nat} {d e : PyData} (h : IsD9 L d) (g : IsD9 L e) : d = e := by
  rcases h with ⟨a, b, c, x, y, z, ok, rfl, ex, ey, ez⟩ | ⟨k, rfl, hk⟩ <;> rcases g with ⟨a', b', c', x', y', z', ok', rfl, ex', ey', ez'⟩ | ⟨k', rfl, hk'⟩
  · obtain ⟨rfl, rfl, rfl⟩ := ok.uniq ok'
    rw [ext_tl (ex.trans ex'.symm), ext_tl (ey.trans ey'.symm), ext_tl (ez.trans ez'.symm)]
  · exact (ok.bad hk').elim
  · exact (ok'.bad hk).elim
  · rw [hk.uniq hk']
theorem repr9 {K : PySem.W.Frag} {H : Hp} {L : List Nat} {v : V} (h : D09 H L v) (hl : ∀ s ∈ L, s < 128) (hn : L.length ≤ 900) : ∃ d, Dp K H v d ∧ d.showable = true ∧ d.hasDict = false ∧ d.shown.length ≤ sizeLine ∧ d.depth ≤ 64 ∧ IsD9 L d := by
  rcases h with ⟨a, b, c, p, q, x, y, z, ok, rfl, hp, hq, ex, ey, ez, lx, ly, lz⟩ | ⟨k, rfl, hk⟩
  · obtain ⟨aa, ab, ac⟩ := addr_ascii ok hl
    refine ⟨.list [.tuple [.str x, .str y, .str z]], .lst (SqL.of hp) (.cons (.tup (SqT.of hq) (dpAll_strs [x, y, z])) .nil), by simp [PyData.showable, PyData.showableAll], by simp [PyData.hasDict, PyData.hasDictAll], ?_, by simp [PyData.depth, PyData.depthAll], .inl ⟨a, b, c, x, y, z, ok, rfl, ex, ey, ez⟩⟩
    have big : ∀ u : Str, (∀ s ∈ tl u, s < 128) → PyData.leavesShort 8 (.str u) = true := fun u hu => by
      rw [PyData.leavesShort, List.all_eq_true]
      exact fun s hs => decide_eq_true (by have := hu s hs; omega)
    have := PySem.PyData.shown_le_bulk 8 (by decide) (.list [.tuple [.str x, .str y, .str z]]) (by
      simp only [PyData.leavesShort, PyData.leavesShortAll, Bool.and_true, Bool.and_eq_true]
      have h1 := big x (by rw [ex]; exact aa)
      have h2 := big y (by rw [ey]; exact ab)
      have h3 := big z (by rw [ez]; exact ac)
      simp only [PyData.leavesShort] at h1 h2 h3
      exact ⟨h1, h2, h3⟩)
    refine Nat.le_trans this (Nat.le_trans (m := 40000) ?_ (by decide))
    have e1 : x.cps.size = x.length := rfl
    have e2 : y.cps.size = y.length := rfl
    have e3 : z.cps.size = z.length := rfl
    simp only [PyData.bulk, PyData.bulkAll]
    omega
  · have := hk.le
    refine ⟨.int (k : Nat), .int _, ?_, rfl, ?_, by simp [PyData.depth], .inr ⟨k, rfl, hk⟩⟩
    · have h3 := Nat.log2_le_self k
      simp only [PyData.showable, Int.natAbs_natCast]
      exact decide_eq_true (by omega)
    · have := PyProof.Rows.toString_length_le (v := ((k : Nat) : Int)) (by omega) (k := 4) (by decide) (by
        have : ((10 : Int) ^ 4) = 10000 := by decide
        omega)
      exact Nat.le_trans this (by decide)
end Kb

namespace Kb
open PySem PySem.Spec PyProof.Rows L2 TL
/-! ### dates as texts -/
def lettL : List Nat := tl ("abcdefghijklmnopqrstuvwxyzABCDEFGHIJKLMNOPQRSTUVWXYZ" : Str)
def letB (c : Nat) : Bool := decide (c ∈ lettL)
def tokB (c : Nat) : Bool := decide (c ∈ lettL) || (decide (c ∈ digs) || decide (c = 58))
def toks : List Nat → List Nat → List (List Nat)
  | acc, [] => if acc = [] then [] else [acc]
  | acc, c :: l => if tokB c = true then toks (acc ++ [c]) l else if acc = [] then toks [] l else acc :: toks [] l
def fitT (l : List Nat) : Bool := (sp1 58 l).all (fun p => digB p && decide (p.length ≤ 2)) && decide ((sp1 58 l).length = 3)
def monN : List Str := ["Jan", "Feb", "Mar", "Apr", "May", "Jun", "Jul", "Aug", "Sep", "Oct", "Nov", "Dec"]
def monAt (l : List Nat) (i : Nat) : Bool := decide (lows (l.take 3) = lows ((monN.map tl).getD i []))
/-- the number of the month that a token tells, 0 for none -/
def monI (l : List Nat) : Nat := match (List.range 12).find? (monAt l) with
  | some i => i + 1
  | none => 0
def fitM (l : List Nat) : Bool := onlyB lettL l && decide (monI l ≠ 0)
def fitD (l : List Nat) : Bool := digB l && decide (l.length ≤ 2)
def fitY (l : List Nat) : Bool := digB l && (decide (l.length = 2) || decide (l.length = 4))
def fits (p : Nat) (l : List Nat) : Bool := match p with
  | 0 => fitT l
  | 1 => fitD l
  | 2 => fitM l
  | _ => fitY l
abbrev Fnd := List (Nat × Str)
def hasP (f : Fnd) (p : Nat) : Bool := f.any fun q => q.1 == p
def partI (f : Fnd) (l : List Nat) : Option Nat := (List.range 4).find? fun p => !hasP f p && fits p l
def stepD (f : Fnd) (t : Str) : Fnd := match partI f (tl t) with
  | some p => f ++ [(p, t)]
  | none => f
def leapB (y : Int) : Bool := decide (y % 4 = 0) && (decide (y % 100 ≠ 0) || decide (y % 400 = 0))
def monD : List Int := [31, 28, 31, 30, 31, 30, 31, 31, 30, 31, 30, 31]
def domI (y : Int) (m : Nat) : Int := if m = 2 ∧ leapB y = true then 29 else monD.getD (m - 1) 0
def dbmI (y : Int) (m : Nat) : Int := ((List.range (m - 1)).map fun i => domI y (i + 1)).sum
def dtoI (y : Int) : Int := (y - 1) * 365 + (y - 1) / 4 - (y - 1) / 100 + (y - 1) / 400
def dbfI (y : Int) : Int := dtoI y - dtoI 1970
def valL (l : List Nat) : Int := (NumText.digitsVal l : Nat)
def yearI (l : List Nat) : Int := if 2 < l.length then valL l else if valL l ≤ 69 then 2000 + valL l else 1900 + valL l
/-- the tick of four parts -/
def tickI (t d m y : List Nat) : Option Int :=
  let P := sp1 58 t
  let h := valL (P.getD 0 [])
  let mi := valL (P.getD 1 [])
  let s := valL (P.getD 2 [])
  if 23 < h ∨ 59 < mi ∨ 59 < s ∨ yearI y < 1601 then none else
  if ¬ (1 ≤ valL d ∧ valL d ≤ domI (yearI y) (monI m)) then none else
  if yearI y < 1970 then some 0 else
  some ((dbfI (yearI y) + dbmI (yearI y) (monI m) + valL d - 1) * 86400 + h * 3600 + mi * 60 + s)
def getP (f : Fnd) (p : Nat) : List Nat := match f.find? fun q => q.1 == p with
  | some q => tl q.2
  | none => []
/-- what a text tells -/
def dateF (ts : List Str) : Option Int :=
  let f := ts.foldl stepD []
  if f.length < 4 then none else tickI (getP f 0) (getP f 1) (getP f 2) (getP f 3)
end Kb
namespace Kb
def partN : List PySem.Str := ["time", "day", "month", "year"]
end Kb
namespace Kb
open PySem PySem.Spec PyProof.Rows L2 TL
def keyP (p : Nat) : Key := Sum.inr (partN.getD p "")
def fkv (f : Fnd) : List (Key × V) := f.map fun q => (keyP q.1, V.str q.2)
def FndAt (H : Hp) (a : Addr) (f : Fnd) : Prop := H a = some (.dK (fkv f)) ∧ ∀ q ∈ f, q.1 < 4
theorem keyP_inj : ∀ p q, p < 4 → q < 4 → keyP p = keyP q → p = q := by
  have h : ∀ p, p < 4 → ∀ q, q < 4 → (partN.getD p "" : Str) = partN.getD q "" → p = q := by decide +kernel
  exact fun p q hp hq e => h p hp q hq (Sum.inr.inj e)
theorem valP : ∀ {f : Fnd} {p : Nat}, (∀ q ∈ f, q.1 < 4) → p < 4 → valV (fkv f) (keyP p) = (f.find? fun q => q.1 == p).map fun q => V.str q.2
  | [], _, _, _ => rfl
  | q :: f, p, h, hp => by
    have ih := valP (f := f) (p := p) (fun r hr => h r (List.mem_cons_of_mem _ hr)) hp
    unfold valV fkv at ih ⊢
    rw [List.map_cons]
    by_cases e : q.1 = p
    · rw [List.find?_cons_of_pos (by simp [e]), List.find?_cons_of_pos (by simp [e])]; rfl
    · have : ¬ keyP q.1 = keyP p := fun z => e (keyP_inj _ _ (h q (List.mem_cons_self ..)) hp z)
      rw [List.find?_cons_of_neg (by simp [this]), List.find?_cons_of_neg (by simp [e])]
      exact ih
theorem hasP_find (f : Fnd) (p : Nat) : hasP f p = (f.find? fun q => q.1 == p).isSome := by
  unfold hasP
  rw [Bool.eq_iff_iff, List.find?_isSome, List.any_eq_true]
theorem putP {f : Fnd} {p : Nat} {t : Str} (h : ∀ q ∈ f, q.1 < 4) (hp : p < 4) (hn : hasP f p = false) : putK (fkv f) (keyP p) (.str t) = fkv (f ++ [(p, t)]) := by
  unfold putK
  rw [if_neg]
  · unfold fkv; rw [List.map_append]; rfl
  · intro z
    rw [List.any_eq_true] at z
    obtain ⟨kv, hk, e⟩ := z
    obtain ⟨q, hq, rfl⟩ := List.mem_map.mp hk
    have e := keyP_inj _ _ (h q hq) hp (of_decide_eq_true e)
    unfold hasP at hn
    rw [List.any_eq_false] at hn
    exact hn q hq (by simp [e])
end Kb
namespace Kb
open PySem PySem.Spec PyProof.Rows L2 TL
/-- the parts that were found -/
structure FndOk (f : Fnd) : Prop where
  lt : ∀ q ∈ f, q.1 < 4
  fit : ∀ q ∈ f, fits q.1 (tl q.2) = true ∧ ascii q.2 ∧ q.2.length ≤ 100000
  nd : (f.map (·.1)).Nodup
theorem FndOk.all {f : Fnd} (h : FndOk f) (h4 : 4 ≤ f.length) {p : Nat} (hp : p < 4) : ∃ t : Str, f.find? (fun q => q.1 == p) = some (p, t) ∧ getP f p = tl t ∧ fits p (tl t) = true ∧ ascii t ∧ t.length ≤ 100000 := by
  have hm : p ∈ f.map (·.1) := by
    match f, h4, h.lt, h.nd with
    | a :: b :: c :: d :: r, _, lt, nd =>
      simp only [List.map_cons, List.nodup_cons, List.mem_cons, not_or] at nd
      have l1 := lt a (by simp)
      have l2 := lt b (by simp)
      have l3 := lt c (by simp)
      have l4 := lt d (by simp)
      simp only [List.map_cons, List.mem_cons]
      have : p = a.1 ∨ p = b.1 ∨ p = c.1 ∨ p = d.1 := by
        have n1 := nd.1.1
        have n2 := nd.1.2.1
        have n3 := nd.1.2.2.1
        have n4 := nd.2.1.1
        have n5 := nd.2.1.2.1
        have n6 := nd.2.2.1.1
        omega
      rcases this with e | e | e | e
      · exact .inl e
      · exact .inr (.inl e)
      · exact .inr (.inr (.inl e))
      · exact .inr (.inr (.inr (.inl e)))
  obtain ⟨q, hq, e⟩ := List.mem_map.mp hm
  cases hf : f.find? fun q => q.1 == p with
  | none =>
    have := List.find?_eq_none.mp hf q hq
    simp [e] at this
  | some z =>
    have h1 : z.1 = p := by have := List.find?_some hf; simpa using this
    have h2 := List.mem_of_find?_eq_some hf
    obtain ⟨z1, z2⟩ := z
    have h1 : z1 = p := h1
    subst h1
    obtain ⟨f1, f2, f3⟩ := h.fit _ h2
    exact ⟨z2, rfl, by unfold getP; rw [hf], f1, f2, f3⟩
theorem FndOk.step {f : Fnd} (h : FndOk f) {t : Str} (ht : ascii t) (hl : t.length ≤ 100000) : FndOk (stepD f t) := by
  unfold stepD
  cases e : partI f (tl t) with
  | none => exact h
  | some p =>
    unfold partI at e
    obtain ⟨h1, h2, _⟩ := List.find?_range_eq_some.mp e
    have hp := List.mem_range.mp h2
    rw [Bool.and_eq_true, Bool.not_eq_true'] at h1
    refine ⟨fun q hq => ?_, fun q hq => ?_, ?_⟩
    · rcases List.mem_append.mp hq with m | m
      · exact h.lt q m
      · rw [List.mem_singleton.mp m]; exact hp
    · rcases List.mem_append.mp hq with m | m
      · exact h.fit q m
      · rw [List.mem_singleton.mp m]; exact ⟨h1.2, ht, hl⟩
    · rw [List.map_append, List.nodup_append]
      refine ⟨h.nd, by simp, fun a ha b hb => ?_⟩
      rw [List.map_singleton, List.mem_singleton] at hb
      obtain ⟨q, hq, rfl⟩ := List.mem_map.mp ha
      intro z
      have := h1.1
      unfold hasP at this
      rw [List.any_eq_false] at this
      exact this q hq (by simp [z, hb])
end Kb
namespace Kb
open PySem PySem.Spec PyProof.Rows L2 TL
theorem valL_nn (l : List Nat) : 0 ≤ valL l := Int.natCast_nonneg _
end Kb
namespace Kb
open PySem PySem.Spec PyProof.Rows L2 TL
theorem val_small (l : List Nat) (h : digB l = true) (hl : l.length ≤ 4) : 0 ≤ valL l ∧ valL l ≤ 9999 := by
  have ad := (digB_iff.mp h).1
  have key : ∀ c ∈ l, 48 ≤ c ∧ c ≤ 57 := fun c hc => ad c hc
  unfold valL
  match l, hl, key with
  | [], _, _ => simp [NumText.digitsVal]
  | [a], _, k => have := k a (by simp); simp only [NumText.digitsVal, List.foldl]; omega
  | [a, b], _, k => have := k a (by simp); have := k b (by simp); simp only [NumText.digitsVal, List.foldl]; omega
  | [a, b, c], _, k => have := k a (by simp); have := k b (by simp); have := k c (by simp); simp only [NumText.digitsVal, List.foldl]; omega
  | [a, b, c, d], _, k => have := k a (by simp); have := k b (by simp); have := k c (by simp); have := k d (by simp); simp only [NumText.digitsVal, List.foldl]; omega
  | a :: b :: c :: d :: e :: r, hl, _ => simp at hl
end Kb
namespace Kb
open PySem PySem.Spec PyProof.Rows L2 TL
def mkS (l : List Nat) : Str := ⟨l.toArray⟩
theorem mkS_tl (x : Str) : mkS (tl x) = x := ext_tl rfl
theorem ts_mk {ts : List Str} {L : List (List Nat)} (h : ts.map tl = L) : ts = L.map mkS := by
  rw [← h, List.map_map]
  exact (List.map_id ts).symm.trans (List.map_congr_left fun x _ => (mkS_tl x).symm)
def dateR (l : List Nat) : Option Int := dateF ((toks [] l).map mkS)
theorem toks_mem : ∀ (l acc t : List Nat), t ∈ toks acc l → (∀ s ∈ t, s ∈ acc ∨ s ∈ l) ∧ t.length ≤ acc.length + l.length
  | [], acc, t, h => by
    unfold toks at h
    split at h
    · cases h
    · rw [List.mem_singleton.mp h]; exact ⟨fun s hs => .inl hs, by simp⟩
  | c :: l, acc, t, h => by
    unfold toks at h
    split at h
    · obtain ⟨h1, h2⟩ := toks_mem l _ t h
      refine ⟨fun s hs => ?_, by rw [List.length_append] at h2; simp at h2 ⊢; omega⟩
      rcases h1 s hs with m | m
      · rcases List.mem_append.mp m with m | m
        · exact .inl m
        · exact .inr (by rw [List.mem_singleton.mp m]; exact List.mem_cons_self ..)
      · exact .inr (List.mem_cons_of_mem _ m)
    · split at h
      · obtain ⟨h1, h2⟩ := toks_mem l _ t h
        refine ⟨fun s hs => ?_, by simp at h2 ⊢; omega⟩
        rcases h1 s hs with m | m
        · cases m
        · exact .inr (List.mem_cons_of_mem _ m)
      · rcases List.mem_cons.mp h with rfl | h
        · exact ⟨fun s hs => .inl hs, by simp⟩
        · obtain ⟨h1, h2⟩ := toks_mem l _ t h
          refine ⟨fun s hs => ?_, by simp at h2 ⊢; omega⟩
          rcases h1 s hs with m | m
          · cases m
          · exact .inr (List.mem_cons_of_mem _ m)
theorem stepD_len (f : Fnd) (t : Str) : f.length ≤ (stepD f t).length ∧ (stepD f t).length ≤ f.length + 1 := by
  unfold stepD
  split
  · rw [List.length_append]; exact ⟨by omega, Nat.le_refl _⟩
  · exact ⟨Nat.le_refl _, by omega⟩
end Kb
namespace Kb
theorem toks_len : ∀ (l acc : List Nat), (toks acc l).length ≤ l.length + 1
  | [], acc => by unfold toks; split <;> simp
  | c :: l, acc => by
    have h1 := toks_len l (acc ++ [c])
    have h2 := toks_len l []
    unfold toks
    split
    · simp; omega
    · split
      · simp; omega
      · simp; omega
end Kb

namespace Kb
open PySem PySem.Spec PyProof.Rows L2 TL PySem.Calls PySem.NumText
/-! ### the attributes of lines: what a value tells, the word of a defect -/
def lowS (x : Str) : Str := mkS ((tl x).map lo1)
theorem lowS_eq {x : Str} (h : ascii x) : Txt.lower x = lowS x := ext_tl (by rw [lower_tl h]; rfl)
/-- without one sign c in front -/
def offS (c : Nat) (x : Str) : Str := match tl x with
  | [] => x
  | y :: l => if y = c then mkS l else x
theorem offS_eq (x : Str) {c : Nat} (hc : c < 256) : Txt.removeprefix x ⟨#[c]⟩ = offS c x := by
  unfold offS
  have e : tl (⟨#[c]⟩ : Str) = [c] := rfl
  split
  · next h => exact removeprefix_miss (by rw [e, h]; simp)
  · next y l h =>
    by_cases g : y = c
    · rw [if_pos g]; subst g
      exact ext_tl (removeprefix_hit (b := l) (by rw [e, h]; rfl))
    · rw [if_neg g]
      exact removeprefix_miss (by rw [e, h]; intro q; obtain ⟨r, q⟩ := q; simp at q; exact g q.1.symm)
def flagB (z : Str) : Bool := decide (z = "secure") || decide (z = "httponly") || decide (z = "partitioned")
def defTab : List (Str × V) := [("expires", .str "date"), ("max-age", .str "age"), ("domain", .str "domain"), ("path", .str "path"), ("samesite", .str "same"), ("priority", .str "priority")]
def optI : Option Int → V
  | some n => .int n
  | none => .non
def intR (l : List Nat) : Int := match l with
  | 45 :: l => -(digitsVal l : Int)
  | l => (digitsVal l : Int)
def ageR (x : Str) : V := if digB (tl (offS 45 x)) = true then .int (min (max (intR (tl x)) 0) 34560000) else .non
def domR (x : Str) : V := if hostB (tl (lowS (offS 46 x))) = true then .str (lowS (offS 46 x)) else .non
def samR (x : Str) : V := if lowS x = "strict" ∨ lowS x = "lax" ∨ lowS x = "none" then .str (lowS x) else .non
def priR (x : Str) : V := if lowS x = "low" then .int 0 else if lowS x = "medium" then .int 1 else if lowS x = "high" then .int 2 else .non
def toldR (z x : Str) : V := if z = "expires" then optI (dateR (tl x)) else if z = "max-age" then ageR x else if z = "domain" then domR x else if z = "path" then (if pathB (tl x) = true then .str x else .non) else if z = "samesite" then samR x else priR x
def nonB : V → Bool
  | .non => true
  | _ => false
/-- the defect of a piece but for a second one -/
def defR (z : Str) (v : Option Str) : Option Str :=
  if z = "" ∧ v.isNone = true then some "nothing"
  else if flagB z = false ∧ (lookL defTab z).isSome = false then some "unknown"
  else if (match v with | some x => decide (1024 < x.length) | none => false) = true then some "long"
  else if flagB z = true then (if v.isSome = true then some "value" else none)
  else if (match v with | none => true | some x => nonB (toldR z x)) = true then (match lookL defTab z with | some (.str d) => some d | _ => none)
  else none
def wordR (z : Str) (v : Option Str) (kvs : List (L2.Key × V)) : Option Str := match defR z v with
  | some w => some w
  | none => if (valV kvs (.inr z)).isSome = true then some "again" else none
def keepsB : Option Str → Bool
  | none => true
  | some w => decide (w = "value") || decide (w = "again")
def worthR (z : Str) (v : Option Str) : V := if flagB z = true then .bl true else toldR z (v.getD "")
def stepJ (st : List (Int × Str) × List (L2.Key × V)) (i : Int) (c : Str × Option Str) : List (Int × Str) × List (L2.Key × V) :=
  ((match wordR (lowS c.1) c.2 st.2 with | some w => st.1 ++ [(i, w)] | none => st.1),
   if keepsB (wordR (lowS c.1) c.2 st.2) = true then putK st.2 (.inr (lowS c.1)) (worthR (lowS c.1) c.2) else st.2)
def runJ : Int → List (Str × Option Str) → List (Int × Str) × List (L2.Key × V) → List (Int × Str) × List (L2.Key × V)
  | _, [], st => st
  | i, c :: r, st => runJ (i + 1) r (stepJ st i c)
theorem runJ_snoc : ∀ (L : List (Str × Option Str)) (i : Int) (c : Str × Option Str) (st : List (Int × Str) × List (L2.Key × V)), runJ i (L ++ [c]) st = stepJ (runJ i L st) (i + L.length) c
  | [], i, c, st => by simp [runJ]
  | d :: r, i, c, st => by
    show runJ (i + 1) (r ++ [c]) _ = stepJ (runJ (i + 1) r _) (i + ((r.length + 1 : Nat) : Int)) c
    rw [runJ_snoc r, show i + 1 + (r.length : Int) = i + ((r.length + 1 : Nat) : Int) by omega]
end Kb

namespace Kb
open PySem PySem.Spec PyProof.Rows L2 TL
/-! ### menus: lists of written values, lists of written tuples -/
theorem keep_new {d p : Addr} {H H1 : Hp} {o : HO} (hp : H p = none) (k : Keep d (upd H p o) H1) : Keep d H H1 := Same.then (Same.new hp) k
def Giv (te : TE) (v : V) : Prop := ∀ (σ : L2.St) (H : Hp) (Q : VK), Q v H → te σ H Q
theorem giv_c {v : V} : Giv (tC v) v := fun _ _ _ q => q
def repS (n : Nat) (a : Str) : Str := mkS ((List.replicate n (tl a)).flatten)
theorem giv_mul {a : Str} {n : Int} (h1 : n ≤ 4000 := by decide) (h2 : 0 ≤ n := by decide) (h3 : a.length ≤ 4000 := by decide +kernel) : Giv (tOp rMulS (tC (.str a)) (tC (.int n))) (.str (repS n.toNat a)) := fun σ H Q q =>
  ⟨a, n, rfl, rfl, h1, h2, h3, fun z hz => (ext_tl (hz.trans rfl) : z = repS n.toNat a) ▸ q⟩
def catS (a b : Str) : Str := mkS (tl a ++ tl b)
theorem catS_eq (a b : Str) : a ++ b = catS a b := ext_tl (tl_append ..)
theorem giv_add {ta tb : TE} {a b : Str} (ha : Giv ta (.str a)) (hb : Giv tb (.str b)) (hl : a.length + b.length ≤ 100000 := by decide +kernel) :
    Giv (tOp (fun x y H Q => ∃ i j, x = .str i ∧ y = .str j ∧ i.length + j.length ≤ sizeLine ∧ Q (.str (i ++ j)) H) ta tb) (.str (catS a b)) := fun σ H Q q =>
  ha σ H _ (hb σ H _ ⟨a, b, rfl, rfl, Nat.le_trans hl (by decide), (catS_eq a b).symm ▸ q⟩)
def GivA (t : TA) (vs : List V) : Prop := ∀ (σ : L2.St) (H : Hp) (Q : List V → Hp → Prop), Q vs H → t σ H Q
theorem giv_nil : GivA tNil [] := fun _ _ _ q => q
theorem giv_cons {te : TE} {t : TA} {v : V} {vs : List V} (h : Giv te v) (r : GivA t vs) : GivA (tCons te t) (v :: vs) := fun σ H Q q => h σ H _ (r σ H _ q)
theorem giv_lst {t : TA} {vs : List V} {σ : L2.St} {H : Hp} {Q : VK} (h : GivA t vs) (hl : vs.length ≤ 1000) (q : ∀ p, H p = none → Q (.ref p) (upd H p (.lst vs))) : tLst t σ H Q :=
  h σ H _ ⟨Nat.le_trans hl (by decide), q⟩
def TupsAt (H : Hp) : List Addr → List (List V) → Prop
  | [], [] => True
  | q :: qs, c :: cs => H q = some (.tup c) ∧ TupsAt H qs cs
  | _, _ => False
theorem TupsAt.same {H H' : Hp} (s : Same H H') : ∀ {qs : List Addr} {cs : List (List V)}, TupsAt H qs cs → TupsAt H' qs cs
  | [], [], _ => trivial
  | _ :: _, _ :: _, h => ⟨s _ _ h.1, TupsAt.same s h.2⟩
theorem TupsAt.keep {d : Addr} {n : Nat} {H H' : Hp} (s : Keep d H H') (D : DrawAt H d n) : ∀ {qs : List Addr} {cs : List (List V)}, TupsAt H qs cs → TupsAt H' qs cs
  | [], [], _ => trivial
  | q :: _, _ :: _, h => ⟨s _ _ h.1 (fun z => by obtain ⟨_, _, _, m, _⟩ := D; have := h.1; rw [z, m] at this; cases this), TupsAt.keep s D h.2⟩
theorem TupsAt.app {H : Hp} : ∀ {qs qs2 : List Addr} {cs cs2 : List (List V)}, TupsAt H qs cs → TupsAt H qs2 cs2 → TupsAt H (qs ++ qs2) (cs ++ cs2)
  | [], _, [], _, _, h => h
  | _ :: _, _, _ :: _, _, h, h2 => ⟨h.1, TupsAt.app h.2 h2⟩
theorem TupsAt.len {H : Hp} : ∀ {qs : List Addr} {cs : List (List V)}, TupsAt H qs cs → qs.length = cs.length
  | [], [], _ => rfl
  | _ :: _, _ :: _, h => by rw [List.length_cons, List.length_cons, TupsAt.len h.2]
theorem TupsAt.mem {H : Hp} {v : V} : ∀ {qs : List Addr} {cs : List (List V)}, TupsAt H qs cs → v ∈ qs.map V.ref → ∃ q c, v = .ref q ∧ c ∈ cs ∧ H q = some (.tup c)
  | [], [], _, h => by simp at h
  | q :: _, c :: _, h, hv => by
    rw [List.map_cons] at hv
    rcases List.mem_cons.mp hv with z | z
    · exact ⟨q, c, z, List.mem_cons_self .., h.1⟩
    · obtain ⟨q2, c2, e1, e2, e3⟩ := TupsAt.mem h.2 z
      exact ⟨q2, c2, e1, List.mem_cons_of_mem _ e2, e3⟩
def Rows (t : TA) (L : List (List V)) : Prop := ∀ (σ : L2.St) (H : Hp) (Q : List V → Hp → Prop), (∀ qs H1, Same H H1 → TupsAt H1 qs L → Q (qs.map V.ref) H1) → t σ H Q
theorem rows_nil : Rows tNil [] := fun _ H _ h => h [] H (Same.refl _) trivial
theorem rows_cons {ta t : TA} {c : List V} {L : List (List V)} (h : GivA ta c) (r : Rows t L) (hl : c.length ≤ 1000 := by decide) : Rows (tCons (tTup ta) t) (c :: L) := fun σ H Q q =>
  h σ H _ ⟨Nat.le_trans hl (by decide), fun p hp => r σ _ _ fun qs H1 s1 ht => q (p :: qs) H1 ((Same.new hp).trans s1) ⟨s1 _ _ upd_same, ht⟩⟩
theorem rows_lst {t : TA} {L : List (List V)} {σ : L2.St} {H : Hp} {Q : VK} (R : Rows t L) (hl : L.length ≤ 1000) (q : ∀ p qs H1, Same H H1 → TupsAt H1 qs L → H1 p = some (.lst (qs.map V.ref)) → H p = none → Q (.ref p) H1) : tLst t σ H Q :=
  R σ H _ fun qs H1 s1 ht => ⟨Nat.le_trans (by rw [List.length_map, ht.len]; exact hl : _ ≤ 1000) (by decide), fun p hp => q p qs _ (s1.trans (Same.new hp)) (ht.same (Same.new hp)) upd_same (s1.free hp)⟩
theorem rows_tup {t : TA} {L : List (List V)} {σ : L2.St} {H : Hp} {Q : VK} (R : Rows t L) (hl : L.length ≤ 1000) (q : ∀ p qs H1, Same H H1 → TupsAt H1 qs L → H1 p = some (.tup (qs.map V.ref)) → H p = none → Q (.ref p) H1) : tTup t σ H Q :=
  R σ H _ fun qs H1 s1 ht => ⟨Nat.le_trans (by rw [List.length_map, ht.len]; exact hl : _ ≤ 1000) (by decide), fun p hp => q p qs _ (s1.trans (Same.new hp)) (ht.same (Same.new hp)) upd_same (s1.free hp)⟩
theorem rows_cat {t : TA} {L L1 : List (List V)} {i : Nat} {σ : L2.St} {H : Hp} {Q : VK} {p1 : Addr} {qs1 : List Addr} (R : Rows t L) (hσ : ∀ Q' : VK, Q' (.ref p1) H → tVar i σ H Q') (m1 : H p1 = some (.lst (qs1.map V.ref))) (t1 : TupsAt H qs1 L1) (hl : L1.length ≤ 1000) (hl2 : L.length ≤ 1000)
    (q : ∀ p qs H1, Same H H1 → TupsAt H1 qs (L1 ++ L) → H1 p = some (.lst (qs.map V.ref)) → H p = none → Q (.ref p) H1) : tOp rCat (tVar i) (tLst t) σ H Q :=
  hσ _ (rows_lst R hl2 fun p2 qs2 H2 s2 t2 m2 _ => ⟨p1, p2, _, _, rfl, rfl, s2 _ _ m1, m2, Nat.le_trans (by rw [List.length_map, List.length_map, t1.len, t2.len]; omega : _ ≤ 2000) (by decide), fun p3 hp3 =>
    q p3 (qs1 ++ qs2) _ (s2.trans (Same.new hp3)) (((t1.same s2).app t2).same (Same.new hp3)) (by rw [upd_same, List.map_append]) (s2.free hp3)⟩)
theorem seq_asg {te : TE} {g : TG} {b : TS} {D : Ends} {σ : L2.St} {H : Hp} (h : te σ H fun x H1 => g x σ H1 (b D)) : tSeq (tAsg te g) b D σ H := h
end Kb

namespace Kb
open PySem PySem.Spec PyProof.Rows L2
/-! ### own classes: what of the text is asked; == by an own def -/
structure ClsO (K : PySem.W.Frag) (C : Addr) : Prop where
  cl : Cls K C
  ca : PySem.W.findIn K (.ref C) "__class__" = some (some (.builtin "object.__class__"))
  cn : PySem.W.specialIn K (.builtin "object.__class__") "__get__" = some (some (.builtin "getset_descriptor.__get__"))
  ct : PySem.W.takesIn K (.builtin "object.__class__") = some true
  cm : PySem.W.mroIn K C (.type "object") = some true
theorem ClsO.ty {K : PySem.W.Frag} {H : Hp} {a C dx : Addr} {fs : List (Str × V)} (c : ClsO K C) (e : H a = some (.ins C dx fs)) : TyX K H (.ref a) (.ref C) := .base (.ins e c.cl c.ca c.cn c.ct c.cm)
/-- x == y, x an instance of the class at C, which has an own def for it -/
def rEqOwn (K : PySem.W.Frag) (C : Addr) (sp : Sp) (E : XK) : R2 := fun x y H Q => ∃ a dx fs t, x = .ref a ∧ H a = some (.ins C dx fs) ∧ TyX K H y t ∧ PySem.W.notFirst K C t = true ∧ sp [x, y] H Q E
section
variable {X : Cx} {CX : CXT} {n : Nat} {C g : Addr} {sp : Sp} {E : XK} {fd : FuncData} {ps : List Str}
theorem op_eqOwn {op : CmpOp} (hop : ∀ a b, compareOp op a b = richCompare op a b) (hs : PySem.W.findIn X.K (.ref C) (cmpInfo op).2.1 = some (some (.ref g))) (hf : PySem.W.isFn X.K (.ref g) = true) (F : FnR X.prog X.w X.K X.mg X.base CX n g sp)
    (hr : Room n X.A) (hx : Passes CX X E) : OpR X (compareOp op) (rEqOwn X.K C sp E) := by
  intro pins s σ H x y v u Q I rx ry h
  obtain ⟨a, dx, fs, t, rfl, ha, ty, hn, q⟩ := h
  cases (show v = Value.ref a from rx)
  obtain ⟨mA, O, _⟩ := ins_get I.hok ha
  obtain ⟨od, J, _⟩ := O.look
  obtain ⟨m, hF⟩ := I.fr
  obtain ⟨P, Z, p, hx2⟩ := kit_of I ry ty
  rw [hop]
  refine PySem.W.cmp_K (op := op) (tb := t) hr.units0 hF I.ok.mod.kin J ?_ hn hs hf ?_
  · exact Z.ty _ _ I.kIn p
  refine wpAny_mono (wpAny_call (run_fnR (us := [.ref a, u]) (vs := [.ref a, y]) F hr hx I (.cons rfl (.cons ry .nil)) q)) (fun w s' z => ?_) fun _ _ x => x
  obtain ⟨z', H', I', rz, qz⟩ := z
  exact SlX.cmpback rz ⟨z', H', I', rz, qz⟩
end
end Kb
namespace Kb
open PySem PySem.Spec PyProof.Rows L2
/-! ### defs of a class's body -/
def NoAs (K : PySem.W.Frag) (C : Addr) : List Str → Prop
  | [] => True
  | f :: r => NoAttr K C f ∧ NoAs K C r
theorem NoAs.get {K : PySem.W.Frag} {C : Addr} {f : Str} : ∀ {l : List Str}, NoAs K C l → f ∈ l → NoAttr K C f
  | _ :: _, h, m => (List.mem_cons.mp m).elim (fun e => e ▸ h.1) fun m => NoAs.get h.2 m
/-- the class x stands at C -/
structure OwnC (K : PySem.W.Frag) (mg : Str → Option Value) (x : Str) (fs : List Str) (C : Addr) : Prop where
  g : mg x = some (.ref C)
  o : ClsO K C
  mks : PySem.W.makesIn K C = true
  kp : PySem.W.keepIn K (.ref C) = true
  na : NoAs K C fs
  ty : PySem.W.typeIn K (.ref C) = some (.type "type")
  ic : PySem.W.isClsIn K C = true
def tyV : Value → Bool
  | .type _ => true
  | _ => false
/-- a built-in type's instance is none of an own class -/
theorem OwnC.kitT {K : PySem.W.Frag} {mg : Str → Option Value} {x : Str} {fs : List Str} {C : Addr} (o : OwnC K mg x fs C) {T : String} (h : (fastBuiltinMro T).elim false (·.all tyV) = true) : PySem.W.kitOne K (.type T) (.ref C) = some false ∧ PySem.W.notFirst K C (.type T) = true := by
  have hs : PySem.W.subIn K (.type T) (.ref C) = some false := by
    show (fastBuiltinMro T).map (·.contains (Value.ref C)) = some false
    cases hl : fastBuiltinMro T with
    | none => rw [hl] at h; cases h
    | some l =>
      rw [hl] at h
      have h : l.all tyV = true := h
      rw [Option.map_some]
      refine congrArg some ?_
      rw [Bool.eq_false_iff]
      intro z
      rw [List.contains_iff_exists_mem_beq] at z
      obtain ⟨a, ha, e⟩ := z
      have := List.all_eq_true.mp h a ha
      cases a <;> first | (exact Bool.noConfusion (show false = true from this)) | (exact Bool.noConfusion (show false = true from e)) | (simp [BEq.beq] at e; done)
  have hc := o.ic
  unfold PySem.W.isClsIn at hc
  refine ⟨?_, ?_⟩
  · unfold PySem.W.kitOne PySem.W.kitCls
    simp [hc, o.ty, hs]
  · unfold PySem.W.notFirst
    rw [hs]; simp
/-- .. nor an instance of another own class -/
theorem OwnC.kitC {K : PySem.W.Frag} {mg : Str → Option Value} {x : Str} {fs : List Str} {C D : Addr} (o : OwnC K mg x fs C) (hs : PySem.W.subIn K (.ref D) (.ref C) = some false) (hn : D ≠ C) : PySem.W.kitOne K (.ref D) (.ref C) = some false ∧ PySem.W.notFirst K C (.ref D) = true := by
  have hc := o.ic
  unfold PySem.W.isClsIn at hc
  refine ⟨?_, ?_⟩
  · unfold PySem.W.kitOne PySem.W.kitCls
    simp [hc, o.ty, hs, hn]
  · unfold PySem.W.notFirst
    rw [hs]; simp
theorem OwnC.first {K : PySem.W.Frag} {C : Addr} : PySem.W.notFirst K C (.ref C) = true := by
  unfold PySem.W.notFirst
  simp
/-- the def m of the class at C -/
def MthT (K : PySem.W.Frag) (mg : Str → Option Value) (x m qual : Str) (st : Stmt) (ps : List Str) : Prop :=
  ∃ (C f : Addr) (fd : FuncData), mg x = some (.ref C) ∧ PySem.W.findIn K (.ref C) m = some (some (.ref f)) ∧ PySem.W.isFn K (.ref f) = true ∧ Fun K m qual st f fd ∧ ∀ us : List Value, us.length = ps.length → bindArgs fd ⟨us, []⟩ = pure (ps.zip us)
theorem MthT.mk {K : PySem.W.Frag} {mg : Str → Option Value} {h : Heap} {x m qual : Str} {st : Stmt} {ps : List Str} {C f : Addr} {oc : Value} {od an : Option Addr} {sl : Array (Option Value)} {kV doc pm cd ct : Value} (X : K.In h) (G : h.Ns PySem.mainGlobals mg)
    (b : ∀ (kV doc pm : Value) (an : Option Addr) (cdv ct : Value) (us : List Value), us.length = ps.length → bindArgs (PySem.W.fnOf m qual (defArgs st) (defBody st) (defScope st) .none kV doc pm an cdv ct) ⟨us, []⟩ = pure (ps.zip us))
    (a : PySem.W.nsIn K PySem.mainGlobals x = some (some (.ref C))) (i : PySem.W.findIn K (.ref C) m = some (some (.ref f))) (n : PySem.W.isFn K (.ref f) = true)
    (l : K.lookup f = some ⟨oc, od, .func (PySem.W.fnOf m qual (defArgs st) (defBody st) (defScope st) .none kV doc pm an cd ct), sl⟩)
    (c : PySem.W.codeIn K cd qual = true) (k : PySem.W.keepIn K (.ref f) = true) : MthT K mg x m qual st ps :=
  ⟨C, f, _, PySem.W.mg_of X G a, i, n, fun_mk l c k, b kV doc pm an cd ct⟩
/-- .. and its promise -/
def CalM (P : Program) (w : World) (K : PySem.W.Frag) (mg : Str → Option Value) (base : Heap) (CX : CXT) (k : Nat) (x m : Str) (ps : List Str) (sp : Sp) : Prop :=
  ∃ (C f : Addr) (fd : FuncData), mg x = some (.ref C) ∧ PySem.W.findIn K (.ref C) m = some (some (.ref f)) ∧ PySem.W.isFn K (.ref f) = true ∧ FnOk P w K mg base CX k f fd ps sp ∧ Binds K fd ps []
section
variable {P : Program} {w : World} {K : PySem.W.Frag} {mg : Str → Option Value} {base : Heap}
theorem MthT.ok0 {x m qual : Str} {st : Stmt} {N ps : List Str} {k : Nat} {sp : Sp} (D : MthT K mg x m qual st ps) (S : FnScope N ps (defScope st)) (len : ∀ vs H Q E, sp vs H Q E → vs.length = ps.length)
    (hbody : ∀ (f : Addr) (cdv : Value) (A : Around) (outer : List Env) (s : Shared) (H : Hp) (vs : List V) (Q : VK) (E : XK), Room k (A.deeper (envOfC qual (defScope st) s.heap.objs.size f cdv)) → sp vs H Q E →
      ∃ t, PSs (cxOf CX0 P w K mg base N qual (defScope st) f cdv A outer s H E).nox (defBody st) t ∧ t { nx := fun _ H' => Q .non H', rt := Q } (start N vs) H) : CalM P w K mg base CX0 (k + 1) x m ps sp := by
  obtain ⟨C, f, fd, g, i, n, F, b⟩ := D
  exact ⟨C, f, fd, g, i, n, F.ok S len (hbody f), .all b⟩
end
section
variable {X : Cx} {CX : CXT} {j k : Nat} {x : Str} {ps fs : List Str} {sp : Sp} {E : XK} {C : Addr}
/-- C(e, ..) -/
theorem pe_mkC {p pos : Pos} {e : Expr} {es : List Expr} {t : TA} (o : OwnC X.K X.mg x fs C) (c : CalM X.prog X.w X.K X.mg X.base CX j x "__init__" ps sp) (hr : Room k X.A) (hjk : j + 1 ≤ k) (hg : Gl X x) (hx : Passes CX X E)
    (ha : PA X (e :: es) t) (hdb : (x == ("__debug__" : Str)) = false := by decide) (he : starEach (e :: es) X.env = (false, eval e X.env) :: starEach es X.env := by rfl) (hpl : (backTo pos (starEach es X.env)).any (·.1) = false := by rfl) :
    PE X (.Call (.Name x p) (e :: es) [] pos) (tMake C sp [] E t) := by
  obtain ⟨C', f, fd, g, i, n, F, b⟩ := c
  obtain rfl : C' = C := by have := g.symm.trans o.g; cases this; rfl
  exact pe_make ⟨o.mks, i, n, o.kp⟩ F (hr.mono hjk) hg o.g b .nil hx ha hdb he hpl
/-- x == y by the def of x's class -/
theorem op_eqM (o : OwnC X.K X.mg x fs C) (c : CalM X.prog X.w X.K X.mg X.base CX j x "__eq__" ps sp) (hr : Room k X.A) (hjk : j ≤ k) (hx : Passes CX X E) (hl : ∀ vs H Q E, sp vs H Q E → vs.length = ps.length) : OpR X (compareOp .Eq) (rEqOwn X.K C sp E) := by
  obtain ⟨C', f, fd, g, i, n, F, b⟩ := c
  obtain rfl : C' = C := by have := g.symm.trans o.g; cases this; rfl
  refine op_eqOwn (fun _ _ => rfl) i n ((F.raw b .nil).imp fun vs H Q E h => ?_) (hr.mono hjk) hx
  rw [List.append_nil]; exact h
end
end Kb
namespace Kb
open PySem PySem.Spec PyProof.Rows L2
theorem OwnC.ex {K : PySem.W.Frag} {mg : Str → Option Value} {h : Heap} {x : Str} {fs : List Str} {C : Addr} (X : K.In h) (G : h.Ns PySem.mainGlobals mg) (a : PySem.W.nsIn K PySem.mainGlobals x = some (some (.ref C)))
    (pg : PySem.W.plainGet K C Str.empty = true) (hd : PySem.W.hasDictIn K C = true) (po : PySem.W.plainOver K C = true) (sa : PySem.W.findIn K (.ref C) "__setattr__" = some (some (.builtin "object.__setattr__")))
    (ca : PySem.W.findIn K (.ref C) "__class__" = some (some (.builtin "object.__class__"))) (cn : PySem.W.specialIn K (.builtin "object.__class__") "__get__" = some (some (.builtin "getset_descriptor.__get__")))
    (ct : PySem.W.takesIn K (.builtin "object.__class__") = some true) (cm : PySem.W.mroIn K C (.type "object") = some true) (mks : PySem.W.makesIn K C = true) (kp : PySem.W.keepIn K (.ref C) = true) (ty : PySem.W.typeIn K (.ref C) = some (.type "type")) (ic : PySem.W.isClsIn K C = true) (na : NoAs K C fs) : ∃ C, OwnC K mg x fs C :=
  ⟨C, PySem.W.mg_of X G a, ⟨⟨pg, hd, po, sa⟩, ca, cn, ct, cm⟩, mks, kp, na, ty, ic⟩
theorem two_own {K : PySem.W.Frag} {mg : Str → Option Value} {x y : Str} {D C : Addr} (h1 : mg x = some (.ref D)) (h2 : mg y = some (.ref C)) (h3 : PySem.W.subIn K (.ref D) (.ref C) = some false) (h4 : D ≠ C) :
    ∃ D C, mg x = some (.ref D) ∧ mg y = some (.ref C) ∧ PySem.W.subIn K (.ref D) (.ref C) = some false ∧ D ≠ C := ⟨D, C, h1, h2, h3, h4⟩
/-! ### an __init__ with keyword-only parameters: all of them are told, or none -/
def KwAll (K : PySem.W.Frag) (D : Addr) : List (Str × V) → Prop
  | [] => True
  | q :: r => (∃ u, PySem.W.nsIn K D q.1 = some (some u) ∧ RelV q.2 u) ∧ KwAll K D r
theorem KwAll.all {K : PySem.W.Frag} {D : Addr} : ∀ {l : List (Str × V)}, KwAll K D l → ∀ q ∈ l, ∃ u, PySem.W.nsIn K D q.1 = some (some u) ∧ RelV q.2 u
  | _ :: _, h, q, m => (List.mem_cons.mp m).elim (fun e => e ▸ h.1) fun m => KwAll.all h.2 q m
theorem KwAll.cons {K : PySem.W.Frag} {D : Addr} {f : Str} {v : V} {r : List (Str × V)} {u : Value} (h1 : PySem.W.nsIn K D f = some (some u)) (h2 : RelV v u) (h3 : KwAll K D r) : KwAll K D ((f, v) :: r) := ⟨⟨u, h1, h2⟩, h3⟩
def MthK (K : PySem.W.Frag) (mg : Str → Option Value) (x m qual : Str) (st : Stmt) (n : Nat) (ps : List Str) (kws : List (Str × V)) : Prop :=
  ∃ (C f : Addr) (fd : FuncData), mg x = some (.ref C) ∧ PySem.W.findIn K (.ref C) m = some (some (.ref f)) ∧ PySem.W.isFn K (.ref f) = true ∧ FunD K m qual (defArgs st) (defBody st) (defScope st) [] kws f fd ∧
    (∃ g, KBn K fd ps n (kws.map (·.1)) g (fun vs zs => vs ++ zs)) ∧ ∃ g, KBn K fd ps n [] g (fun vs _ => vs ++ kws.map (·.2))
theorem MthK.mk {K : PySem.W.Frag} {mg : Str → Option Value} {h : Heap} {x m qual : Str} {st : Stmt} {ps : List Str} {n : Nat} {kws : List (Str × V)} {C f D : Addr} {oc : Value} {od an : Option Addr} {sl : Array (Option Value)} {doc pm cd ct : Value} (X : K.In h) (G : h.Ns PySem.mainGlobals mg) (hk : kws ≠ [])
    (b : ∀ (kV doc pm : Value) (an : Option Addr) (cdv ct : Value) (us ws : List Value), us.length = n → ws.length = kws.length → bindArgs (PySem.W.fnOf m qual (defArgs st) (defBody st) (defScope st) .none kV doc pm an cdv ct) ⟨us, (kws.map (·.1)).zip ws⟩ = pure (ps.zip (us ++ ws)))
    (b0 : ∀ (D : Addr) (doc pm : Value) (an : Option Addr) (cdv ct : Value) (us mv : List Value), us.length = n → mv.length = kws.length →
      KwChain D ((kws.map (·.1)).zip mv) (bindArgs (PySem.W.fnOf m qual (defArgs st) (defBody st) (defScope st) .none (.ref D) doc pm an cdv ct) ⟨us, []⟩) (ps.zip (us ++ mv)))
    (a : PySem.W.nsIn K PySem.mainGlobals x = some (some (.ref C))) (i : PySem.W.findIn K (.ref C) m = some (some (.ref f))) (fn : PySem.W.isFn K (.ref f) = true)
    (l : K.lookup f = some ⟨oc, od, .func (PySem.W.fnOf m qual (defArgs st) (defBody st) (defScope st) .none (.ref D) doc pm an cd ct), sl⟩)
    (c : PySem.W.codeIn K cd qual = true) (k : PySem.W.keepIn K (.ref f) = true) (kw : KwAll K D kws) : MthK K mg x m qual st n ps kws := by
  have F : FunD K m qual (defArgs st) (defBody st) (defScope st) [] kws f (PySem.W.fnOf m qual (defArgs st) (defBody st) (defScope st) .none (.ref D) doc pm an cd ct) :=
    ⟨⟨oc, od, .none, .ref D, doc, pm, an, cd, ct, sl, rfl, l, c, .inl ⟨rfl, rfl⟩, .inr ⟨D, rfl, kw.all⟩⟩, k⟩
  refine ⟨C, f, _, PySem.W.mg_of X G a, i, fn, F, ?_, ?_⟩
  · obtain ⟨mv, B⟩ := F.kbinds0 n (kws.map (·.1)) [] (fun us _ ws => us ++ ws) hk (fun q hq => by cases hq) (fun r _ rz => r.append rz) (fun D doc pm an cdv ct us mv ws h1 h2 h3 => b (.ref D) doc pm an cdv ct us ws h1 (by rw [h3, List.length_map]))
    exact ⟨_, B⟩
  · obtain ⟨mv, B⟩ := F.kbinds0 n [] kws (fun us mv _ => us ++ mv) hk (fun q hq => hq) (fun r rm _ => r.append rm) (fun D doc pm an cdv ct us mv ws h1 h2 h3 => b0 D doc pm an cdv ct us mv h1 h2)
    exact ⟨_, B⟩
/-- .. and its promise -/
def CalK (P : Program) (w : World) (K : PySem.W.Frag) (mg : Str → Option Value) (base : Heap) (CX : CXT) (k : Nat) (x m : Str) (n : Nat) (ps : List Str) (kws : List (Str × V)) (sp : Sp) : Prop :=
  ∃ (C f : Addr) (fd : FuncData), mg x = some (.ref C) ∧ PySem.W.findIn K (.ref C) m = some (some (.ref f)) ∧ PySem.W.isFn K (.ref f) = true ∧ FnOk P w K mg base CX k f fd ps sp ∧
    (∃ g, KBn K fd ps n (kws.map (·.1)) g (fun vs zs => vs ++ zs)) ∧ ∃ g, KBn K fd ps n [] g (fun vs _ => vs ++ kws.map (·.2))
section
variable {P : Program} {w : World} {K : PySem.W.Frag} {mg : Str → Option Value} {base : Heap}
theorem MthK.okX {x m qual : Str} {st : Stmt} {N ps : List Str} {k n : Nat} {kws : List (Str × V)} {sp : Sp} (D : MthK K mg x m qual st n ps kws) (S : FnScope N ps (defScope st)) (len : ∀ vs H Q E, sp vs H Q E → vs.length = ps.length)
    (hbody : ∀ (f : Addr) (cdv : Value) (A : Around) (outer : List Env) (s : Shared) (H : Hp) (vs : List V) (Q : VK) (E : XK), Room k (A.deeper (envOfC qual (defScope st) s.heap.objs.size f cdv)) → sp vs H Q E →
      ∃ t, PSs (cxOf (L2.CX P w) P w K mg base N qual (defScope st) f cdv A outer s H E) (defBody st) t ∧ t { nx := fun _ H' => Q .non H', rt := Q } (start N vs) H) : CalK P w K mg base (L2.CX P w) (k + 1) x m n ps kws sp := by
  obtain ⟨C, f, fd, g, i, fn, F, b, b0⟩ := D
  exact ⟨C, f, fd, g, i, fn, F.ok S len (hbody f), b, b0⟩
end
section
variable {X : Cx} {CX : CXT} {j k n : Nat} {x : Str} {ps fs : List Str} {kws : List (Str × V)} {sp : Sp} {E : XK} {C : Addr}
/-- C(e, .., k = v, ..), all keyword-only parameters told -/
theorem pe_mkK {p pos : Pos} {e : Expr} {es : List Expr} {kw : List Keyword} {t tk : TA} (o : OwnC X.K X.mg x fs C) (c : CalK X.prog X.w X.K X.mg X.base CX j x "__init__" (n + 1) ps kws sp) (hr : Room k X.A) (hjk : j + 1 ≤ k) (hg : Gl X x) (hx : Passes CX X E)
    (ha : PA X (e :: es) t) (hkw : PK X kw tk) (hall : (backToKw pos (keywordEach kw X.env)).all (·.1.isSome) = true := by rfl) (hks : (backToKw pos (keywordEach kw X.env)).filterMap (·.1) = kws.map (·.1) := by rfl) (hdb : (x == ("__debug__" : Str)) = false := by decide)
    (he : starEach (e :: es) X.env = (false, eval e X.env) :: starEach es X.env := by rfl) (hpl : ((backTo pos (starEach (e :: es) X.env)).any (·.1) || (backToKw pos (keywordEach kw X.env)).any (·.1.isNone)) = false := by rfl) :
    PE X (.Call (.Name x p) (e :: es) kw pos) (tMakeK C n (kws.map (·.1)).length sp (fun vs zs => vs ++ zs) E t tk) := by
  obtain ⟨C', f, fd, g, i, fn, F, ⟨gb, B⟩, _⟩ := c
  obtain rfl : C' = C := by have := g.symm.trans o.g; cases this; rfl
  exact pe_makeK ⟨o.mks, i, fn, o.kp⟩ F (hr.mono hjk) hg o.g B hx ha hkw hall hks hdb he hpl
/-- C(e, ..), none told -/
theorem pe_mkK0 {p pos : Pos} {e : Expr} {es : List Expr} {t : TA} (o : OwnC X.K X.mg x fs C) (c : CalK X.prog X.w X.K X.mg X.base CX j x "__init__" (n + 1) ps kws sp) (hr : Room k X.A) (hjk : j + 1 ≤ k) (hg : Gl X x) (hx : Passes CX X E)
    (ha : PA X (e :: es) t) (hdb : (x == ("__debug__" : Str)) = false := by decide)
    (he : starEach (e :: es) X.env = (false, eval e X.env) :: starEach es X.env := by rfl) (hpl : ((backTo pos (starEach (e :: es) X.env)).any (·.1) || (backToKw pos (keywordEach [] X.env)).any (·.1.isNone)) = false := by rfl) :
    PE X (.Call (.Name x p) (e :: es) [] pos) (tMakeK C n 0 sp (fun vs _ => vs ++ kws.map (·.2)) E t tNil) := by
  obtain ⟨C', f, fd, g, i, fn, F, _, ⟨gb, B⟩⟩ := c
  obtain rfl : C' = C := by have := g.symm.trans o.g; cases this; rfl
  exact pe_makeK (ks := []) ⟨o.mks, i, fn, o.kp⟩ F (hr.mono hjk) hg o.g B hx ha pk_nil rfl rfl hdb he hpl
end
end Kb
namespace Kb
open PySem PySem.Spec PyProof.Rows L2
/-! ### a display of pairs whose second items are reckoned -/
def GivS (σ : L2.St) (H0 : Hp) (te : TE) (v : V) : Prop := ∀ (H : Hp) (Q : VK), Same H0 H → (∀ H', Same H H' → Q v H') → te σ H Q
def RowsS (σ : L2.St) (H0 : Hp) (t : TA) (L : List (List V)) : Prop := ∀ (H : Hp) (Q : List V → Hp → Prop), Same H0 H → (∀ qs H1, Same H H1 → TupsAt H1 qs L → Q (qs.map V.ref) H1) → t σ H Q
theorem rowsS_nil {σ : L2.St} {H0 : Hp} : RowsS σ H0 tNil [] := fun H _ _ h => h [] H (Same.refl _) trivial
theorem rowsS_cons {σ : L2.St} {H0 : Hp} {a v : V} {te : TE} {t : TA} {L : List (List V)} (h : GivS σ H0 te v) (r : RowsS σ H0 t L) : RowsS σ H0 (tCons (tTup (tCons (tC a) (tCons te tNil))) t) ([a, v] :: L) := fun H Q s q =>
  h H _ s fun H1 s1 => ⟨show 2 ≤ sizeLine by decide, fun p hp => r _ _ (s.trans (s1.trans (Same.new hp))) fun qs H2 s2 ht => q (p :: qs) H2 ((s1.trans (Same.new hp)).trans s2) ⟨s2 _ _ upd_same, ht⟩⟩
theorem rowsS_tup {σ : L2.St} {H0 H : Hp} {t : TA} {L : List (List V)} {Q : VK} (R : RowsS σ H0 t L) (hl : L.length ≤ 1000) (s : Same H0 H) (q : ∀ p qs H1, Same H H1 → TupsAt H1 qs L → H1 p = some (.tup (qs.map V.ref)) → Q (.ref p) H1) : tTup t σ H Q :=
  R H _ s fun qs H1 s1 ht => ⟨Nat.le_trans (by rw [List.length_map, ht.len]; exact hl : _ ≤ 1000) (by decide), fun p hp => q p qs _ (s1.trans (Same.new hp)) (ht.same (Same.new hp)) upd_same⟩
theorem TupsAt.get {H : Hp} : ∀ {qs : List Addr} {cs : List (List V)} {i : Nat} {x : V}, TupsAt H qs cs → (qs.map V.ref)[i]? = some x → ∃ q c, x = .ref q ∧ cs[i]? = some c ∧ H q = some (.tup c)
  | [], [], _, _, _, e => by simp at e
  | q :: _, c :: _, 0, x, h, e => by simp at e; exact ⟨q, c, e.symm, rfl, h.1⟩
  | _ :: qs, _ :: cs, i + 1, x, h, e => by
    obtain ⟨q, c, h1, h2, h3⟩ := TupsAt.get (i := i) (x := x) h.2 (by simpa using e)
    exact ⟨q, c, h1, by simpa using h2, h3⟩
theorem itup_rowsS {K : PySem.W.Frag} {σ : L2.St} {H : Hp} {t : TA} {L : List (List V)} {R' : It → Hp → Prop} (R : RowsS σ H t L) (hl : L.length ≤ 1000) (q : ∀ p qs H1, Same H H1 → TupsAt H1 qs L → H1 p = some (.tup (qs.map V.ref)) → R' (Itt K p) H1) : iTup K (tTup t) σ H R' :=
  rowsS_tup R hl (Same.refl _) fun p qs H1 s1 t1 m1 => ⟨p, rfl, ⟨_, SqT.of m1⟩, q p qs H1 s1 t1 m1⟩
theorem seq_for_rowsS {K : PySem.W.Frag} {σ : L2.St} {H : Hp} {t : TA} {L : List (List V)} {g : TG} {tb b : TS} {D : Ends} (R : RowsS σ H t L) (hl : L.length ≤ 1000)
    (q : ∀ p qs H1, Same H H1 → TupsAt H1 qs L → H1 p = some (.tup (qs.map V.ref)) → ∃ Pv : Nat → L2.St → Hp → Prop, Pv 0 σ H1 ∧ (∀ i σ H2, i ≤ (qs.map V.ref).length → Pv i σ H2 → SqT K H2 p (qs.map V.ref)) ∧
      (∀ i x σ H2, (qs.map V.ref)[i]? = some x → Pv i σ H2 → g x σ H2 fun σ2 H3 => tb { D with nx := Pv (i + 1), ct := Pv (i + 1), bk := b D } σ2 H3) ∧ ∀ σ H2, Pv (qs.map V.ref).length σ H2 → b D σ H2) : tSeq (tFor (iTup K (tTup t)) g tb) b D σ H := by
  unfold tSeq tFor
  exact itup_rowsS R hl fun p qs H1 s1 t1 m1 => let ⟨Pv, h0, h1, h2, h3⟩ := q p qs H1 s1 t1 m1; for_tup (D := { D with nx := b D }) Pv h0 h1 h2 h3
theorem putF_app {f : Str} {v : V} : ∀ {fs : List (Str × V)} (names : List Str), fs.map (·.1) = names → (names.all fun g => !decide (g = f)) = true → putF f v fs = fs ++ [(f, v)]
  | [], _, _, _ => rfl
  | (g, x) :: r, names, h, hn => by
    subst h
    rw [List.map_cons, List.all_cons, Bool.and_eq_true] at hn
    have hg : ¬ g = f := fun e => by rw [e] at hn; simp at hn
    show (if g = f then (g, v) :: r else (g, x) :: putF f v r) = _
    rw [if_neg hg, putF_app (fs := r) _ rfl hn.2]
    rfl
end Kb

namespace Kb
open PySem PySem.Spec PyProof.Rows L2
/-! ### a caught error of a class that is told by its base; isinstance of it -/
/-- isinstance(e, c), e the caught error with its dict -/
def rIsX (K : PySem.W.Frag) (a : Addr) (cls : Value) (d : Option Addr) : List V → Hp → VK → Prop := fun xs H Q =>
  ∃ (D dd : Addr) (fs : List (Str × V)) (c : V) (cv : Value) (b : Bool), xs = [.ref a, c] ∧ cls = .ref D ∧ d = some dd ∧ H dd = some (.xd fs) ∧ (∀ u, RelV c u → u = cv) ∧ ExcC K D ∧ PySem.W.kitOne K (.ref D) cv = some b ∧ Q (.bl b) H
theorem call_isX {X : Cx} {a : Addr} {cls : Value} {d : Option Addr} {oe : Obj} {pn : List (Addr × Obj)} (hz : Zc cls d oe) (hf : ∃ vs, oe.data = .fields vs) : CallR (X.suite a ((a, oe) :: pn)) (.builtin "isinstance") (rIsX X.K a cls d) := by
  intro pins s σ H xs us Q I r h
  obtain ⟨D, dd, fs, c, cv, b, rfl, ec, ed, hd, hcv, C, e, q⟩ := h
  subst ec ed
  obtain ⟨u1, u2, rfl, r1, r2⟩ : ∃ u1 u2, us = [u1, u2] ∧ RelV (.ref a) u1 ∧ RelV c u2 := by
    cases r with
    | cons ru rr =>
      cases rr with
      | cons rt rr => cases rr; exact ⟨_, _, rfl, ru, rt⟩
  obtain rfl : u1 = Value.ref a := r1
  obtain rfl := hcv _ r2
  obtain ⟨ha, _⟩ := I.pin (a, oe) (List.mem_append_left _ List.mem_cons_self)
  obtain ⟨vs, hv⟩ := hf
  obtain ⟨mA, hns, _⟩ := (show ObjOk X.prog X.w H s.heap dd (.xd fs) from I.hok dd _ hd)
  obtain ⟨od, ho, _⟩ := lookIn_ns hns
  have J : PySem.W.InstAt s.heap a oe D (some od) := ⟨ha, hz.1, by unfold PySem.W.notCls; rw [hv] <;> rfl, by rw [hz.2]; exact ho⟩
  have hcl : (PySem.W.clsIn X.K D).isSome = true := by
    obtain ⟨cd, hc, _⟩ := PySem.W.any_some C.hd
    rw [hc]; rfl
  exact PySem.W.kia_one (PySem.W.kitx_exc hcl C.hg C.hk C.hs C.ha C.hn C.ht C.hm) I.kIn J e (fun z => nomatch z) fun tk => ⟨.bl b, H, I.kept (t' := tk) fun _ _ z => z, rfl, q⟩
/-- what is asked of a base class B in an except clause, and of the class x that it catches -/
def BaseX (K : PySem.W.Frag) (mg : Str → Option Value) (B x : Str) : Prop :=
  ∃ C0 C : Addr, mg B = some (.ref C0) ∧ mg x = some (.ref C) ∧ PySem.W.exmOne K (.ref C) (.ref C0) = some true ∧ ExcC K C
theorem exm_sub {K : PySem.W.Frag} {S T : Addr} (h1 : PySem.W.subIn K (.ref T) (.type "BaseException") = some true) (h2 : PySem.W.isClsIn K T = true) (h3 : PySem.W.typeIn K (.ref T) = some (.type "type")) (h4 : PySem.W.subIn K (.ref S) (.ref T) = some true) :
    PySem.W.exmOne K (.ref S) (.ref T) = some true := by
  unfold PySem.W.isClsIn at h2
  unfold PySem.W.exmOne
  simp only [h1]
  unfold PySem.W.kitCls
  simp [h2, h3, h4]
theorem BaseX.mk {K : PySem.W.Frag} {mg : Str → Option Value} {h : Heap} {B x : Str} {T S : Addr} (X : K.In h) (G : h.Ns PySem.mainGlobals mg) (a0 : PySem.W.nsIn K PySem.mainGlobals B = some (some (.ref T))) (a1 : PySem.W.nsIn K PySem.mainGlobals x = some (some (.ref S)))
    (h1 : PySem.W.subIn K (.ref T) (.type "BaseException") = some true) (h2 : PySem.W.isClsIn K T = true) (h3 : PySem.W.typeIn K (.ref T) = some (.type "type")) (h4 : PySem.W.subIn K (.ref S) (.ref T) = some true)
    (c1 : PySem.W.findIn K (.ref S) "__getattribute__" = some (some (.builtin "BaseException.__getattribute__"))) (c2 : PySem.W.findIn K (.ref S) "__getattr__" = some none) (c3 : PySem.W.subIn K (.ref S) (.type "BaseException") = some true) (c4 : PySem.W.hasDictIn K S = true)
    (c5 : PySem.W.findIn K (.ref S) "__class__" = some (some (.builtin "object.__class__"))) (c6 : PySem.W.specialIn K (.builtin "object.__class__") "__get__" = some (some (.builtin "getset_descriptor.__get__"))) (c7 : PySem.W.takesIn K (.builtin "object.__class__") = some true)
    (c8 : PySem.W.mroIn K S (.type "object") = some true) : BaseX K mg B x := ⟨T, S, PySem.W.mg_of X G a0, PySem.W.mg_of X G a1, exm_sub h1 h2 h3 h4, ⟨c1, c2, c3, c4, c5, c6, c7, c8⟩⟩
/-! ### C(e, .., k = v, ..) whose __init__ may raise -/
def tMakeW (C : Addr) (n m : Nat) (sp : Sp) (gV : List V → List V → List V) (W : WX) (t tk : TA) : TE := fun σ => tMakeK C n m sp gV (WE W σ) t tk σ
section
variable {X : Cx} {W : WX} {j k n : Nat} {x : Str} {ps fs : List Str} {kws : List (Str × V)} {sp : Sp} {C : Addr}
theorem pe_mkKX {p pos : Pos} {e : Expr} {es : List Expr} {kw : List Keyword} {t tk : TA} (o : OwnC X.K X.mg x fs C) (c : CalK X.prog X.w X.K X.mg X.base (L2.CX X.prog X.w) j x "__init__" (n + 1) ps kws sp) (hr : Room k X.A) (hjk : j + 1 ≤ k) (hg : Gl X x) (tW : Takes X W)
    (ha : PA X (e :: es) t) (hkw : PK X kw tk) (hall : (backToKw pos (keywordEach kw X.env)).all (·.1.isSome) = true := by rfl) (hks : (backToKw pos (keywordEach kw X.env)).filterMap (·.1) = kws.map (·.1) := by rfl) (hdb : (x == ("__debug__" : Str)) = false := by decide)
    (he : starEach (e :: es) X.env = (false, eval e X.env) :: starEach es X.env := by rfl) (hpl : ((backTo pos (starEach (e :: es) X.env)).any (·.1) || (backToKw pos (keywordEach kw X.env)).any (·.1.isNone)) = false := by rfl) :
    PE X (.Call (.Name x p) (e :: es) kw pos) (tMakeW C n (kws.map (·.1)).length sp (fun vs zs => vs ++ zs) W t tk) := by
  obtain ⟨C', f, fd, g, i, fn, F, ⟨gb, B⟩, _⟩ := c
  obtain rfl : C' = C := by have := g.symm.trans o.g; cases this; rfl
  refine ⟨fun pins s σ H Q I h => ?_⟩
  refine wpAny_Call_Name_kw (ld_glob I hg o.g ?_ hdb)
  refine PySem.W.callWith_KW (h₀ := X.base) I.ok.mod.kin o.kp hall (thn (ha.run pos pins s σ H _ I h) fun us s1 ⟨vs, H1, I1, r, q⟩ => ?_) hpl he
  refine thn (hkw.run pos pins s1 σ H1 _ I1 q) fun ws s2 ⟨zs, H2, I2, rz, l1, l2, q2⟩ => ⟨I2.kIn, ?_⟩
  rw [hks]
  have r1 : Vals (V.ref (s2.heap.objs.size + 1) :: vs) (Value.ref (s2.heap.objs.size + 1) :: us) := .cons rfl r
  have I3 := Inv.made (C := C') I2
  show wpAny _ _ (call (.ref C') us ((kws.map (·.1)).zip ws)) _ _ _
  refine wpAny_call (make_map (f := f) I2.kIn o.mks i (beq_iff_eq.mp fn) (codeAny_mono (F.run _ X.stack _ _ ⟨Value.ref (s2.heap.objs.size + 1) :: us, (kws.map (·.1)).zip ws⟩ (gb (Value.ref (s2.heap.objs.size + 1) :: us) ws) _ _ (WE W σ) ((hr.mono hjk).make C' us ((kws.map (·.1)).zip ws))
    (I3.env0.make C' us ((kws.map (·.1)).zip ws)) (B.to _ (Value.ref (s2.heap.objs.size + 1) :: us) ws I3.kIn (by rw [List.length_cons, ← r.length, l1]) (rz.length.symm.trans l2)) (B.rel r1 rz) (q2 _ _ (I2.hok.fresh (Nat.le_succ _)) (I2.hok.fresh (Nat.le_refl _)) (Nat.ne_of_lt (Nat.lt_succ_self _)))) fun a s' hq => ?_))
  cases a with
  | error z => exact passAt tW σ pins _ _ z s' I3 hq
  | ok fl =>
    cases fl with
    | ret u =>
      obtain ⟨v, H', I4, rv, ev, q4⟩ := I3.after hq
      subst ev
      exact ⟨rv, .ref _, H', I4, rfl, q4⟩
    | next => exact hq.elim
    | brk => exact hq.elim
    | cont => exact hq.elim
end
end Kb

namespace Kb
open PySem PySem.Spec PyProof.Rows L2
/-! ### d.values(), list and tuple of it -/
def tVals (td : TE) : TE := fun σ H Q => td σ H fun x H1 => ∃ a kvs, x = .ref a ∧ H1 a = some (.dK kvs) ∧ ∀ p, H1 p = none → Q (.ref p) (upd H1 p (viewO "dict_values" p a))
section
variable {X : Cx} {e : Expr} {td : TE} {apos cpos : Pos}
theorem pe_vals (he : PE X e td) (hbase : attributeBase e "values" X.env (eval e X.env) = eval e X.env := by rfl) (hline : (apos.endLine == cpos.line) = true := by rfl) : PE X (.Call (.Attribute e "values" apos) [] [] cpos) (tVals td) := by
  refine ⟨fun pins s σ H Q I h => ?_⟩
  refine wpAny_Call_method (T := "dict") (id := "dict.values") hbase rfl hline F.plainAttrs_dict F.slot_dict_values F.type_dict_values (thn (he.run pins s σ H _ I h) fun u s1 ⟨x, H1, I1, rx, a, kvs, ex, hd, q⟩ => ?_)
  subst ex
  obtain rfl : u = Value.ref a := rx
  obtain ⟨hz, hsys, vs, rel, dof⟩ := (show ObjOk X.prog X.w H1 s1.heap a (.dK kvs) from I1.hok a _ hd)
  refine ⟨dof.typeIs, dof.mapOf.noDict, ?_⟩
  have fin : EP X pins σ Q (.ref s1.heap.objs.size) { s1 with heap := s1.heap.push (DSub.viewOb "dict_values" a) } :=
    ⟨.ref s1.heap.objs.size, _, I1.laid (t' := s1.toks) (fun b o q => Heap.get?_push_of_some _ q) (Nat.le_refl _) (viewO_ok (Heap.get?_push_size _ rfl)), rfl, q _ (I1.hok.fresh (Nat.le_refl _))⟩
  show wpAny _ _ (callWith cpos (.builtin "dict.values") [.ref a] [] []) _ X.xe s1
  exact method_meetsIn F.slot_dict_values F.entry_dict_values rfl (PySem.evalArgs_none ⟨rfl, dof.typeIs, F.args_dict_values_1 _, _, meets_dict_values (mixKind X.prog X.w) a hsys, ⟨vs, dof⟩, fin⟩)
end
theorem kv_at {κ : Type} : ∀ {ks : List (κ × V)} {vs : List (κ × Value)} {j : Nat} {k : κ} {w : Value}, KV ks vs → vs[j]? = some (k, w) → ∃ y, ks[j]? = some (k, y) ∧ RelV y w
  | _, _, _, _, _, .nil, h => by simp at h
  | p :: _, q :: _, 0, k, w, .cons r _, h => by
    simp at h
    subst h
    obtain ⟨p1, p2⟩ := p
    obtain ⟨r1, r2⟩ := r
    have r1 : p1 = k := r1
    subst r1
    exact ⟨p2, rfl, r2⟩
  | _ :: _, _ :: _, j + 1, k, w, .cons _ t, h => by
    obtain ⟨y, h1, h2⟩ := kv_at (j := j) t (by simpa using h)
    exact ⟨y, by simpa using h1, h2⟩
section
variable {X : Cx}
theorem call_listV (hc : X.calm = true) : CallR X (.type "list") (fun xs H Q => ∃ (p a : Addr) (kvs : List (L2.Key × V)), xs = [.ref p] ∧ H p = some (viewO "dict_values" p a) ∧ H a = some (.dK kvs) ∧ ∀ q, H q = none → Q (.ref q) (upd H q (.lst (kvs.map (·.2))))) := by
  intro pins s σ H xs us Q I r h
  obtain ⟨p, a, kvs, e, hp, hk, q⟩ := h
  subst e
  obtain ⟨u, eu, rx⟩ := vals1 r
  subst eu
  obtain rfl : u = Value.ref p := rx
  have hv : s.heap.get? p = some (DSub.viewOb "dict_values" a) := (show ObjOk X.prog X.w H s.heap p (viewO "dict_values" p a) from I.hok p _ hp).1
  obtain ⟨z, lo, vs, rk, hd⟩ := (show ObjOk X.prog X.w H s.heap a (.dK kvs) from I.hok a _ hk)
  obtain ⟨ep, hat⟩ := hd.dictAt
  have hl : kvs.length = vs.length := Paired.length rk
  refine PySem.W.kdl_call (PySem.W.kdl_values (r := p) (d := a) (knd := mixKind X.prog X.w) (kvs := vs) (ep := ep)) (I.ok.hd hc) ⟨⟨_, hv, rfl, rfl⟩, hat⟩ (by rw [← hl]; exact z) fun h' tk acc' c' hkeep hS hacc => ?_
  refine ⟨.ref s.heap.objs.size, upd H s.heap.objs.size (.lst (kvs.map (·.2))), I.laid hkeep (Nat.le_refl _) (show ObjOk X.prog X.w _ _ _ (.lst (kvs.map (·.2))) from ⟨?_, acc'.toList, c', ?_, ?_⟩), rfl, q _ (I.hok.fresh (Nat.le_refl _))⟩
  · rw [List.length_map]; exact z
  · have el : acc'.toList.length = acc'.size := by simp
    refine vals_of_at (by rw [List.length_map, el, hacc.1, hl]) fun j x w h1 h2 => ?_
    obtain ⟨k, hky⟩ := hacc.2 j w (by rw [← Array.getElem?_toList]; exact h2)
    obtain ⟨y, g1, g2⟩ := kv_at rk hky
    rw [List.getElem?_map, g1] at h1
    cases h1
    exact g2
  · rw [Array.toArray_toList]; exact hS
end
section
variable {prog : Program} {w : World} {A : Around} {E : Value → Shared → Prop} {s : Shared} {r d : Addr} {κ : Type} [DecidableEq κ] {knd : PySem.KeyKind prog w κ} {kvs : List (κ × Value)} {ep : Nat}
theorem code_tuple_vals {Q₁ : Value → Shared → Prop} (hh : A.handled = none) (hv : s.heap.get? r = some (DSub.viewOb "dict_values" d)) (hat : s.heap.DictAt knd d kvs ep) (hlen : kvs.length ≤ sizeLine)
    (h : ∀ (h' : Heap) (tk : Nat) (acc : Array Value), (∀ b o, s.heap.get? b = some o → h'.get? b = some o) → PySem.ItemsOf (fun i v => ∃ k, kvs[i]? = some (k, v)) acc kvs.length →
      Q₁ (.ref h'.objs.size) { s with heap := h'.push { cls := .type "tuple", data := .seq acc }, toks := tk }) :
    codeAny (model prog w) A (.call (.builtin "tuple.__new__") ⟨[.type "tuple", .ref r], []⟩) (wants Q₁ E) s := by
  refine codeAny_of_tree ?_
  show wpAny _ A.in1 (do checkBuiltinCall "tuple.__new__" ⟨[.type "tuple", .ref r], []⟩; again (.builtin "tuple.__new__" ⟨[.type "tuple", .ref r], []⟩)) _ _ s
  refine wpAny_bind (wpAny_of_eq (F.newCall_tuple_1 _) (wpAny_pure ⟨plainId_quiet F.plain_tuple_new _, codeAny_builtin F.entry_tuple_new ?_⟩))
  rw [Around.under_plainId F.plain_tuple_new _]
  have hsub := sub_tuple_self
  have hinit := init_tuple_lookup
  have hmh := madeHere_tuple
  have hTI : s.TypeIs (.ref r) "dict_values" := ⟨_, hv, rfl⟩
  have hh1 : A.in1.handled = none := hh
  have hcol : ∀ {R : List Value → Shared → Prop} {E' : Value → Shared → Prop}, (∀ (h' : Heap) (tk : Nat) (acc : Array Value), (∀ b o, s.heap.get? b = some o → h'.get? b = some o) → PySem.ItemsOf (fun i v => ∃ k, kvs[i]? = some (k, v)) acc kvs.length → R acc.toList { s with heap := h', toks := tk }) →
      wpAny (model prog w) A.in1 (collect (.ref r)) R E' s := fun h => PySem.W.kdu_collect (A := A.in1) (PySem.W.kdl_values (r := r) (d := d) (knd := knd) (kvs := kvs) (ep := ep)) hh1 ⟨⟨_, hv, rfl, rfl⟩, hat⟩ hlen h
  wp_walk using wpAny_typeOf hTI, hcol
  intro h' tk acc hk hacc
  show wpAny _ _ (Builtin.Tuple.tupleExact acc.toList.toArray >>= fun v => ret v) _ _ _
  unfold Builtin.Tuple.tupleExact
  refine wpAny_bind (wpAny_newObj_type ?_ (by show acc.toList.toArray.size ≤ sizeLine; simp only [Array.toArray_toList]; rw [hacc.1]; exact hlen))
  refine wpAny_pure ?_
  have e : acc.toList.toArray = acc := by simp
  rw [e]
  exact h h' tk acc hk hacc
theorem call_tuple_vals {Q : Value → Shared → Prop} (hh : A.handled = none) (hv : s.heap.get? r = some (DSub.viewOb "dict_values" d)) (hat : s.heap.DictAt knd d kvs ep) (hlen : kvs.length ≤ sizeLine)
    (hQ : ∀ (h' : Heap) (tk : Nat) (acc : Array Value), (∀ b o, s.heap.get? b = some o → h'.get? b = some o) → PySem.ItemsOf (fun i v => ∃ k, kvs[i]? = some (k, v)) acc kvs.length →
      Q (.ref h'.objs.size) { s with heap := h'.push { cls := .type "tuple", data := .seq acc }, toks := tk }) :
    wpAny (model prog w) A (call (.type "tuple") [.ref r]) Q E s := by
  refine callType_codes (Q₁ := fun obj s₁ => s₁.TypeIs obj "tuple" ∧ Q obj s₁) F.called_tuple (F.typeCall_tuple_1 _) F.entry_object_init
    (code_tuple_vals (A := A.in1) hh hv hat hlen fun h' tk acc hk hacc => ⟨⟨_, Heap.get?_push_size _ rfl, rfl⟩, hQ h' tk acc hk hacc⟩) fun obj s₁ h₁ => ?_
  exact ⟨h₁.1, F.args_object_init_2 obj _, object_init_meets F.called_tuple.init.lookup F.called_tuple.made (by decide) prog w A.in1 _ s₁ ⟨h₁.1, rfl, h₁.2⟩⟩
end
section
variable {X : Cx}
theorem call_tupV (hc : X.calm = true) : CallR X (.type "tuple") (fun xs H Q => ∃ (p a : Addr) (kvs : List (L2.Key × V)), xs = [.ref p] ∧ H p = some (viewO "dict_values" p a) ∧ H a = some (.dK kvs) ∧ ∀ q, H q = none → Q (.ref q) (upd H q (.tup (kvs.map (·.2))))) := by
  intro pins s σ H xs us Q I r h
  obtain ⟨p, a, kvs, e, hp, hk, q⟩ := h
  subst e
  obtain ⟨u, eu, rx⟩ := vals1 r
  subst eu
  obtain rfl : u = Value.ref p := rx
  have hv : s.heap.get? p = some (DSub.viewOb "dict_values" a) := (show ObjOk X.prog X.w H s.heap p (viewO "dict_values" p a) from I.hok p _ hp).1
  obtain ⟨z, lo, vs, rk, hd⟩ := (show ObjOk X.prog X.w H s.heap a (.dK kvs) from I.hok a _ hk)
  obtain ⟨ep, hat⟩ := hd.dictAt
  have hl : kvs.length = vs.length := Paired.length rk
  refine call_tuple_vals (I.ok.hd hc) hv hat (by rw [← hl]; exact z) fun h' tk acc hkeep hacc => ?_
  have I1 : Inv X pins σ H { s with heap := h', toks := tk } := I.kept (t' := tk) hkeep
  refine ⟨.ref h'.objs.size, upd H h'.objs.size (.tup (kvs.map (·.2))), I1.laid (t' := tk) (fun c o e => Heap.get?_push_of_some _ e) (Nat.le_refl _) (show ObjOk X.prog X.w _ _ _ (.tup (kvs.map (·.2))) from ⟨by rw [List.length_map]; exact z, acc.toList, ?_, ?_⟩), rfl, q _ (I1.hok.fresh (Nat.le_refl _))⟩
  · have el : acc.toList.length = acc.size := by simp
    refine vals_of_at (by rw [List.length_map, el, hacc.1, hl]) fun j x w h1 h2 => ?_
    obtain ⟨k, hky⟩ := hacc.2 j w (by rw [← Array.getElem?_toList]; exact h2)
    obtain ⟨y, g1, g2⟩ := kv_at rk hky
    rw [List.getElem?_map, g1] at h1
    cases h1
    exact g2
  · rw [Array.toArray_toList]; exact IsTup.new _ _
end
/-! ### == of dicts of plain values -/
def flat4 : V → Bool
  | .non => true
  | .bl _ => true
  | .int _ => true
  | .str _ => true
  | _ => false
def eq4 : V → V → Bool
  | .non, .non => true
  | .bl a, .bl b => a == b
  | .int a, .int b => a == b
  | .str a, .str b => a == b
  | .bl a, .int b => (if a then 1 else 0) == b
  | .int a, .bl b => a == (if b then 1 else 0)
  | _, _ => false
theorem eqAt4 {A : Around} {s : Shared} {x y : V} {u v : Value} (rx : RelV x u) (ry : RelV y v) (fx : flat4 x = true) (fy : flat4 y = true) : SeqAt.EqAt A s u v (eq4 x y) := by
  cases x <;> first | (exact absurd (show false = true from fx) Bool.false_ne_true) | skip
  all_goals cases y <;> first | (exact absurd (show false = true from fy) Bool.false_ne_true) | skip
  · cases (show u = Value.none from rx); cases (show v = Value.none from ry); exact .same _
  · cases (show u = Value.none from rx); cases (show v = Value.bool _ from ry); exact .none_bool _
  · cases (show u = Value.none from rx); obtain ⟨t, rfl⟩ := ry; exact .none_int _ _
  · cases (show u = Value.none from rx); obtain ⟨t, rfl⟩ := ry; exact .none_str _ _
  · cases (show u = Value.bool _ from rx); cases (show v = Value.none from ry); exact .bool_none _
  · cases (show u = Value.bool _ from rx); cases (show v = Value.bool _ from ry); exact .bool_bool _ _
  · cases (show u = Value.bool _ from rx); obtain ⟨t, rfl⟩ := ry; exact .bool_int _ _ _
  · cases (show u = Value.bool _ from rx); obtain ⟨t, rfl⟩ := ry; exact .bool_str _ _ _
  · obtain ⟨t, rfl⟩ := rx; cases (show v = Value.none from ry); exact .int_none _ _
  · obtain ⟨t, rfl⟩ := rx; cases (show v = Value.bool _ from ry); exact .int_bool _ _ _
  · obtain ⟨t, rfl⟩ := rx; obtain ⟨t2, rfl⟩ := ry; exact .int_int _ _ _ _
  · obtain ⟨t, rfl⟩ := rx; obtain ⟨t2, rfl⟩ := ry; exact .int_str _ _ _ _
  · obtain ⟨t, rfl⟩ := rx; cases (show v = Value.none from ry); exact .str_none _ _
  · obtain ⟨t, rfl⟩ := rx; cases (show v = Value.bool _ from ry); exact .str_bool _ _ _
  · obtain ⟨t, rfl⟩ := rx; obtain ⟨t2, rfl⟩ := ry; exact .str_int _ _ _ _
  · obtain ⟨t, rfl⟩ := rx; obtain ⟨t2, rfl⟩ := ry; exact .str_str _ _ _ _
def eqKB (ls : List (L2.Key × V)) : List (L2.Key × V) → Bool
  | [] => true
  | p :: r => match valV ls p.1 with
    | none => false
    | some y => eq4 p.2 y && eqKB ls r
theorem hits_any {A : Around} {s : Shared} {ls : List (L2.Key × V)} {vb : List (L2.Key × Value)} (rb : KV ls vb) (fl : ∀ p ∈ ls, flat4 p.2 = true) {ks : List (L2.Key × V)} {va : List (L2.Key × Value)} (ra : KV ks va) :
    (∀ p ∈ ks, flat4 p.2 = true) → PySem.W.KeqHits A s vb va (eqKB ls ks) := by
  unfold KV at ra
  induction ra with
  | nil => intro _; exact .nil
  | @cons p q ps qs h t ih =>
    intro hp
    obtain ⟨h1, h2⟩ := h
    obtain ⟨k, v⟩ := q
    have h1' : p.1 = k := h1
    have rr : RelO (valV ls p.1) (valueAt vb p.1) := rb.val p.1
    unfold eqKB
    cases hv : valV ls p.1 with
    | none =>
      rw [hv] at rr
      cases hb : valueAt vb p.1 with
      | none => rw [h1'] at hb; exact .miss hb
      | some y => rw [hb] at rr; exact rr.elim
    | some x =>
      rw [hv] at rr
      obtain ⟨y, hy, ry⟩ := rr.some_of
      rw [h1'] at hy
      have fx : flat4 x = true := by
        unfold valV at hv
        obtain ⟨q, hq, e⟩ := Option.map_eq_some_iff.mp hv
        rw [← e]; exact fl q (List.mem_of_find?_eq_some hq)
      exact .hit hy (eqAt4 h2 ry (hp p List.mem_cons_self) fx) (ih fun p' hm => hp p' (List.mem_cons_of_mem _ hm))
def rEqDK : R2 := fun x y H Q => ∃ a b ks ls, x = .ref a ∧ y = .ref b ∧ H a = some (.dK ks) ∧ H b = some (.dK ls) ∧ ks.length = ls.length ∧ (∀ p ∈ ks, flat4 p.2 = true) ∧ (∀ p ∈ ls, flat4 p.2 = true) ∧ Q (.bl (eqKB ls ks)) H
theorem op_eqDK {X : Cx} (hu : X.A.units < cLine) : OpR X (compareOp .Eq) rEqDK := by
  intro pins s σ H x y v u Q I rx ry h
  obtain ⟨a, b, ks, ls, rfl, rfl, ea, eb, hlen, fk, fl, q⟩ := h
  obtain rfl : v = Value.ref a := rx
  obtain rfl : u = Value.ref b := ry
  obtain ⟨_, ya, va, ra, da⟩ := (show ObjOk X.prog X.w H s.heap a (.dK ks) from I.hok a _ ea)
  obtain ⟨_, yb, vb, rb, db⟩ := (show ObjOk X.prog X.w H s.heap b (.dK ls) from I.hok b _ eb)
  have hl : va.length = vb.length := by rw [← ra.length, ← rb.length]; exact hlen
  refine PySem.W.keq_eq (knd := mixKind X.prog X.w) (r := eqKB ls ks) ya yb da db hu (fun _ => hits_any rb fl ra fk) ?_
  rw [hl, beq_self_eq_true, Bool.true_and]
  exact ⟨.bl _, H, I, rfl, q⟩
end Kb

namespace Kb
open PySem PySem.Spec PyProof.Rows L2 TL
/-! ### a text times a number, longer ones -/
def rMulL : R2 := fun x y H Q => ∃ (a : Str) (n : Int), x = .str a ∧ y = .int n ∧ n ≤ 1000000 ∧ 0 ≤ n ∧ a.length ≤ 1000000 ∧ a.length * n.toNat ≤ 16000000 ∧ ∀ z : Str, tl z = (List.replicate n.toNat (tl a)).flatten → Q (.str z) H
theorem op_mulL {X : Cx} : OpR X (binaryOp .Mult) rMulL := by
  intro pins s σ H x y v u Q I rx ry h
  obtain ⟨a, n, rfl, rfl, h1, h2, h3, h4, q⟩ := h
  obtain ⟨t, rfl⟩ := rx
  obtain ⟨t2, rfl⟩ := ry
  have hz : a.length * n.toNat ≤ 16000000 := h4
  have hline : sizeLine = 16777216 := sizeLine_eq
  refine PySem.P.mul_str (by rw [decide_eq_false (by omega), decide_eq_false (by omega)]; rfl) (fun _ _ h5 => ?_) (fun _ _ => ?_) ?_
  · have h6 : (1000000 : Int) ≤ (2 ^ 63 - 1) / n := Int.le_ediv_of_mul_le (by omega) (by omega)
    omega
  · unfold Builtin.Str.tooLong
    rw [hline]
    exact decide_eq_false (by omega)
  · by_cases hn : n < 1
    · rw [if_pos hn]
      have e : n = 0 := by omega
      subst e
      exact ⟨by decide, .str Str.empty, H, I.tok _, ⟨_, rfl⟩, q Str.empty rfl⟩
    · rw [if_neg hn]
      by_cases h5 : (n == 1 || a.length == 0) = true
      · rw [if_pos h5]
        refine ⟨.str a, H, I, ⟨_, rfl⟩, q a ?_⟩
        rw [Bool.or_eq_true, beq_iff_eq, beq_iff_eq] at h5
        rcases h5 with rfl | h5
        · simp
        · rw [len_tl] at h5
          rw [List.eq_nil_of_length_eq_zero h5]; simp
      · rw [if_neg h5]
        refine ⟨?_, .str ⟨(List.replicate n.toNat a.cps).foldl (· ++ ·) #[]⟩, H, I.tok _, ⟨_, rfl⟩, q _ ?_⟩
        · rw [hline, len_tl]
          show (((List.replicate n.toNat a.cps).foldl (· ++ ·) #[]).toList).length ≤ _
          rw [foldl_app]
          have : ((List.replicate n.toNat a.cps.toList).flatten).length = n.toNat * a.length := by
            rw [PyProof.Rows.lm_len_rep_flat]; rfl
          simp only [Array.toList_empty, List.nil_append]
          rw [this, Nat.mul_comm]
          omega
        · show (((List.replicate n.toNat a.cps).foldl (· ++ ·) #[]).toList) = _
          rw [foldl_app]
          rfl
theorem giv_mulL {a : Str} {n : Int} (h1 : n ≤ 1000000 := by decide) (h2 : 0 ≤ n := by decide) (h3 : a.length ≤ 1000000 := by decide +kernel) (h4 : a.length * n.toNat ≤ 16000000 := by decide +kernel) : Giv (tOp rMulL (tC (.str a)) (tC (.int n))) (.str (repS n.toNat a)) := fun σ H Q q =>
  ⟨a, n, rfl, rfl, h1, h2, h3, h4, fun z hz => (ext_tl (hz.trans rfl) : z = repS n.toNat a) ▸ q⟩
end Kb
namespace Kb
open PySem PySem.Spec PyProof.Rows L2 TL
/-! ### a walk over the keys of a dict that is held -/
section
variable {K : PySem.W.Frag} {d : Addr} {o : Obj} {kvs : List (L2.Key × V)} {g : TG} {tb : TS} {D : Ends} {σ : L2.St} {H : Hp}
theorem for_keys (Pv : Nat → L2.St → Hp → Prop) (h0 : Pv 0 σ H) (hG : ∀ i σ H, i ≤ kvs.length → Pv i σ H → H d = some (.frz o (.dK kvs)))
    (hs : ∀ i k v σ H, kvs[i]? = some (k, v) → Pv i σ H → g (kV k) σ H fun σ2 H2 => tb { D with nx := Pv (i + 1), ct := Pv (i + 1), bk := D.nx } σ2 H2) (hd : ∀ σ H, Pv kvs.length σ H → D.nx σ H) :
    ∃ W : Nat → Nat → L2.St → Hp → Prop, (∃ m, W 0 m σ H) ∧ ∀ i m σ H, W i m σ H →
      ((Itk d o kvs).stop i H ∧ D.nx σ H) ∨ ((Itk d o kvs).go i H ∧ ∃ N : L2.St → Hp → Prop, (∀ σ' H', N σ' H' → ∃ m', m' < m ∧ W (i + 1) m' σ' H') ∧ ∀ x H', (Itk d o kvs).yld i H x H' → g x σ H' fun σ2 H2 => tb { D with nx := N, ct := N, bk := D.nx } σ2 H2) := by
  refine for_it walk_keys Pv h0 hG (fun i x σ H H' hi p y => ?_) hd
  obtain ⟨rfl, k, v, h1, rfl⟩ := y
  exact hs i k v σ _ h1 p
end
end Kb

namespace Kb
open PySem PySem.Spec PyProof.Rows L2 TL
/-! ### joined tokens -/
def tokOk (t : List Nat) : Prop := t ≠ [] ∧ ∀ s ∈ t, tokB s = true
theorem toks_run : ∀ (t acc l : List Nat), (∀ s ∈ t, tokB s = true) → toks acc (t ++ l) = toks (acc ++ t) l
  | [], acc, l, _ => by rw [List.append_nil]; rfl
  | c :: t, acc, l, h => by
    rw [List.cons_append, toks, if_pos (h c (List.mem_cons_self ..)), toks_run t _ l fun s hs => h s (List.mem_cons_of_mem _ hs), List.append_assoc]; rfl
theorem toks_skip : ∀ (s l : List Nat), (∀ c ∈ s, tokB c = false) → toks [] (s ++ l) = toks [] l
  | [], l, _ => rfl
  | c :: s, l, h => by
    rw [List.cons_append, toks, if_neg (by rw [h c (List.mem_cons_self ..)]; exact Bool.false_ne_true), if_pos rfl, toks_skip s l fun x hx => h x (List.mem_cons_of_mem _ hx)]
theorem toks_sep {acc s l : List Nat} (ha : acc ≠ []) (hs : s ≠ []) (h : ∀ c ∈ s, tokB c = false) : toks acc (s ++ l) = acc :: toks [] l := by
  obtain ⟨c, r, rfl⟩ := List.exists_cons_of_ne_nil hs
  rw [List.cons_append, toks, if_neg (by rw [h c (List.mem_cons_self ..)]; exact Bool.false_ne_true), if_neg ha, toks_skip r l fun x hx => h x (List.mem_cons_of_mem _ hx)]
theorem toks_join {s : List Nat} (hs : s ≠ []) (h : ∀ c ∈ s, tokB c = false) : ∀ T : List (List Nat), (∀ t ∈ T, tokOk t) → toks [] (joinL s T) = T
  | [], _ => rfl
  | [t], hT => by
    obtain ⟨h1, h2⟩ := hT t (List.mem_singleton.mpr rfl)
    show toks [] t = _
    have := toks_run t [] [] h2
    rw [List.append_nil, List.nil_append] at this
    rw [this, toks, if_neg h1]
  | t :: u :: r, hT => by
    obtain ⟨h1, h2⟩ := hT t (List.mem_cons_self ..)
    show toks [] (t ++ (s ++ joinL s (u :: r))) = _
    rw [toks_run t [] _ h2, List.nil_append, toks_sep h1 hs h, toks_join hs h (u :: r) fun x hx => hT x (List.mem_cons_of_mem _ hx)]
theorem date_join {s : Str} {T : List Str} (hs : tl s ≠ []) (h : ∀ c ∈ tl s, tokB c = false) (hT : ∀ t ∈ T, tokOk (tl t)) : dateR (tl (Txt.join s T)) = dateF T := by
  unfold dateR
  rw [join_tl, toks_join hs h _ fun l hl => by obtain ⟨t, ht, rfl⟩ := List.mem_map.mp hl; exact hT t ht, ← ts_mk rfl]
/-! ### four tokens, each for its part -/
theorem partI_eq (f : Fnd) (l : List Nat) : partI f l = if (!hasP f 0 && fits 0 l) = true then some 0 else if (!hasP f 1 && fits 1 l) = true then some 1 else if (!hasP f 2 && fits 2 l) = true then some 2 else if (!hasP f 3 && fits 3 l) = true then some 3 else none := by
  unfold partI
  rw [show List.range 4 = [0, 1, 2, 3] by decide]
  simp only [List.find?_cons, List.find?_nil]
  cases (!hasP f 0 && fits 0 l) <;> cases (!hasP f 1 && fits 1 l) <;> cases (!hasP f 2 && fits 2 l) <;> cases (!hasP f 3 && fits 3 l) <;> rfl
structure KT (l : List Nat) : Prop where
  a : fits 0 l = true
  b : fits 1 l = false
  c : fits 2 l = false
  d : fits 3 l = false
structure KD (l : List Nat) : Prop where
  a : fits 0 l = false
  b : fits 1 l = true
  c : fits 2 l = false
structure KM (l : List Nat) : Prop where
  a : fits 0 l = false
  b : fits 1 l = false
  c : fits 2 l = true
  d : fits 3 l = false
structure KY (l : List Nat) : Prop where
  a : fits 0 l = false
  b : fits 1 l = false
  c : fits 2 l = false
  d : fits 3 l = true
theorem few_none {T : List Str} (h : T.length < 4) : dateF T = none := by
  have : ∀ (T : List Str) (f : Fnd), (T.foldl stepD f).length ≤ f.length + T.length := by
    intro T
    induction T with
    | nil => intro f; exact Nat.le_refl _
    | cons t T ih =>
      intro f
      have h1 := ih (stepD f t)
      have h2 := (stepD_len f t).2
      rw [List.foldl_cons, List.length_cons]
      omega
  have h1 := this T []
  unfold dateF
  rw [if_pos (by simp at h1; omega)]
section
variable {a b c d e x : Str}
theorem run4 (ha : KT (tl a)) (hb : KD (tl b)) (hc : KM (tl c)) (hd : KY (tl d)) : dateF [a, b, c, d] = tickI (tl a) (tl b) (tl c) (tl d) ∧ dateF [a, b, c, d, e] = tickI (tl a) (tl b) (tl c) (tl d) := by
  obtain ⟨a0, a1, a2, a3⟩ := ha
  obtain ⟨b0, b1, b2⟩ := hb
  obtain ⟨c0, c1, c2, c3⟩ := hc
  obtain ⟨d0, d1, d2, d3⟩ := hd
  constructor <;> (simp [dateF, stepD, partI_eq, hasP, getP, *])
theorem run5_0 (ha : KT (tl a)) (hb : KD (tl b)) (hc : KM (tl c)) (hd : KY (tl d)) (x0 : fits 0 (tl x) = false) (x1 : fits 1 (tl x) = false) (x2 : fits 2 (tl x) = false) (x3 : fits 3 (tl x) = false) :
    dateF [x, b, c, d] = none ∧ dateF [x, b, c, d, a] = tickI (tl a) (tl b) (tl c) (tl d) := by
  obtain ⟨a0, a1, a2, a3⟩ := ha
  obtain ⟨b0, b1, b2⟩ := hb
  obtain ⟨c0, c1, c2, c3⟩ := hc
  obtain ⟨d0, d1, d2, d3⟩ := hd
  constructor <;> (simp [dateF, stepD, partI_eq, hasP, getP, *])
theorem run5_1 (ha : KT (tl a)) (hb : KD (tl b)) (hc : KM (tl c)) (hd : KY (tl d)) (x0 : fits 0 (tl x) = false) (x1 : fits 1 (tl x) = false) (x2 : fits 2 (tl x) = false) (x3 : fits 3 (tl x) = false) :
    dateF [a, x, c, d] = none ∧ dateF [a, x, c, d, b] = tickI (tl a) (tl b) (tl c) (tl d) := by
  obtain ⟨a0, a1, a2, a3⟩ := ha
  obtain ⟨b0, b1, b2⟩ := hb
  obtain ⟨c0, c1, c2, c3⟩ := hc
  obtain ⟨d0, d1, d2, d3⟩ := hd
  constructor <;> (simp [dateF, stepD, partI_eq, hasP, getP, *])
theorem run5_2 (ha : KT (tl a)) (hb : KD (tl b)) (hc : KM (tl c)) (hd : KY (tl d)) (x0 : fits 0 (tl x) = false) (x1 : fits 1 (tl x) = false) (x2 : fits 2 (tl x) = false) (x3 : fits 3 (tl x) = false) :
    dateF [a, b, x, d] = none ∧ dateF [a, b, x, d, c] = tickI (tl a) (tl b) (tl c) (tl d) := by
  obtain ⟨a0, a1, a2, a3⟩ := ha
  obtain ⟨b0, b1, b2⟩ := hb
  obtain ⟨c0, c1, c2, c3⟩ := hc
  obtain ⟨d0, d1, d2, d3⟩ := hd
  constructor <;> (simp [dateF, stepD, partI_eq, hasP, getP, *])
theorem run5_3 (ha : KT (tl a)) (hb : KD (tl b)) (hc : KM (tl c)) (hd : KY (tl d)) (x0 : fits 0 (tl x) = false) (x2 : fits 2 (tl x) = false) (x3 : fits 3 (tl x) = false) :
    dateF [a, b, c, x] = none ∧ dateF [a, b, c, x, d] = tickI (tl a) (tl b) (tl c) (tl d) := by
  obtain ⟨a0, a1, a2, a3⟩ := ha
  obtain ⟨b0, b1, b2⟩ := hb
  obtain ⟨c0, c1, c2, c3⟩ := hc
  obtain ⟨d0, d1, d2, d3⟩ := hd
  constructor <;> (simp [dateF, stepD, partI_eq, hasP, getP, *])
end
end Kb
namespace Kb
open PySem PySem.Spec PyProof.Rows L2 TL
/-! ### drawn tokens -/
def num2B (n : Nat) : Bool := digB (numL n) && (decide ((numL n).length ≤ 2) && decide (NumText.digitsVal (numL n) = n))
theorem num2_ok : ∀ n, n < 100 → num2B n = true := by decide +kernel
theorem num2 {n : Nat} (h : n < 100) : digB (numL n) = true ∧ (numL n).length ≤ 2 ∧ valL (numL n) = n := by
  have := num2_ok n h
  unfold num2B at this
  simp only [Bool.and_eq_true, decide_eq_true_eq] at this
  exact ⟨this.1, this.2.1, by unfold valL; rw [this.2.2]⟩
theorem num_dig (n : Nat) : digB (numL n) = true := by
  rw [digB_iff]
  refine ⟨fun c hc => ?_, ?_⟩
  · obtain ⟨ch, hch, e⟩ := List.mem_map.mp (show c ∈ (Nat.toDigits 10 n).map Char.toNat from hc)
    have r := PyProof.Rows.digit_range (Nat.isDigit_of_mem_toDigits (by decide) (by decide) hch)
    rw [← e]
    exact r
  · intro e
    have h1 := tDigits_len_ge 10 n
    have h2 : ((Nat.toDigits 10 n).map Char.toNat).length = 0 := by
      have e : (Nat.toDigits 10 n).map Char.toNat = [] := e
      rw [e]; rfl
    rw [List.length_map] at h2
    omega
theorem num4 {n : Nat} (h : 1000 ≤ n) (h2 : n < 10000) : digB (numL n) = true ∧ (numL n).length = 4 ∧ valL (numL n) = n := by
  refine ⟨num_dig n, ?_, ?_⟩
  · have a := digits10_le (k := 4) (by decide) (show n < 10 ^ 4 by omega)
    have b := digits10_ge (k := 3) (show 10 ^ 3 ≤ n by omega)
    show ((Nat.toDigits 10 n).map Char.toNat).length = 4
    rw [List.length_map]
    omega
  · unfold valL
    have := PySem.W.KIN.val_back n
    show ((NumText.digitsVal ((Nat.toDigits 10 n).map Char.toNat) : Nat) : Int) = n
    rw [this]
theorem dig_no58 {l : List Nat} (h : digB l = true) : 58 ∉ l := fun m => by
  have := (digB_iff.mp h).1 58 m
  omega
theorem dig_nolet {l : List Nat} (h : digB l = true) : onlyB lettL l = false := by
  obtain ⟨h1, h2⟩ := digB_iff.mp h
  obtain ⟨c, r, rfl⟩ := List.exists_cons_of_ne_nil h2
  have hc := h1 c (List.mem_cons_self ..)
  have key : ∀ c, c < 58 → decide (c ∈ lettL) = false := by decide +kernel
  unfold onlyB
  rw [List.all_cons, key c (by omega), Bool.false_and, Bool.false_and]
theorem dig_tok {l : List Nat} (h : digB l = true) : tokOk l := by
  obtain ⟨h1, h2⟩ := digB_iff.mp h
  refine ⟨h2, fun s hs => ?_⟩
  unfold tokB
  rw [decide_eq_true (digs_iff.mpr (h1 s hs))]
  simp
theorem KD_of {l : List Nat} (h : digB l = true) (h2 : l.length ≤ 2) : KD l := by
  refine ⟨?_, ?_, ?_⟩
  · show fitT l = false
    unfold fitT
    rw [sp1_of_free (dig_no58 h)]
    simp
  · show fitD l = true
    unfold fitD
    rw [h, decide_eq_true h2]; rfl
  · show fitM l = false
    unfold fitM
    rw [dig_nolet h, Bool.false_and]
theorem KY_of {l : List Nat} (h : digB l = true) (h2 : l.length = 4) : KY l := by
  refine ⟨?_, ?_, ?_, ?_⟩
  · show fitT l = false
    unfold fitT
    rw [sp1_of_free (dig_no58 h)]
    simp
  · show fitD l = false
    unfold fitD
    rw [h, h2]; rfl
  · show fitM l = false
    unfold fitM
    rw [dig_nolet h, Bool.false_and]
  · show fitY l = true
    unfold fitY
    rw [h, h2]; rfl
def timeL (p q r : List Nat) : List Nat := joinL [58] [p, q, r]
theorem time_sp {p q r : List Nat} (hp : digB p = true) (hq : digB q = true) (hr : digB r = true) : sp1 58 (timeL p q r) = [p, q, r] :=
  sp1_joinL (by simp) fun l hl => by
    simp only [List.mem_cons, List.not_mem_nil, or_false] at hl
    rcases hl with rfl | rfl | rfl
    · exact dig_no58 hp
    · exact dig_no58 hq
    · exact dig_no58 hr
theorem time_mem (p q r : List Nat) : 58 ∈ timeL p q r := by
  show 58 ∈ p ++ ([58] ++ joinL [58] [q, r])
  simp
theorem KT_of {p q r : List Nat} (hp : digB p = true) (hq : digB q = true) (hr : digB r = true) (lp : p.length ≤ 2) (lq : q.length ≤ 2) (lr : r.length ≤ 2) : KT (timeL p q r) ∧ tokOk (timeL p q r) := by
  have nd : digB (timeL p q r) = false := by
    rw [Bool.eq_false_iff]
    exact fun h => dig_no58 h (time_mem p q r)
  refine ⟨⟨?_, ?_, ?_, ?_⟩, ⟨fun e => (by have := time_mem p q r; rw [e] at this; cases this), fun s hs => ?_⟩⟩
  · show fitT _ = true
    unfold fitT
    rw [time_sp hp hq hr]
    simp [hp, hq, hr, lp, lq, lr]
  · show fitD _ = false
    unfold fitD
    rw [nd, Bool.false_and]
  · show fitM _ = false
    unfold fitM onlyB
    have : (timeL p q r).all (fun c => decide (c ∈ lettL)) = false := by
      rw [List.all_eq_false]
      exact ⟨58, time_mem p q r, by decide +kernel⟩
    rw [this, Bool.false_and, Bool.false_and]
  · show fitY _ = false
    unfold fitY
    rw [nd, Bool.false_and]
  · have hs : s ∈ p ++ ([58] ++ (q ++ ([58] ++ r))) := hs
    simp only [List.mem_append, List.mem_singleton] at hs
    rcases hs with h | rfl | h | rfl | h
    · exact (dig_tok hp).2 s h
    · decide
    · exact (dig_tok hq).2 s h
    · decide
    · exact (dig_tok hr).2 s h
theorem tick_of {p q r d m y : List Nat} (hp : digB p = true) (hq : digB q = true) (hr : digB r = true) : tickI (timeL p q r) d m y =
    if 23 < valL p ∨ 59 < valL q ∨ 59 < valL r ∨ yearI y < 1601 then none else if ¬ (1 ≤ valL d ∧ valL d ≤ domI (yearI y) (monI m)) then none else if yearI y < 1970 then some 0 else
      some ((dbfI (yearI y) + dbmI (yearI y) (monI m) + valL d - 1) * 86400 + valL p * 3600 + valL q * 60 + valL r) := by
  unfold tickI
  rw [time_sp hp hq hr]
  rfl
def mon15 : List Str := ["jan", "Feb", "MAR", "april", "May", "jun", "JULY", "aug", "Sep", "oct", "Nov", "decem"]
def monB (i : Nat) (c : Str) : Bool := !fits 0 (tl c) && (!fits 1 (tl c) && (fits 2 (tl c) && (!fits 3 (tl c) && (decide (monI (tl c) = i + 1) && ((tl c).all tokB && (decide (tl c ≠ []) && ((tl c).all (· < 128) && decide (c.length ≤ 10))))))))
theorem mon15_ok : ∀ i, i < 12 → monB i (mon15.getD i "") = true := by decide +kernel
theorem mon15_at {c : Str} (h : c ∈ mon15) : ∃ i, i < 12 ∧ c = mon15.getD i "" ∧ KM (tl c) ∧ monI (tl c) = i + 1 ∧ tokOk (tl c) ∧ ascii c ∧ c.length ≤ 10 := by
  obtain ⟨i, hi⟩ := List.mem_iff_getElem?.mp h
  have hi2 : i < 12 := (List.getElem?_eq_some_iff.mp hi).1
  have e : mon15.getD i "" = c := by rw [List.getD_eq_getElem?_getD, hi]; rfl
  have := mon15_ok i hi2
  rw [e] at this
  unfold monB at this
  simp only [Bool.and_eq_true, Bool.not_eq_true', decide_eq_true_eq] at this
  obtain ⟨h0, h1, h2, h3, h4, h5, h6, h7, h8⟩ := this
  exact ⟨i, hi2, e.symm, ⟨h0, h1, h2, h3⟩, h4, ⟨h6, fun s hs => List.all_eq_true.mp h5 s hs⟩, ascii_lit h7, h8⟩
/-- drawn right tokens -/
structure G15 (a b c d : Str) (hh mm ss dd yy : Nat) : Prop where
  ea : tl a = timeL (numL hh) (numL mm) (48 :: numL ss)
  h1 : hh < 24
  h2 : mm < 60
  h3 : ss < 10
  eb : tl b = numL dd
  h4 : 1 ≤ dd ∧ dd ≤ 28
  ec : c ∈ mon15
  ed : tl d = numL yy
  h5 : 1601 ≤ yy ∧ yy ≤ 9999
theorem sec_ok : ∀ n, n < 10 → digB (48 :: numL n) = true ∧ (48 :: numL n).length ≤ 2 ∧ valL (48 :: numL n) = n := by
  have : ∀ n, n < 10 → (digB (48 :: numL n) && (decide ((48 :: numL n).length ≤ 2) && decide (NumText.digitsVal (48 :: numL n) = n))) = true := by decide +kernel
  intro n hn
  have := this n hn
  simp only [Bool.and_eq_true, decide_eq_true_eq] at this
  exact ⟨this.1, this.2.1, by unfold valL; rw [this.2.2]⟩
theorem dom_ge (y : Int) {m : Nat} (h1 : 1 ≤ m) (h2 : m ≤ 12) : 28 ≤ domI y m := by
  have key : ∀ i, i < 12 → (28 : Int) ≤ monD.getD i 0 := by decide
  unfold domI
  split
  · omega
  · exact key (m - 1) (by omega)
theorem year4 {l : List Nat} (h : l.length = 4) : yearI l = valL l := by unfold yearI; rw [if_pos (by omega)]
theorem G15.facts {a b c d : Str} {hh mm ss dd yy : Nat} (g : G15 a b c d hh mm ss dd yy) : KT (tl a) ∧ KD (tl b) ∧ KM (tl c) ∧ KY (tl d) ∧ (tokOk (tl a) ∧ tokOk (tl b) ∧ tokOk (tl c) ∧ tokOk (tl d)) ∧ yearI (tl d) = yy ∧ ∃ n, tickI (tl a) (tl b) (tl c) (tl d) = some n := by
  obtain ⟨a1, a2, a3⟩ := num2 (n := hh) (by have := g.h1; omega)
  obtain ⟨b1, b2, b3⟩ := num2 (n := mm) (by have := g.h2; omega)
  obtain ⟨c1, c2, c3⟩ := sec_ok ss g.h3
  obtain ⟨d1, d2, d3⟩ := num2 (n := dd) (by have := g.h4; omega)
  obtain ⟨e1, e2, e3⟩ := num4 (n := yy) (by have := g.h5; omega) (by have := g.h5; omega)
  obtain ⟨i, hi, _, km, em, tm, _⟩ := mon15_at g.ec
  obtain ⟨kt, tt⟩ := KT_of a1 b1 c1 a2 b2 c2
  have yv : yearI (tl d) = yy := by rw [g.ed, year4 e2, e3]
  refine ⟨by rw [g.ea]; exact kt, by rw [g.eb]; exact KD_of d1 d2, km, by rw [g.ed]; exact KY_of e1 e2, ⟨by rw [g.ea]; exact tt, by rw [g.eb]; exact dig_tok d1, tm, by rw [g.ed]; exact dig_tok e1⟩, yv, ?_⟩
  rw [g.ea, tick_of a1 b1 c1, yv, g.eb, d3, a3, b3, c3]
  have h1 := g.h1
  have h2 := g.h2
  have h3 := g.h3
  have h4 := g.h4
  have h5 := g.h5
  have hd := dom_ge (yy : Int) (m := monI (tl c)) (by omega) (by omega)
  rw [if_neg (by omega), if_neg (by omega)]
  split
  · exact ⟨_, rfl⟩
  · exact ⟨_, rfl⟩
end Kb
namespace Kb
open PySem PySem.Spec PyProof.Rows L2 TL
/-- a tuple as the target of a comprehension: the kit's frame is named -/
theorem pg_tupB {X : Cx} {pos : Pos} {es : List Expr} {k : Nat} {t : TGs} {n : Nat} (K' : PySem.W.Frag) (hK : X.K = K') (hc : X.calm = true) (h : PGs X es t)
    (hn : (assignEach es X.env).length = n := by rfl) (hst : (assignEach es X.env).findIdx? (·.1) = none := by rfl) : PG X (.Tuple es k pos) (gTup K' n t) := by
  subst hK
  exact pg_tup hc h hn hst
end Kb
namespace Kb
open PySem PySem.Spec PyProof.Rows L2 TL
section
variable {K : PySem.W.Frag} {a : Addr} {xs : List V}
/-- a comprehension over enumerate(list) -/
theorem lc_enum {g : TG} {tt : TT} {te : TE} {vs : List Nat} {σ : L2.St} {H1 : Hp} {D : Addr} {Qd : Hp → Prop} (Pv : Nat → Hp → Prop) (h0 : Pv 0 (upd H1 D (.lst []))) (hG : ∀ i H, i ≤ xs.length → Pv i H → SqL K H a xs)
    (hs : ∀ i x T H, xs[i]? = some x → Pv i H → H T = none → g (.ref T) (wipe σ vs) (upd H T (.tup [.int (i : Nat), x])) fun σ2 H2 => wipe σ2 vs = wipe σ vs ∧ tt σ2 H2 fun b H3 =>
      if b = true then te σ2 H3 fun y H4 => ∃ acc, H4 D = some (.lst acc) ∧ acc.length < sizeLine ∧ Pv (i + 1) (upd H4 D (.lst (acc ++ [y]))) else Pv (i + 1) H3) (hd : ∀ H, Pv xs.length H → Qd H) :
    ∃ W : Nat → Nat → Hp → Prop, (∃ m, W 0 m (upd H1 D (.lst []))) ∧ ∀ i m H, W i m H →
      ((Ite K a).stop i H ∧ Qd H) ∨ ((Ite K a).go i H ∧ ∃ Nx : Hp → Prop, (∀ H', Nx H' → ∃ m', m' < m ∧ W (i + 1) m' H') ∧ ∀ x H', (Ite K a).yld i H x H' → g x (wipe σ vs) H' fun σ2 H2 => wipe σ2 vs = wipe σ vs ∧ tt σ2 H2 fun b H3 =>
        if b = true then te σ2 H3 fun y H4 => ∃ acc, H4 D = some (.lst acc) ∧ acc.length < sizeLine ∧ Nx (upd H4 D (.lst (acc ++ [y]))) else Nx H3) := by
  refine lc_it walk_enum Pv h0 hG (fun i x H H' hi p y => ?_) hd
  obtain ⟨T, x, y, rfl, hT, rfl, h1, h2⟩ := y
  cases h1
  exact hs i y T H h2 p hT
end
end Kb
namespace Kb
open PySem PySem.Spec PyProof.Rows L2 TL
/-! ### tokens out of their range -/
def low3 (c : Str) : Str := cutS (Txt.lower c) none (some 3)
def mon30 : List Str := ["apr", "jun", "sep", "nov"]
def lowB (i : Nat) : Bool := (decide (low3 (mon15.getD i "") ∈ mon30) == decide (i ∈ [3, 5, 8, 10])) && ((decide (low3 (mon15.getD i "") = ("feb" : Str)) == decide (i = 1)) && decide ((mon15.getD i "").length ≤ 100))
theorem low_ok : ∀ i, i < 12 → lowB i = true := by decide +kernel
theorem most_dom (y : Int) : ∀ i, i < 12 → (if i = 1 then 28 + (if leapB y = true then 1 else 0) else if i ∈ [3, 5, 8, 10] then 30 else 31 : Int) = domI y (i + 1) := by
  intro i hi
  by_cases h1 : i = 1
  · subst h1
    unfold domI
    cases leapB y <;> decide
  · have key : ∀ i, i < 12 → i ≠ 1 → (if i ∈ [3, 5, 8, 10] then 30 else 31 : Int) = monD.getD i 0 := by decide
    rw [if_neg h1, key i hi h1]
    unfold domI
    rw [if_neg (by omega)]; rfl
theorem most_ok {c : Str} (h : c ∈ mon15) : (Txt.lower c).length ≤ 1000 ∧ ∃ q f : Bool, decide (low3 c ∈ mon30) = q ∧ decide (V.str (low3 c) = V.str "feb") = f ∧ ∀ y, (if f = true then 28 + (if leapB y = true then 1 else 0) else if q = true then 30 else 31 : Int) = domI y (monI (tl c)) := by
  obtain ⟨i, hi, e, _, em, _, ac, lc⟩ := mon15_at h
  have := low_ok i hi
  unfold lowB at this
  rw [← e] at this
  simp only [Bool.and_eq_true, beq_iff_eq, decide_eq_true_eq] at this
  obtain ⟨h1, h2, _⟩ := this
  refine ⟨by rw [len_tl, lower_tl ac, List.length_map, ← len_tl]; omega, _, decide (i = 1), h1, ?_, fun y => ?_⟩
  · rw [← h2, Bool.eq_iff_iff, decide_eq_true_eq, decide_eq_true_eq, V.str.injEq]
  · rw [em, ← most_dom y i hi]
    simp only [decide_eq_true_eq]
def Bey (a b c e : Str) (i : Nat) (x : Str) : Prop := tokOk (tl x) ∧ x.length ≤ 10 ∧ ascii x ∧
  ((i = 0 ∧ KT (tl x) ∧ tickI (tl x) (tl b) (tl c) (tl e) = none) ∨ (i = 1 ∧ KD (tl x) ∧ tickI (tl a) (tl x) (tl c) (tl e) = none) ∨ (i = 3 ∧ KY (tl x) ∧ tickI (tl a) (tl b) (tl c) (tl x) = none))
theorem low3_len (c : Str) : (low3 c).length ≤ 3 := by
  have := cut_len (x := Txt.lower c) (lo := none) (hi := some 3)
  rw [len_tl]
  unfold low3
  rw [cutS_to _ (by decide)]
  show ((tl (Txt.lower c)).take 3).length ≤ 3
  rw [List.length_take]; omega
theorem dig_ascii {l : List Nat} (h : digB l = true) : ∀ s ∈ l, s < 128 := fun s hs => by have := (digB_iff.mp h).1 s hs; omega
theorem time_ascii {p q r : List Nat} (hp : digB p = true) (hq : digB q = true) (hr : digB r = true) : ∀ s ∈ timeL p q r, s < 128 := fun s hs => by
  have hs : s ∈ p ++ ([58] ++ (q ++ ([58] ++ r))) := hs
  simp only [List.mem_append, List.mem_singleton] at hs
  rcases hs with h | rfl | h | rfl | h
  · exact dig_ascii hp s h
  · decide
  · exact dig_ascii hq s h
  · decide
  · exact dig_ascii hr s h
theorem bey_time {a b c e x : Str} {p q r : List Nat} (hp : digB p = true) (hq : digB q = true) (hr : digB r = true) (lp : p.length ≤ 2) (lq : q.length ≤ 2) (lr : r.length ≤ 2) (bad : 23 < valL p ∨ 59 < valL q ∨ 59 < valL r) (et : tl x = timeL p q r) : Bey a b c e 0 x := by
  obtain ⟨kt, tt⟩ := KT_of hp hq hr lp lq lr
  refine ⟨by rw [et]; exact tt, ?_, fun s hs => time_ascii hp hq hr s (by rw [← et]; exact hs), .inl ⟨rfl, by rw [et]; exact kt, ?_⟩⟩
  · rw [len_tl, et]
    show (p ++ ([58] ++ (q ++ ([58] ++ r)))).length ≤ 10
    simp only [List.length_append, List.length_singleton]
    omega
  · rw [et, tick_of hp hq hr, if_pos (by omega)]
theorem bey_day {a b c e x : Str} {hh mm ss dd yy : Nat} (g : G15 a b c e hh mm ss dd yy) (hx : digB (tl x) = true) (lx : (tl x).length ≤ 2) (bad : valL (tl x) < 1 ∨ domI (yy : Int) (monI (tl c)) < valL (tl x)) : Bey a b c e 1 x := by
  obtain ⟨a1, _⟩ := num2 (n := hh) (by have := g.h1; omega)
  obtain ⟨b1, _⟩ := num2 (n := mm) (by have := g.h2; omega)
  obtain ⟨c1, _⟩ := sec_ok ss g.h3
  obtain ⟨_, _, _, _, _, yv, _⟩ := g.facts
  refine ⟨dig_tok hx, by rw [len_tl]; omega, fun s hs => dig_ascii hx s hs, .inr (.inl ⟨rfl, KD_of hx lx, ?_⟩)⟩
  rw [g.ea, tick_of a1 b1 c1, yv]
  split
  · rfl
  · rw [if_pos (by omega)]
theorem bey_year {a b c e x : Str} {hh mm ss dd yy : Nat} (g : G15 a b c e hh mm ss dd yy) (hx : digB (tl x) = true) (lx : (tl x).length = 4) (bad : valL (tl x) < 1601) : Bey a b c e 3 x := by
  obtain ⟨a1, _⟩ := num2 (n := hh) (by have := g.h1; omega)
  obtain ⟨b1, _⟩ := num2 (n := mm) (by have := g.h2; omega)
  obtain ⟨c1, _⟩ := sec_ok ss g.h3
  refine ⟨dig_tok hx, by rw [len_tl]; omega, fun s hs => dig_ascii hx s hs, .inr (.inr ⟨rfl, KY_of hx lx, ?_⟩)⟩
  rw [g.ea, tick_of a1 b1 c1, year4 lx, if_pos (by omega)]
end Kb
namespace Kb
open PySem PySem.Spec PyProof.Rows L2 TL
theorem dom_le (y : Int) {m : Nat} (h1 : 1 ≤ m) (h2 : m ≤ 12) : domI y m ≤ 31 := by
  have key : ∀ i, i < 12 → monD.getD i 0 ≤ (31 : Int) := by decide
  unfold domI
  split
  · omega
  · exact key (m - 1) (by omega)
theorem nlog (m : Nat) (h : m < 20000) : ((m : Nat) : Int).natAbs.log2 < 1920 := by
  have : ((m : Nat) : Int).natAbs < 2 ^ 15 := by rw [Int.natAbs_natCast]; omega
  exact Nat.lt_of_lt_of_le (PySem.Flt.log2_lt_of (by decide) this) (by decide)
end Kb
namespace Kb
open PySem PySem.Spec PyProof.Rows L2 TL
/-! ### tokens of another form -/
def othL : List (List Str) := [["8:49", "1:2:3:4", "108:49:37", "8::37", ":1:1", "8:49:", "8:049:7", "8:49:37a", "8:49:37:", ":8:49:37", "a8:49:37", "8:4:9pm"], ["6th", "x6", "123", "1a", "006", "1st"],
  ["no", "nv", "nov1", "jannn0", "j", "xyz", "ma", "1ov", "sunday"], ["199", "19945", "1", "1994a", "x1994", "199400"]]
def othB (i : Nat) (x : Str) : Bool := (tl x).all tokB && (decide (tl x ≠ []) && (decide (x.length ≤ 10) && ((tl x).all (· < 128) && (!fits 0 (tl x) && (!fits 2 (tl x) && (!fits 3 (tl x) && (decide (i = 3) || !fits 1 (tl x))))))))
theorem oth_ok : ∀ i, i < 4 → ∀ x ∈ othL.getD i [], othB i x = true := by decide +kernel
structure Oth (i : Nat) (x : Str) : Prop where
  tok : tokOk (tl x)
  len : x.length ≤ 10
  asc : ascii x
  x0 : fits 0 (tl x) = false
  x2 : fits 2 (tl x) = false
  x3 : fits 3 (tl x) = false
  x1 : i = 3 ∨ fits 1 (tl x) = false
theorem oth_of {i : Nat} (hi : i < 4) {x : Str} (hx : x ∈ othL.getD i []) : Oth i x := by
  have := oth_ok i hi x hx
  unfold othB at this
  simp only [Bool.and_eq_true, Bool.or_eq_true, Bool.not_eq_true', decide_eq_true_eq] at this
  obtain ⟨h1, h2, h3, h4, h5, h6, h7, h8⟩ := this
  exact ⟨⟨h2, fun s hs => List.all_eq_true.mp h1 s hs⟩, h3, ascii_lit h4, h5, h6, h7, h8⟩
end Kb
namespace Kb
open PySem PySem.Spec PyProof.Rows L2 TL
/-- a token of a short joined text -/
structure Tk (t : Str) : Prop where
  tok : tokOk (tl t)
  asc : ascii t
  len : t.length ≤ 40
theorem Bey.tk {a b c e x : Str} {i : Nat} (h : Bey a b c e i x) : Tk x := ⟨h.1, h.2.2.1, by have := h.2.1; omega⟩
theorem Oth.tk {i : Nat} {x : Str} (h : Oth i x) : Tk x := ⟨h.tok, h.asc, by have := h.len; omega⟩
theorem G15.tks {a b c d : Str} {hh mm ss dd yy : Nat} (g : G15 a b c d hh mm ss dd yy) : ∀ t ∈ [a, b, c, d], Tk t ∧ t.length ≤ 10 := by
  obtain ⟨a1, a2, _⟩ := num2 (n := hh) (by have := g.h1; omega)
  obtain ⟨b1, b2, _⟩ := num2 (n := mm) (by have := g.h2; omega)
  obtain ⟨c1, c2, _⟩ := sec_ok ss g.h3
  obtain ⟨d1, d2, _⟩ := num2 (n := dd) (by have := g.h4; omega)
  obtain ⟨e1, e2, _⟩ := num4 (n := yy) (by have := g.h5; omega) (by have := g.h5; omega)
  obtain ⟨i, hi, _, km, em, tm, ac, lc⟩ := mon15_at g.ec
  obtain ⟨kt, tt⟩ := KT_of a1 b1 c1 a2 b2 c2
  intro t ht
  simp only [List.mem_cons, List.not_mem_nil, or_false] at ht
  rcases ht with rfl | rfl | rfl | rfl
  · have l : t.length ≤ 8 := by
      rw [len_tl, g.ea]
      show (numL hh ++ ([58] ++ (numL mm ++ ([58] ++ (48 :: numL ss))))).length ≤ 8
      simp only [List.length_append, List.length_singleton, List.length_cons, List.length_nil] at c2 ⊢
      omega
    exact ⟨⟨by rw [g.ea]; exact tt, fun s hs => time_ascii a1 b1 c1 s (by rw [← g.ea]; exact hs), by omega⟩, by omega⟩
  · have l : t.length ≤ 2 := by rw [len_tl, g.eb]; exact d2
    exact ⟨⟨by rw [g.eb]; exact dig_tok d1, fun s hs => dig_ascii d1 s (by rw [← g.eb]; exact hs), by omega⟩, by omega⟩
  · exact ⟨⟨tm, ac, by omega⟩, lc⟩
  · have l : t.length = 4 := by rw [len_tl, g.ed]; exact e2
    exact ⟨⟨by rw [g.ed]; exact dig_tok e1, fun s hs => dig_ascii e1 s (by rw [← g.ed]; exact hs), by omega⟩, by omega⟩
def sig15 : List Str := [" ", "-", ", ", "/"]
def sigB (s : Str) : Bool := decide (tl s ≠ []) && ((tl s).all (fun c => !tokB c && decide (c < 128)) && decide (s.length ≤ 2))
structure Sg (s : Str) : Prop where
  ne : tl s ≠ []
  no : ∀ c ∈ tl s, tokB c = false
  asc : ascii s
  len : s.length ≤ 2
theorem sg_of : ∀ {s : Str}, s ∈ sig15 → Sg s := by
  have key : ∀ s ∈ sig15, sigB s = true := by decide +kernel
  intro s hs
  have := key s hs
  unfold sigB at this
  simp only [Bool.and_eq_true, decide_eq_true_eq, List.all_eq_true, Bool.not_eq_true'] at this
  exact ⟨this.1, fun c hc => (this.2.1 c hc).1, fun c hc => (this.2.1 c hc).2, this.2.2⟩
theorem join_ascii {s : Str} {T : List Str} (hs : ascii s) (hT : ∀ t ∈ T, ascii t) : ascii (Txt.join s T) := by
  have : ∀ T : List Str, (∀ t ∈ T, ascii t) → ∀ c ∈ joinL (tl s) (T.map tl), c < 128 := by
    intro T
    induction T with
    | nil => intro _ c hc; cases hc
    | cons t r ih =>
      intro h c hc
      cases r with
      | nil => exact h t (List.mem_cons_self ..) c hc
      | cons u r =>
        have hc : c ∈ tl t ++ (tl s ++ joinL (tl s) ((u :: r).map tl)) := hc
        rcases List.mem_append.mp hc with q | q
        · exact h t (List.mem_cons_self ..) c q
        · rcases List.mem_append.mp q with q | q
          · exact hs c q
          · exact ih (fun x hx => h x (List.mem_cons_of_mem _ hx)) c q
  intro c hc
  rw [join_tl] at hc
  exact this T hT c hc
/-- what is joined is short -/
theorem join_len {s : Str} {T : List Str} (hs : s.length ≤ 2) (hT : ∀ t ∈ T, t.length ≤ 40) (n : T.length ≤ 20) : (T.map (·.length)).sum + T.length * s.length ≤ 1000 ∧ (Txt.join s T).length ≤ 1000 := by
  have h1 : (T.map (·.length)).sum ≤ T.length * 40 := PySem.StrLaws.sumLen_le (B := 40) T hT
  have h2 : T.length * s.length ≤ T.length * 2 := Nat.mul_le_mul_left _ hs
  have h3 : ∀ T : List Str, (joinL (tl s) (T.map tl)).length ≤ (T.map (·.length)).sum + T.length * s.length := by
    intro T
    induction T with
    | nil => exact Nat.zero_le _
    | cons t r ih =>
      cases r with
      | nil =>
        show (tl t).length ≤ (t.length + 0) + 1 * s.length
        rw [← len_tl]; omega
      | cons u r =>
        show (tl t ++ (tl s ++ joinL (tl s) ((u :: r).map tl))).length ≤ _
        rw [List.length_append, List.length_append, ← len_tl, ← len_tl, List.map_cons (l := u :: r), List.sum_cons, List.length_cons, Nat.succ_mul]
        omega
  have h4 := h3 T
  have h5 : (Txt.join s T).length = (joinL (tl s) (T.map tl)).length := by rw [len_tl, join_tl]
  omega
end Kb
namespace Kb
open PySem PySem.Spec PyProof.Rows L2 TL
def some15 : List Str := ["", " ", "GMT", "1", "31 feb 2000 1:1:1", "29 feb 1900 1:1:1", "29 feb 2100 1:1:1", "30 feb 2024 0:0:0", "6 nov 94 8:49:37:", "6th nov 1994 8:49:37"]
theorem some15_ok : ∀ s ∈ some15, s.length ≤ 100 ∧ (tl s).all (· < 128) = true ∧ dateR (tl s) = none := by decide +kernel
theorem leap15 : dateR (tl ("29 feb 2000 0:0:0" : Str)) = some 951782400 := by decide +kernel
end Kb

namespace Kb
open PySem PySem.Spec PyProof.Rows L2 TL
/-! ### the law's loops: over its draws, over turns -/
section
variable {K : PySem.W.Frag} {g : TG} {tb : TS} {D : Ends} {σ : L2.St} {H : Hp}
/-- for draw in draws: each one is there when its turn comes -/
theorem for_draws {p : Addr} {ds : List Addr} (S : L2.St → Prop) (I : Hp → Prop) (hI : ∀ d ∈ ds, ∀ H H', Keep d H H' → I H → I H') (h0 : S σ) (i0 : I H) (m0 : H p = some (.lst (ds.map V.ref))) (nd : ds.Nodup) (dr : ∀ d ∈ ds, DrawAt H d 200000000)
    (hs : ∀ d σ H2 (N : L2.St → Hp → Prop), d ∈ ds → S σ → I H2 → DrawAt H2 d 200000000 → (∀ σ' H', S σ' → Keep d H2 H' → N σ' H') → g (.ref d) σ H2 fun σ2 H3 => tb { D with nx := N, ct := N, bk := D.nx } σ2 H3)
    (hd : ∀ σ H', S σ → I H' → D.nx σ H') :
    ∃ W : Nat → Nat → L2.St → Hp → Prop, (∃ m, W 0 m σ H) ∧ ∀ i m σ H, W i m σ H →
      ((Itl K p).stop i H ∧ D.nx σ H) ∨ ((Itl K p).go i H ∧ ∃ N : L2.St → Hp → Prop, (∀ σ' H', N σ' H' → ∃ m', m' < m ∧ W (i + 1) m' σ' H') ∧ ∀ x H', (Itl K p).yld i H x H' → g x σ H' fun σ2 H2 => tb { D with nx := N, ct := N, bk := D.nx } σ2 H2) := by
  refine for_list (K := K) (a := p) (xs := ds.map V.ref) (fun i σ H2 => S σ ∧ I H2 ∧ H2 p = some (.lst (ds.map V.ref)) ∧ ∀ j d, i ≤ j → ds[j]? = some d → DrawAt H2 d 200000000) ⟨h0, i0, m0, fun j d _ hj => dr d (List.mem_of_getElem? hj)⟩ (fun i σ H2 _ ⟨_, _, q, _⟩ => SqL.of q) ?_ (fun σ H' ⟨s, i, _⟩ => hd σ H' s i)
  rintro i v σ H2 hi ⟨hS, iH, m2, dr2⟩
  obtain ⟨d, hd, rfl⟩ : ∃ d, ds[i]? = some d ∧ v = .ref d := by
    rw [List.getElem?_map] at hi
    cases hx : ds[i]? with
    | none => rw [hx] at hi; cases hi
    | some d => rw [hx] at hi; cases hi; exact ⟨d, rfl, rfl⟩
  have dm := List.mem_of_getElem? hd
  have D2 := dr2 i d (Nat.le_refl _) hd
  have pd : p ≠ d := fun z => by
    obtain ⟨l, c, t, hm, _⟩ := D2
    rw [← z, m2] at hm; cases hm
  refine hs d σ H2 _ dm hS iH D2 fun σ' H' s' k => ⟨s', hI d dm _ _ k iH, k _ _ m2 pd, fun j e hj he => (dr2 j e (by omega) he).keep k fun z => ?_⟩
  subst z
  obtain ⟨l1, e1⟩ := (List.getElem?_eq_some_iff.mp hd)
  obtain ⟨l2, e2⟩ := (List.getElem?_eq_some_iff.mp he)
  have : i = j := (List.getElem_inj nd).mp (e1.trans e2.symm)
  omega
/-- for turn in range(n), B draws each -/
theorem for_turns {d : Addr} {n r B : Nat} (S : L2.St → Prop) (h0 : S σ) (D0 : DrawAt H d (r + B * n))
    (hs : ∀ (i : Nat) σ H2 (m : Nat) (N : L2.St → Hp → Prop), S σ → Keep d H H2 → DrawAt H2 d (m + B) → (∀ σ' H', S σ' → Keep d H2 H' → DrawAt H' d m → N σ' H') → g (.int (0 + (i : Nat))) σ H2 fun σ2 H3 => tb { D with nx := N, ct := N, bk := D.nx } σ2 H3)
    (hd : ∀ σ H', S σ → Keep d H H' → DrawAt H' d r → D.nx σ H') :
    ∃ W : Nat → Nat → L2.St → Hp → Prop, (∃ m, W 0 m σ H) ∧ ∀ i m σ H, W i m σ H →
      ((Itr 0 n).stop i H ∧ D.nx σ H) ∨ ((Itr 0 n).go i H ∧ ∃ N : L2.St → Hp → Prop, (∀ σ' H', N σ' H' → ∃ m', m' < m ∧ W (i + 1) m' σ' H') ∧ ∀ x H', (Itr 0 n).yld i H x H' → g x σ H' fun σ2 H2 => tb { D with nx := N, ct := N, bk := D.nx } σ2 H2) := by
  refine for_range (n := n) (fun i σ H2 => S σ ∧ Keep d H H2 ∧ DrawAt H2 d (r + B * (n - i))) ⟨h0, Keep.refl, D0⟩ ?_ ?_
  · rintro i σ H2 hi ⟨hS, k, D2⟩
    have e : r + B * (n - i) = (r + B * (n - (i + 1))) + B := by
      rw [show n - i = (n - (i + 1)) + 1 by omega, Nat.mul_succ]; omega
    rw [e] at D2
    exact hs i σ H2 _ _ hS k D2 fun σ' H' s' k' D' => ⟨s', k.trans k', D'⟩
  · rintro σ H' ⟨hS, k, D2⟩
    rw [Nat.sub_self, Nat.mul_zero] at D2
    exact hd σ H' hS k D2
end
end Kb

namespace Kb
open PySem PySem.Spec PyProof.Rows L2
/-! ### a def that is called by keywords alone -/
def kwg {α : Type} (ps ks : List Str) (ws : List α) : List α := ps.filterMap fun p => (ks.zip ws).lookup p
def DfW (K : PySem.W.Frag) (mg : Str → Option Value) (x : Str) (st : Stmt) (ps ks : List Str) : Prop :=
  ∃ (f : Addr) (fd : FuncData), Fun K x x st f fd ∧ mg x = some (.ref f) ∧ (∀ us : List Value, us.length = ps.length → bindArgs fd ⟨us, []⟩ = pure (ps.zip us)) ∧
    ∀ ws : List Value, ws.length = ks.length → bindArgs fd ⟨[], ks.zip ws⟩ = pure (ps.zip (kwg ps ks ws))
theorem DfW.mk {K : PySem.W.Frag} {mg : Str → Option Value} {h : Heap} {x : Str} {st : Stmt} {ps ks : List Str} {f : Addr} {oc : Value} {od an : Option Addr} {sl : Array (Option Value)} {kV doc pm cd ct : Value} (X : K.In h) (G : h.Ns PySem.mainGlobals mg)
    (b : ∀ (kV doc pm : Value) (an : Option Addr) (cdv ct : Value) (us : List Value), us.length = ps.length → bindArgs (PySem.W.fnOf x x (defArgs st) (defBody st) (defScope st) .none kV doc pm an cdv ct) ⟨us, []⟩ = pure (ps.zip us))
    (bw : ∀ (kV doc pm : Value) (an : Option Addr) (cdv ct : Value) (ws : List Value), ws.length = ks.length → bindArgs (PySem.W.fnOf x x (defArgs st) (defBody st) (defScope st) .none kV doc pm an cdv ct) ⟨[], ks.zip ws⟩ = pure (ps.zip (kwg ps ks ws)))
    (a : PySem.W.nsIn K PySem.mainGlobals x = some (some (.ref f)))
    (l : K.lookup f = some ⟨oc, od, .func (PySem.W.fnOf x x (defArgs st) (defBody st) (defScope st) .none kV doc pm an cd ct), sl⟩)
    (c : PySem.W.codeIn K cd x = true) (k : PySem.W.keepIn K (.ref f) = true) : DfW K mg x st ps ks :=
  ⟨f, _, fun_mk l c k, PySem.W.mg_of X G a, b kV doc pm an cd ct, bw kV doc pm an cd ct⟩
def CalW (P : Program) (w : World) (K : PySem.W.Frag) (mg : Str → Option Value) (base : Heap) (CX : CXT) (k : Nat) (x : Str) (ps ks : List Str) (sp : Sp) : Prop :=
  ∃ (f : Addr) (fd : FuncData), FnOk P w K mg base CX k f fd ps sp ∧ mg x = some (.ref f) ∧ PySem.W.keepIn K (.ref f) = true ∧ Binds K fd ps [] ∧
    ∀ ws : List Value, ws.length = ks.length → bindArgs fd ⟨[], ks.zip ws⟩ = pure (ps.zip (kwg ps ks ws))
section
variable {P : Program} {w : World} {K : PySem.W.Frag} {mg : Str → Option Value} {base : Heap}
theorem CalW.cal {CX : CXT} {k : Nat} {x : Str} {ps ks : List Str} {sp : Sp} (c : CalW P w K mg base CX k x ps ks sp) : Cal P w K mg base CX k x ps sp := by
  obtain ⟨f, fd, F, m, kp, b, _⟩ := c
  exact ⟨f, fd, F, m, kp, b⟩
theorem DfW.ok0 {x : Str} {st : Stmt} {N ps ks : List Str} {k : Nat} {sp : Sp} (D : DfW K mg x st ps ks) (S : FnScope N ps (defScope st)) (len : ∀ vs H Q E, sp vs H Q E → vs.length = ps.length)
    (hbody : ∀ (f : Addr) (cdv : Value) (A : Around) (outer : List Env) (s : Shared) (H : Hp) (vs : List V) (Q : VK) (E : XK), Room k (A.deeper (envOfC x (defScope st) s.heap.objs.size f cdv)) → sp vs H Q E →
      ∃ t, PSs (cxOf CX0 P w K mg base N x (defScope st) f cdv A outer s H E).nox (defBody st) t ∧ t { nx := fun _ H' => Q .non H', rt := Q } (start N vs) H) : CalW P w K mg base CX0 (k + 1) x ps ks sp := by
  obtain ⟨f, fd, F, m, b, bw⟩ := D
  exact ⟨f, fd, F.ok S len (hbody f), m, F.kp, .all b, bw⟩
end
theorem vals_lookup {p : Str} : ∀ {ks : List Str} {zs : List V} {ws : List Value}, Vals zs ws → ((ks.zip zs).lookup p = none ∧ (ks.zip ws).lookup p = none) ∨ ∃ z u, (ks.zip zs).lookup p = some z ∧ (ks.zip ws).lookup p = some u ∧ RelV z u
  | [], _, _, _ => .inl ⟨by rw [List.zip_nil_left]; rfl, by rw [List.zip_nil_left]; rfl⟩
  | k :: ks, _, _, .nil => .inl ⟨by rw [List.zip_nil_right]; rfl, by rw [List.zip_nil_right]; rfl⟩
  | k :: ks, _, _, .cons r t => by
    rw [List.zip_cons_cons, List.zip_cons_cons, List.lookup_cons, List.lookup_cons]
    cases p == k with
    | true => exact .inr ⟨_, _, rfl, rfl, r⟩
    | false => exact vals_lookup (ks := ks) t
theorem vals_kwg {ks : List Str} {zs : List V} {ws : List Value} (r : Vals zs ws) : ∀ ps : List Str, Vals (kwg ps ks zs) (kwg ps ks ws)
  | [] => .nil
  | p :: ps => by
    unfold kwg
    rw [List.filterMap_cons, List.filterMap_cons]
    rcases vals_lookup (p := p) (ks := ks) r with ⟨h1, h2⟩ | ⟨z, u, h1, h2, h3⟩
    · rw [h1, h2]; exact vals_kwg r ps
    · rw [h1, h2]; exact .cons h3 (vals_kwg r ps)
def tCallW (sp : Sp) (ps ks : List Str) (E : XK) (tk : TA) : TE := fun σ H Q => tk σ H fun zs H2 => zs.length = ks.length ∧ sp (kwg ps ks zs) H2 Q E
theorem pe_cw {X : Cx} {CX : CXT} {j k : Nat} {x : Str} {ps ks : List Str} {sp : Sp} {E : XK} {p pos : Pos} {kws : List Keyword} {tk : TA} (c : CalW X.prog X.w X.K X.mg X.base CX j x ps ks sp) (hr : Room k X.A) (hjk : j ≤ k) (hg : Gl X x) (hx : Passes CX X E)
    (hkw : PK X kws tk) (hall : (backToKw pos (keywordEach kws X.env)).all (·.1.isSome) = true := by rfl) (hks : (backToKw pos (keywordEach kws X.env)).filterMap (·.1) = ks := by rfl) (hdb : (x == ("__debug__" : Str)) = false := by decide)
    (hpl : ((backTo pos (starEach [] X.env)).any (·.1) || (backToKw pos (keywordEach kws X.env)).any (·.1.isNone)) = false := by rfl) :
    PE X (.Call (.Name x p) [] kws pos) (tCallW sp ps ks E tk) := by
  obtain ⟨f, fd, F, m, kp, b, bw⟩ := c
  refine ⟨fun pins s σ H Q I h => ?_⟩
  refine wpAny_Call_Name_kw (ld_glob I hg m ?_ hdb)
  refine PySem.W.callWith_KW0 (h₀ := X.base) I.ok.mod.kin kp hall ?_ hpl
  refine thn (hkw.run pos pins s σ H _ I h) fun ws s2 ⟨zs, H2, I2, rz, l1, q2⟩ => ⟨I2.kIn, ?_⟩
  rw [hks]
  have r2 := vals_kwg rz (ks := ks) ps
  have lw : ws.length = ks.length := by rw [← rz.length]; exact l1
  refine wpAny_call (codeAny_mono (F.run X.A X.stack s2 H2 ⟨[], ks.zip ws⟩ (kwg ps ks ws) (kwg ps ks zs) Q E (hr.mono hjk) I2.env0 (.of_eq (bw ws lw)) r2 q2) fun r s' hq => ?_)
  cases r with
  | error e => exact hx pins σ H2 s2 e s' I2 hq
  | ok fl =>
    cases fl with
    | ret u => exact I2.after hq
    | next => exact False.elim hq
    | brk => exact False.elim hq
    | cont => exact False.elim hq
end Kb

namespace Kb
open PySem PySem.Spec PyProof.Rows L2 LamX
/-! ### lambdas whose parameters all have defaults, handed to a def -/
/-- the defaults' object -/
def Dfl (H : Hp) (ds : List V) (dV : Value) : Prop := (ds = [] ∧ dV = .none) ∨ ∃ t : Addr, ds ≠ [] ∧ dV = .ref t ∧ H t = some (.tup ds)
abbrev lamO (q : Str) (params : Arguments) (body : Expr) (scope : Scope) (cl : List (Str × Addr)) (dV doc pm : Value) (c' : Addr) (ctv : Value) : Obj :=
  PySem.W.kdv_obj "<lambda>" q params (.expr body) scope cl dV doc pm c' ctv
/-- how it binds where nothing is handed in -/
def LamB (params : Arguments) (body : Expr) (scope : Scope) (ps : List Str) (ds : List V) : Prop :=
  (ds = [] ∧ ps = [] ∧ ∀ (q : Str) (cl : List (Str × Addr)) (doc pm cv ctv : Value), bindArgs (PySem.W.kdv_fn "<lambda>" q params (.expr body) scope cl .none doc pm cv ctv) ⟨[], []⟩ = pure []) ∨
  (ds.length = ps.length ∧ ds ≠ [] ∧ ∀ (q : Str) (cl : List (Str × Addr)) (t : Addr) (doc pm cv ctv : Value) (its : List Value), its.length = ds.length →
    ∃ k, bindArgs (PySem.W.kdv_fn "<lambda>" q params (.expr body) scope cl (.ref t) doc pm cv ctv) ⟨[], []⟩ = seqItems? (.ref t) >>= k ∧ k (some its.toArray) = pure (ps.zip its))
/-- its names: own parameters (none of them a name of the maker), captured ones, globals -/
structure LamP (N : List Str) (sc scope : Scope) (ps : List Str) : Prop where
  kind : scope.kind = .function
  co : scope.isCoroutine = false
  gen : scope.isGenerator = false
  own : ∀ y ∈ scope.names, y.2 ≠ .cell
  loc : ∀ y ∈ scope.names, y.2 = .local → y.1 ∉ N
  par : ∀ x ∈ ps, scope.names.lookup x = some .local
  free : ∀ y ∈ scope.names, y.2 = .free → sc.names.lookup y.1 = some .cell ∨ sc.names.lookup y.1 = some .free
def lamPB (N : List Str) (sc scope : Scope) (ps : List Str) : Bool :=
  decide (scope.kind = .function) && (!scope.isCoroutine && (!scope.isGenerator && ((scope.names.all fun y => !decide (y.2 = .cell)) && ((scope.names.all fun y => !decide (y.2 = .local) || !decide (y.1 ∈ N)) &&
    ((ps.all fun x => decide (scope.names.lookup x = some .local)) && (scope.names.all fun y => !decide (y.2 = .free) || (decide (sc.names.lookup y.1 = some .cell) || decide (sc.names.lookup y.1 = some .free))))))))
theorem lamP_by {N : List Str} {sc scope : Scope} {ps : List Str} (h : lamPB N sc scope ps = true) : LamP N sc scope ps := by
  unfold lamPB at h
  simp only [Bool.and_eq_true, Bool.or_eq_true, Bool.not_eq_true', decide_eq_true_eq, decide_eq_false_iff_not, List.all_eq_true] at h
  obtain ⟨g1, g2, g3, g4, g5, g6, g7⟩ := h
  refine ⟨g1, g2, g3, fun y hy => g4 y hy, fun y hy e => (g5 y hy).elim (fun z => absurd e z) id, g6, fun y hy e => ?_⟩
  rcases g7 y hy with z | z
  · exact absurd e z
  · exact z
theorem LamP.has {X : Cx} {N : List Str} {scope : Scope} {ps : List Str} (L : LamP N X.env.scope scope ps) (ok : X.Ok) : ∀ y ∈ scope.names, y.2 = .free → ∃ c, X.env.cells.lookup y.1 = some c :=
  fun y hy e => ok.has _ (L.free y hy e)
section
variable {X : Cx} {pins : List (Addr × Obj)} {σ : L2.St} {H : Hp} {s : Shared}
/-- made, its defaults at dV -/
theorem lam_tail {T : List (Addr × Str)} {c P : Addr} {params : Arguments} {body : Expr} {scope : Scope} {pos : Pos} {E Q : Value → Shared → Prop} {dV : Value} (I : Inv X pins σ H s) (TB : TabB X.base X.mg c P) (hcode : X.env.code = .ref c)
    (hm : (P, X.env.qual ++ "<lambda>") ∈ T) (hu : ∀ p ∈ T, p.1 = P → p.2 = X.env.qual ++ "<lambda>") (hT : Tabs T H) (hfree : ∀ y ∈ scope.names, y.2 = .free → ∃ c, X.env.cells.lookup y.1 = some c)
    (h : ∀ (f c' : Addr) (doc pm ctv : Value) (H1 : Hp) (s' : Shared), Inv X pins σ H1 s' → ExtN H H1 → Tabs T H1 → s'.heap.get? f = some (lamO (X.env.qual ++ "<lambda>") params body scope (cloFrom X.env.cells scope.names []) dV doc pm c' ctv) →
      H1 f = none → f ∉ frs X.stack → H1 c' = some (CodeO c' (X.env.qual ++ "<lambda>")) → Q (.ref f) s') :
    wpAny (model X.prog X.w) X.A (makeTail "<lambda>" (X.env.qual ++ "<lambda>") params (.expr body) scope X.env dV .none none pos pos.line) Q E s := by
  generalize hq : X.env.qual ++ "<lambda>" = q at *
  obtain ⟨ps, hP, ht, ha⟩ := hT _ hm
  have bP := TB.bm.keeps I.bk
  have gP : s.heap.get? P = some (PySem.W.tabObj ps) := I.hok P _ hP
  have out : ∀ f, s.heap.objs.size ≤ f → f ∉ frs X.stack := fun f hf z => (List.mem_cons.mp (I.stkSub _ z)).elim (fun e => by
    have lt := I.lt
    rw [← e] at lt
    exact Nat.lt_irrefl _ (Nat.lt_of_lt_of_le lt hf)) fun e => I.nofs hf e
  cases hc : codeAmong pos ps.toList with
  | some cv =>
    obtain ⟨c', rfl, hco⟩ := ha pos cv hc
    refine PySem.W.kdv_makeTailHit (closure_ok hfree) I.ok.glob (I.mod.glob.keeps I.bk) hcode (TB.code.keeps I.bk) gP ht hc bP fun ctv doc h' tk hx hsz => ?_
    exact h h'.objs.size c' doc _ ctv H _ (I.kept fun b o e => Heap.get?_push_of_some _ (hx b o e)) (ExtN.refl H) hT (Heap.get?_push_size _ rfl) (I.hok.fresh hsz) (out _ hsz) hco
  | none =>
    refine PySem.W.kdv_makeTail (closure_ok hfree) I.ok.glob (I.mod.glob.keeps I.bk) hcode (TB.code.keeps I.bk) gP ht hc TB.gP bP fun c' ctv doc h' tk hx hge hlt hrec htb => ?_
    obtain ⟨c2, oc, vs, t, e2, hoc, hd, hv⟩ := hrec
    cases e2
    have hsz := Nat.le_trans hge (Nat.le_of_lt hlt)
    have nC : H c' = none := I.hok.fresh hge
    have I1 := inv_table (q := q) (t' := tk) (more := #[rawInt pos.line, rawInt pos.col, .ref c']) (h' := h'.push (lamO q params body scope (cloFrom X.env.cells scope.names []) dV doc ((X.mg "__name__").getD .none) c' ctv)) I hP
      (fun b o hb e => Heap.get?_push_of_some _ (hx b o hb e)) (Heap.get?_push_of_some _ htb) hge ⟨oc, vs, t, Heap.get?_push_of_some _ hoc, hd, hv⟩
    have hE : ExtN H (upd (upd H P (.tbl (ps ++ #[rawInt pos.line, rawInt pos.col, .ref c']))) c' (CodeO c' q)) := fun b o e n => by
      have n1 := ne_of_none e nC
      have n2 : b ≠ P := fun z => n ps (by rw [z, hP] at e; exact (Option.some.inj e).symm)
      rw [upd_ne n1, upd_ne n2, e]
    have more : (ps ++ #[rawInt pos.line, rawInt pos.col, .ref c']).toList = ps.toList ++ [rawInt pos.line, rawInt pos.col, .ref c'] := by simp
    refine h h'.objs.size c' doc _ ctv _ _ I1 hE (fun p hp => ?_) (Heap.get?_push_size _ rfl) ?_ (out _ hsz) upd_same
    · by_cases hb : p.1 = P
      · rw [hu p hp hb, hb]
        refine ⟨_, (upd_ne (ne_of_none hP nC)).trans upd_same, ?_, fun p' cv hcv => ?_⟩
        · rw [more]; exact PySem.TriplesOk_snoc _ _ _ _ ht
        · rw [more] at hcv
          rcases among_app _ ht hcv with z | z
          · obtain ⟨c0, e1, e2⟩ := ha p' cv z
            exact ⟨c0, e1, hE _ _ e2 codeO_ne⟩
          · exact ⟨c', z, upd_same⟩
      · obtain ⟨qs, a1, a2, a3⟩ := hT p hp
        refine ⟨qs, (upd_ne (ne_of_none a1 nC)).trans ((upd_ne hb).trans a1), a2, fun p' cv hcv => ?_⟩
        obtain ⟨c0, e1, e2⟩ := a3 p' cv hcv
        exact ⟨c0, e1, hE _ _ e2 codeO_ne⟩
    · have n2 : h'.objs.size ≠ P := Nat.ne_of_gt (Nat.lt_of_lt_of_le (Heap.lt_size gP) hsz)
      rw [upd_ne (Nat.ne_of_gt hlt), upd_ne n2]
      exact I.hok.fresh hsz
/-- what stands in the place of the defaults: nothing, or one number -/
def DefE (es : List Expr) (ds : List V) : Prop := (es = [] ∧ ds = []) ∨ ∃ (z : Int) (j : Nat) (p : Pos), es = [.Constant (.int z) j p] ∧ ds = [.int z]
theorem lam_new {T : List (Addr × Str)} {c P : Addr} {params : Arguments} {body : Expr} {scope : Scope} {pos : Pos} {E Q : Value → Shared → Prop} {ds : List V} (I : Inv X pins σ H s) (TB : TabB X.base X.mg c P) (hcode : X.env.code = .ref c)
    (hm : (P, X.env.qual ++ "<lambda>") ∈ T) (hu : ∀ p ∈ T, p.1 = P → p.2 = X.env.qual ++ "<lambda>") (hT : Tabs T H) (hfree : ∀ y ∈ scope.names, y.2 = .free → ∃ c, X.env.cells.lookup y.1 = some c) (hk0 : params.kw_defaults = []) (hde : DefE params.defaults ds) (hE : E = X.xe)
    (h : ∀ (f c' : Addr) (dV doc pm ctv : Value) (H1 : Hp) (s' : Shared), Inv X pins σ H1 s' → ExtN H H1 → Tabs T H1 → s'.heap.get? f = some (lamO (X.env.qual ++ "<lambda>") params body scope (cloFrom X.env.cells scope.names []) dV doc pm c' ctv) →
      H1 f = none → f ∉ frs X.stack → H1 c' = some (CodeO c' (X.env.qual ++ "<lambda>")) → Dfl H1 ds dV → Q (.ref f) s') :
    wpAny (model X.prog X.w) X.A (eval (.Lambda params body scope pos) X.env) Q E s := by
  rcases hde with ⟨he, rfl⟩ | ⟨z, j, p, he, rfl⟩
  · refine PySem.W.kla_eval (by rw [defaultsOf_eq, he, hk0]; rfl) ?_
    rw [makeFunction_eq]
    simp only [List.zip_nil_right, List.filterMap_nil, List.isEmpty_nil, if_true, pure_bind]
    exact lam_tail I TB hcode hm hu hT hfree fun f c' doc pm ctv H1 s' I1 e1 T1 h1 h2 h3 h4 => h f c' .none doc pm ctv H1 s' I1 e1 T1 h1 h2 h3 h4 (.inl ⟨rfl, rfl⟩)
  · refine PySem.W.kdv_lam (by rw [he]; rfl) hk0 ?_
    rw [he]
    refine PySem.W.kdv_all1 ?_
    subst hE
    refine thn ((pe_int (X := X) (i := z)).run pins s σ H (fun v H1 => v = .int z ∧ H1 = H) I ⟨rfl, rfl⟩) fun u s1 ⟨v, H1, I1, r1, q1, q2⟩ => PySem.W.kdv_all0 ?_
    subst q1 q2
    rw [makeFunction_eq]
    simp only [List.zip_nil_right, List.filterMap_nil, List.isEmpty_nil, if_true, pure_bind, List.isEmpty_cons, Bool.false_eq_true, if_false]
    refine wpAny_bind (wpAny_newTextTuple ?_)
    have nt : H1 s1.heap.objs.size = none := I1.hok.fresh (Nat.le_refl _)
    have I2 : Inv X pins σ (upd H1 s1.heap.objs.size (.tup [.int z])) { s1 with heap := s1.heap.push { cls := .type "tuple", data := .seq [u].toArray } } :=
      I1.laid (t' := s1.toks) (fun b o e => Heap.get?_push_of_some _ e) (Nat.le_refl _) (show ObjOk X.prog X.w _ _ _ (.tup [.int z]) from ⟨by show 1 ≤ _; decide, [u], .cons r1 .nil, IsTup.new _ _⟩)
    have ex : ∀ b o, H1 b = some o → (upd H1 s1.heap.objs.size (.tup [.int z])) b = some o := fun b o e => by rw [upd_ne (ne_of_none e nt)]; exact e
    exact lam_tail I2 TB hcode hm hu (hT.ext ex) hfree fun f c' doc pm ctv H3 s' I3 e3 T3 h1 h2 h3 h4 => h f c' _ doc pm ctv H3 s' I3 ((ExtN.of ex).trans e3) T3 h1 h2 h3 h4 (.inr ⟨_, by simp, rfl, e3 _ _ upd_same fun qs z => by cases z⟩)
end
end Kb
namespace Kb
open PySem PySem.Spec PyProof.Rows L2 LamX
section
variable {X : Cx} {pins : List (Addr × Obj)} {σ : L2.St} {H HZ : Hp} {s s1 : Shared}
/-- its body is entered -/
theorem lam_enter {A : Around} {outer : List Env} {E : XK} {scope : Scope} {f c' : Addr} {h₁ : Heap} {tk : Nat} {ps : List Str} {m : Str → Option Value} (I : Inv X pins σ H s) (L : LamP X.N X.env.scope scope ps) (e0 : Env0 X.prog X.w X.K X.mg X.base A outer s1 HZ) (hd : A.handled = none)
    (un : Un (frs X.stack) [] H HZ s.heap s1.heap) (hns : h₁.Ns s1.heap.objs.size m) (kp : ∀ b o, s1.heap.get? b = some o → h₁.get? b = some o) :
    Inv (lamCx X A outer s1 HZ E scope f c') [] σ HZ { s1 with heap := h₁, toks := tk } := by
  have cells : ∀ {y c}, (cloFrom X.env.cells scope.names []).lookup y = some c → X.env.cells.lookup y = some c := fun {y c} e => by
    rcases cloFrom_mem (PySem.mem_of_lookup e) with z | ⟨h1, h2⟩
    · cases z
    · obtain ⟨c1, hc⟩ := L.has I.ok _ h1 rfl
      have hc : X.env.cells.lookup y = some c1 := hc
      rw [hc]
      have : c = c1 := by rw [h2, hc]; rfl
      rw [this]
  have look : ∀ {y}, scope.names.lookup y = some .free → ∃ c, (cloFrom X.env.cells scope.names []).lookup y = some c := fun {y} hl =>
    mem_lookup (cloFrom_has (cells := X.env.cells) (acc := []) (PySem.mem_of_lookup hl : (y, NameKind.free) ∈ scope.names))
  have keepC : ∀ {c : Addr} {v : Option Value}, H c = none → s.heap.IsCell c v → h₁.IsCell c v := fun {c v} n ⟨o, ho, hd⟩ => by
    obtain ⟨sl, q⟩ := un.any ho n (by simp)
    exact ⟨_, kp _ _ q, hd⟩
  have nex : ∀ b : Addr, b ∉ (lamCx X A outer s1 HZ E scope f c').ex := fun b z => nomatch (show b ∈ ([] : List Addr) from z)
  have okC : (lamCx X A outer s1 HZ E scope f c').Ok := by
    refine ⟨e0.mod, L.kind, rfl, rfl, Nat.le_refl _, fun y z c e1 e2 => I.ok.inj y z c (cells e1) (cells e2), fun y hy => ?_, fun y c z _ => ?_, fun _ => hd, Around.frames_deeper e0.frames, .inr ⟨rfl, rfl⟩, fun b z => absurd z (nex b),
      e0.bs, e0.bsz, fun b _ _ => nex b, fun b z => absurd z (nex b), e0.funs, e0.frf⟩
    · have hy : scope.names.lookup y = some .cell ∨ scope.names.lookup y = some .free := hy
      rcases hy with hy | hy
      · exact absurd rfl (L.own _ (PySem.mem_of_lookup hy))
      · exact look hy
    · cases (show false = true from z)
  refine ⟨okC, rfl, e0.bare, Un.kept kp, ⟨_, hns, fun i y v e1 e2 e3 => ?_⟩, fun y c e => ?_, e0.hok.fresh (Nat.le_refl _), fun y c e => ?_, fun q hq => (nomatch (show q ∈ ([] : List (Addr × Obj)) ++ [] from hq)), e0.hok.kept kp, I.len⟩
  · have e3 : Vis scope y := e3
    rcases e3 with k | k | k
    · exact absurd (List.mem_of_getElem? (show X.N[i]? = some y from e1)) (L.loc _ (PySem.mem_of_lookup k) rfl)
    · exact absurd rfl (L.own _ (PySem.mem_of_lookup k))
    · obtain ⟨m, hn, hl⟩ := I.loc
      have vis : Vis X.env.scope y := by
        rcases L.free _ (PySem.mem_of_lookup k) rfl with k | k
        · exact .inr (.inl k)
        · exact .inr (.inr k)
      obtain ⟨w', r, q⟩ := hl i y v e1 e2 vis
      obtain ⟨c2, h2⟩ := look k
      have c1 := cells h2
      refine ⟨w', r, .inr ⟨.inr k, c2, h2, ?_⟩⟩
      rcases q with ⟨k', _⟩ | ⟨_, c3, e', z⟩
      · have k' : X.env.scope.names.lookup y = some .local := k'
        exact (L.free _ (PySem.mem_of_lookup k) rfl).elim (fun k2 => by have k2 : X.env.scope.names.lookup y = some .cell := k2; rw [k'] at k2; cases k2) fun k2 => by have k2 : X.env.scope.names.lookup y = some .free := k2; rw [k'] at k2; cases k2
      · rw [c1] at e'
        cases e'
        exact keepC (I.freeC y _ c1) z
  · obtain ⟨w', z⟩ := I.cell y c (cells e)
    exact ⟨w', keepC (I.freeC y c (cells e)) z⟩
  · obtain ⟨v, o, ho, hd⟩ := I.cell y c (cells e)
    exact un.free c o ho (I.freeC y c (cells e)) (by simp)
/-- what a reading says of a lambda: what may be raised, the heap, what is wanted -/
abbrev LT := XK → Hp → VK → Prop
/-- the lambda is called: E holds what it raises -/
def tAct (f : Addr) (ok : Hp → Prop) (tl : LT) (W : WX) : TE := fun σ H Q => σ[0]? = some (some (.ref f)) ∧ ok H ∧ ∃ (E : XK) (Q0 : VK), (∀ cls d H', E cls d H' → W cls d σ H') ∧ (∀ v H', Q0 v H' → Q v H') ∧ tl E H Q0
/-- the frame of a def that calls what it got -/
abbrev gCx (P : Program) (w : World) (K : PySem.W.Frag) (mg : Str → Option Value) (base : Heap) (N : List Str) (x : Str) (sg : Scope) (g : Addr) (cdg : Value) (A : Around) (outer : List Env) (s : Shared) (H : Hp) : Cx :=
  cxOf CX0 P w K mg base N x sg g cdg A outer s H fun _ _ _ => False
theorem lam_act {Ng : List Str} {qg : Str} {sg : Scope} {g f c' : Addr} {cdg dV doc pm ctv : Value} {params : Arguments} {body : Expr} {scope : Scope} {k : Nat} {a : Str} {pn : List (Addr × Obj)} {xe : Value → Shared → Prop} {W : WX} {tb : XK → TE} {p1 p2 : Pos} {ps : List Str} {ds : List V}
    (I : Inv X pins σ H s) (L : LamP X.N X.env.scope scope ps) (B : LamB params body scope ps ds) (hf : s.heap.get? f = some (lamO (X.env.qual ++ "<lambda>") params body scope (cloFrom X.env.cells scope.names []) dV doc pm c' ctv)) (hfn : H f = none) (hfr : f ∉ frs X.stack)
    (hc0 : H c' = some (CodeO c' (X.env.qual ++ "<lambda>")))
    (tk : Takes ((gCx X.prog X.w X.K X.mg X.base Ng qg sg g cdg X.A X.stack s H).tr pn xe) W) (hr : Room (k + 1) (X.A.deeper (envOfC qg sg s.heap.objs.size g cdg)))
    (hbody : ∀ (A : Around) (outer : List Env) (s : Shared) (H : Hp) (E : XK), A.guards = X.A.guards → Room k (A.deeper (lamEnv X scope s.heap.objs.size f c')) → PE (lamCx X A outer s H E scope f c') body (tb E))
    (hN : Ng[0]? = some a) (hv : Vis sg a) (hd : (a == ("__debug__" : Str)) = false := by decide) (hcd : (a == ("__classdict__" : Str)) = false := by decide) :
    PE ((gCx X.prog X.w X.K X.mg X.base Ng qg sg g cdg X.A X.stack s H).tr pn xe) (.Call (.Name a p1) [] [] p2)
      (tAct f (fun HZ => HZ c' = some (CodeO c' (X.env.qual ++ "<lambda>")) ∧ Dfl HZ ds dV) (fun E H' Q' => tb E σ H' Q') W) := by
  refine ⟨fun pinsZ sZ σZ HZ Q IZ ⟨hs, ⟨hc, hD⟩, E, Q0, hW, hQ, ht⟩ => ?_⟩
  refine wpAny_Call_Name_kw (thn ((pe_var (pos := p1) (i := 0) hN hv hd hcd).run pinsZ sZ σZ HZ (fun v H1 => v = .ref f ∧ H1 = HZ) IZ ⟨.ref f, hs, rfl, rfl⟩) fun u s1 ⟨v, H1, I1, r1, q1, q2⟩ => ?_)
  subst q1 q2
  obtain rfl : u = Value.ref f := r1
  have of1 := I1.base.keep f _ hf hfn hfr (fun z => nomatch (show f ∈ ([] : List Addr) from z))
  refine PySem.W.callWith_F0 ⟨_, _, _, _, of1⟩ ?_
  have un : Un (frs X.stack) [] H H1 s.heap s1.heap := I1.base
  obtain ⟨⟨oc, vs, t, hoc, hdc, hvc⟩, _, _⟩ := I1.hok c' _ hc
  obtain ⟨us, hb, hloc⟩ : ∃ us : List Value, BindsTo s1 (PySem.W.kdv_fn "<lambda>" (X.env.qual ++ "<lambda>") params (.expr body) scope (cloFrom X.env.cells scope.names []) dV doc pm (.ref c') ctv) ⟨[], []⟩ (ps.zip us) ∧ ∀ y ∈ ps.zip us, scope.names.lookup y.1 = some .local := by
    rcases B with ⟨e1, e2, e3⟩ | ⟨l1, n1, e3⟩
    · subst e1 e2
      have hdv : dV = .none := by
        rcases hD with ⟨_, z⟩ | ⟨t, z, _⟩
        · exact z
        · exact absurd rfl z
      subst hdv
      exact ⟨[], .of_eq (e3 _ _ _ _ _ _), fun y hy => nomatch hy⟩
    · rcases hD with ⟨z, _⟩ | ⟨t, _, rfl, hz⟩
      · exact absurd z n1
      · obtain ⟨_, its, hv, o, ho, _, n, hdat⟩ := I1.hok t _ hz
        obtain ⟨k, k1, k2⟩ := e3 (X.env.qual ++ "<lambda>") (cloFrom X.env.cells scope.names []) t doc pm (.ref c') ctv its hv.length.symm
        exact ⟨its, BindsTo.of_defaults rfl ho hdat k1 k2, fun y hy => L.par _ (List.of_mem_zip hy).1⟩
  have rc : codeAny (model X.prog X.w) (X.A.deeper (envOfC qg sg s.heap.objs.size g cdg)) (.call (.ref f) ⟨[], []⟩) (CR (L2.CX X.prog X.w) (envOfC qg sg s.heap.objs.size g cdg :: X.stack) X.prog X.w H1 s1 Q0 E) s1 := by
    refine PySem.W.kla_callFunE hr.depth of1 rfl L.co L.gen rfl ⟨c', oc, vs, t, rfl, hoc, hdc, hvc⟩ (hb _ _ _ _ (wpAny_newFunctionEnv L.own hloc (fun h₁ hns hsb => ⟨I1.nolimit.fresh _ hsb, ?_⟩) L.kind))
    show codeAny _ _ (.expr body (lamEnv X scope s1.heap.objs.size f c')) _ _
    have J := lam_enter (E := E) (f := f) (c' := c') (tk := s1.toks + (ps.zip us).length) I L I1.env0 hr.hd un hns fun b o e => hsb.extBut b o (Nat.ne_of_lt (Heap.lt_size e)) (Heap.get?_push_of_some _ e)
    refine PySem.W.kla_codeExpr (wpAny_mono ((hbody (X.A.deeper (envOfC qg sg s.heap.objs.size g cdg)) _ s1 H1 E rfl (hr.deeper _)).run [] _ _ H1 Q0 J ht) (fun v s' ⟨w', H', J', rv, q⟩ => ?_) fun e s' hq => hq)
    exact ⟨w', H', J'.os, J'.bare, J'.base, J'.hok, rv, q⟩
  refine wpAny_call (codeAny_mono rc fun r s' hq => ?_)
  match r, hq with
  | .error e, hq => exact tk e s' (XE.of_call I1 (fun cls d H' z => hW cls d H' z) hq)
  | .ok (.ret u), ⟨v, H', a1, a2, a3, a4, a5, a6⟩ => exact I1.after ⟨v, H', a1, a2, a3, a4, a5, hQ _ _ a6⟩
end
end Kb
namespace Kb
open PySem PySem.Spec PyProof.Rows L2 LamX
/-- what a def does that calls what it got: TT of the lambda's reading -/
def GivesL (P : Program) (w : World) (K : PySem.W.Frag) (mg : Str → Option Value) (base : Heap) (N : List Str) (x : Str) (sg : Scope) (bg : List Stmt) (a : Str) (k : Nat) (TT : LT → Hp → VK → Prop) : Prop :=
  ∀ (g : Addr) (cdg : Value) (A : Around) (outer : List Env) (f : Addr) (s : Shared) (H : Hp) (Q : VK) (ok : Hp → Prop) (tl : LT), A.guards = some [] → Room k (A.deeper (envOfC x sg s.heap.objs.size g cdg)) →
    (∀ (W : WX) (pn : List (Addr × Obj)) (xe : Value → Shared → Prop) (p1 p2 : Pos), Takes ((gCx P w K mg base N x sg g cdg A outer s H).tr pn xe) W → PE ((gCx P w K mg base N x sg g cdg A outer s H).tr pn xe) (.Call (.Name a p1) [] [] p2) (tAct f ok tl W)) →
    ok H → TT tl H Q → ∃ t, PSs (gCx P w K mg base N x sg g cdg A outer s H).nox bg t ∧ t { nx := fun _ H' => Q .non H', rt := Q } (L2.start N [.ref f]) H
/-- x(lambda: body): the tables, what is asked of the heap behind the making -/
def tLamL (P : Addr) (q : Str) (TT : LT → Hp → VK → Prop) (t : XK → TE) : TE := fun σ H Q => TabS H P q ∧ ∀ H1, ExtN H H1 → TabS H1 P q → TT (fun E H' Q' => t E σ H' Q') H1 Q
section
variable {X : Cx}
theorem pe_lamL {TT : LT → Hp → VK → Prop} {x a : Str} {st : Stmt} {N : List Str} {c P : Addr} {j k : Nat} {params : Arguments} {body : Expr} {scope : Scope} {t : XK → TE} {p lpos pos : Pos} {ps : List Str} {ds : List V} (hg : Gl X x) (D : Df X.K X.mg x st [a]) (S : FnScope N [a] (defScope st))
    (h0 : N[0]? = some a) (hva : Vis (defScope st) a) (G : GivesL X.prog X.w X.K X.mg X.base N x (defScope st) (defBody st) a (j + 1) TT) (hgd : X.A.guards = some []) (TB : TabB X.base X.mg c P) (hcode : X.env.code = .ref c) (hr : Room k X.A) (hk : j + 2 ≤ k) (L : LamP X.N X.env.scope scope ps) (B : LamB params body scope ps ds)
    (hk0 : params.kw_defaults = []) (hde : DefE params.defaults ds)
    (hbody : ∀ (A : Around) (outer : List Env) (s : Shared) (H : Hp) (E : XK) (f c' : Addr), A.guards = some [] → Room j (A.deeper (lamEnv X scope s.heap.objs.size f c')) → PE (lamCx X A outer s H E scope f c') body (t E))
    (hdb : (x == ("__debug__" : Str)) = false := by decide) (hd : (a == ("__debug__" : Str)) = false := by decide) (hcd : (a == ("__classdict__" : Str)) = false := by decide) :
    PE X (.Call (.Name x p) [.Lambda params body scope lpos] [] pos) (tLamL P (X.env.qual ++ "<lambda>") TT t) := by
  obtain ⟨g, fd, F, hm, hbi⟩ := D
  have hkp := F.kp
  obtain ⟨oc, od, kV, doc, pm, an, cdv, ct, osl, rfl, lk, hcg⟩ := F.ex
  refine ⟨fun pins s σ H Q I ⟨hT, h⟩ => ?_⟩
  refine wpAny_Call_Name_kw (ld_glob I hg hm ?_ hdb)
  refine PySem.W.callWith_K (h₀ := X.base) I.ok.mod.kin hkp ?_ (by rfl) (by rfl)
  show wpAny _ _ (spliced ((false, eval (.Lambda params body scope lpos) X.env) :: backTo pos (starEach [] X.env))) _ _ s
  have only : ∀ p ∈ [(P, X.env.qual ++ "<lambda>")], p.1 = P → p.2 = X.env.qual ++ "<lambda>" := fun p hp _ => by rw [List.mem_singleton.mp hp]
  refine Calls.spliced_cons (lam_new (T := [(P, X.env.qual ++ "<lambda>")]) I TB hcode (List.mem_singleton.mpr rfl) only (fun p hp => by rw [List.mem_singleton.mp hp]; exact hT) (L.has I.ok) hk0 hde rfl fun f c' dV doc' pm' ctv H1 s' I1 eN T1 hf hfn hfr hco hD => ?_)
  refine Calls.spliced_nil ⟨I1.kIn, ?_⟩
  have rc : codeAny (model X.prog X.w) X.A (.call (.ref g) ⟨[.ref f], []⟩) (CR CX0 X.stack X.prog X.w H1 s' Q fun _ _ _ => False) s' := by
    refine run_ofS (N := N) (ps := [a]) (us := [.ref f]) (vs := [.ref f]) lk hcg S (hr.mono hk) I1.env0 (BindsTo.of_eq (hbi [.ref f] rfl)) (.cons rfl .nil) rfl fun hr' => ?_
    obtain ⟨t', ht', hq'⟩ := G g cdv X.A X.stack f s' H1 Q (fun HZ => HZ c' = some (CodeO c' (X.env.qual ++ "<lambda>")) ∧ Dfl HZ ds dV) (fun E H' Q' => t E σ H' Q') hgd hr'
      (fun W pn xe p1 p2 tk => lam_act I1 L B hf hfn hfr hco tk hr' (fun A outer s H E hg2 hr2 => hbody A outer s H E f c' (hg2.trans hgd) hr2) h0 hva hd hcd) ⟨hco, hD⟩ (h H1 eN (T1 _ (List.mem_singleton.mpr rfl)))
    exact ⟨t', ht'.nox, hq'⟩
  refine wpAny_call (codeAny_mono rc fun r s2 hq => ?_)
  match r, hq with
  | .error e, hq => exact (show False from hq).elim
  | .ok (.ret u), hq => exact I1.after hq
end
/-! ### what stays -/
theorem TabS.same {H H' : Hp} {P : Addr} {q : Str} (t : TabS H P q) (s : Same H H') : TabS H' P q := TabS.ext t s
theorem ExtN.seqL {K : PySem.W.Frag} {H H' : Hp} {a : Addr} {xs : List V} (e : ExtN H H') (h : SqL K H a xs) : SqL K H' a xs := by
  rcases h with (h | ⟨o, h⟩) | h
  · exact .inl (.inl (e _ _ h fun ps z => by cases z))
  · exact .inl (.inr ⟨o, e _ _ h fun ps z => by cases z⟩)
  · exact .inr h
theorem ExtN.seqT {K : PySem.W.Frag} {H H' : Hp} {a : Addr} {xs : List V} (e : ExtN H H') (h : SqT K H a xs) : SqT K H' a xs := by
  rcases h with (h | ⟨o, h⟩) | h
  · exact .inl (.inl (e _ _ h fun ps z => by cases z))
  · exact .inl (.inr ⟨o, e _ _ h fun ps z => by cases z⟩)
  · exact .inr h
theorem ExtN.ofSame {H H' : Hp} (s : Same H H') : ExtN H H' := ExtN.of s
end Kb
namespace Kb
open PySem PySem.Spec PyProof.Rows L2 LamX
theorem TabS.keep {H H' : Hp} {P d : Addr} {q : Str} {kvs : List (Key × V)} (t : TabS H P q) (k : Keep d H H') (hd : H d = some (.dK kvs)) : TabS H' P q := by
  obtain ⟨ps, h1, h2, h3⟩ := t
  refine ⟨ps, k _ _ h1 (fun z => by rw [z, hd] at h1; cases h1), h2, fun pos cv hc => ?_⟩
  obtain ⟨c, e1, e2⟩ := h3 pos cv hc
  exact ⟨c, e1, k _ _ e2 fun z => by rw [z, hd] at e2; unfold CodeO at e2; cases e2⟩
theorem TabS.keepD {H H' : Hp} {P d : Addr} {q : Str} {n : Nat} (t : TabS H P q) (k : Keep d H H') (hd : DrawAt H d n) : TabS H' P q :=
  let ⟨_, _, _, h, _⟩ := hd; TabS.keep t k h
theorem DrawAt.ext {H H' : Hp} {d : Addr} {n : Nat} (h : DrawAt H d n) (e : ExtN H H') : DrawAt H' d n :=
  let ⟨l, c, t, h1, h2⟩ := h; ⟨l, c, t, e _ _ h1 (fun ps z => by cases z), h2⟩
/-! ### a def whose code object is told -/
def DfC (K : PySem.W.Frag) (mg : Str → Option Value) (x : Str) (st : Stmt) (ps : List Str) (c Tb : Addr) : Prop :=
  ∃ (f : Addr) (fd : FuncData), Fun K x x st f fd ∧ fd.code = .ref c ∧ mg x = some (.ref f) ∧ PySem.W.tabIn K x = some (c, Tb) ∧ ∀ us : List Value, us.length = ps.length → bindArgs fd ⟨us, []⟩ = pure (ps.zip us)
theorem DfC.mk {K : PySem.W.Frag} {mg : Str → Option Value} {h : Heap} {x : Str} {st : Stmt} {ps : List Str} {f c Tb : Addr} {oc ec : Value} {od an dc : Option Addr} {sl s2 : Array (Option Value)} {cvs : Array Value} {kV doc pm ct : Value} (X : K.In h) (G : h.Ns PySem.mainGlobals mg)
    (b : ∀ (kV doc pm : Value) (an : Option Addr) (cdv ct : Value) (us : List Value), us.length = ps.length → bindArgs (PySem.W.fnOf x x (defArgs st) (defBody st) (defScope st) .none kV doc pm an cdv ct) ⟨us, []⟩ = pure (ps.zip us))
    (a : PySem.W.nsIn K PySem.mainGlobals x = some (some (.ref f)))
    (l : K.lookup f = some ⟨oc, od, .func (PySem.W.fnOf x x (defArgs st) (defBody st) (defScope st) .none kV doc pm an (.ref c) ct), sl⟩)
    (cc : PySem.W.codeIn K (.ref c) x = true) (k : PySem.W.keepIn K (.ref f) = true) (lc : K.lookup c = some ⟨ec, dc, .fields cvs, s2⟩) (h11 : cvs[11]? = some (.ref Tb)) : DfC K mg x st ps c Tb :=
  ⟨f, _, fun_mk l cc k, rfl, PySem.W.mg_of X G a, by unfold PySem.W.tabIn; simp only [a, l, lc, h11], b kV doc pm an (.ref c) ct⟩
theorem Fun.okGC {P : Program} {w : World} {K : PySem.W.Frag} {mg : Str → Option Value} {base : Heap} {k : Nat} {f c : Addr} {x qual : Str} {st : Stmt} {fd : FuncData} {N ps : List Str} {sp : Sp} (F : Fun K x qual st f fd) (hc : fd.code = .ref c) (S : FnScope N ps (defScope st)) (len : ∀ vs H Q E, sp vs H Q E → vs.length = ps.length)
    (hbody : ∀ (A : Around) (outer : List Env) (s : Shared) (H : Hp) (vs : List V) (Q : VK) (E : XK), A.guards = some [] → Room k (A.deeper (envOfC qual (defScope st) s.heap.objs.size f (.ref c))) → sp vs H Q E →
      ∃ t, PSs (cxOf CX0 P w K mg base N qual (defScope st) f (.ref c) A outer s H E).nox (defBody st) t ∧ t { nx := fun _ H' => Q .non H', rt := Q } (start N vs) H) : FnG P w K mg base CX0 (k + 1) f fd ps sp := by
  obtain ⟨oc, od, kV, doc, pm, an, cdv, ct, osl, rfl, lk, hcd⟩ := F.ex
  obtain rfl : cdv = .ref c := hc
  have F2 : Fun K x qual st f (PySem.W.fnOf x qual (defArgs st) (defBody st) (defScope st) .none kV doc pm an (.ref c) ct) := F
  refine ⟨len, fun A outer s H args us vs Q E hgd hr e0 hb r hsp => ?_⟩
  have KX : K.In s.heap := e0.mod.kin.keeps fun b o e => (e0.bs b o e).1
  have hkind : ∀ y ∈ ps.zip us, (defScope st).names.lookup y.1 = some .local ∨ ((defScope st).names.lookup y.1 = some .cell ∧ ((cellsFrom (s.heap.objs.size + 1) (defScope st).names []).lookup y.1).isSome = true) := fun ⟨n, v⟩ hy =>
    (S.par n (List.of_mem_zip hy).1).elim .inl fun q => .inr ⟨q, PySem.W.cellsFrom_some _ _ _ (.inl q)⟩
  refine codeAny_call_function hr.depth (KX _ _ lk) rfl S.co S.gen rfl (PySem.W.codeRec_of KX hcd) (hb _ _ _ _ (wpAny_newFunctionEnv_cells S.kind hkind fun env he s1 x => ?_))
  subst he
  refine ⟨(e0.mod.nolimit.keeps fun b o e => (e0.bs b o e).1).keeps x.toInCall.keep, codeAny_func ?_⟩
  obtain ⟨t, ht, hq⟩ := hbody A outer s H vs Q E hgd (hr.deeper _) hsp
  refine wpAny_mono (ht.nox.run [] s1 (start N vs) H _ (inv_start S hr.hd e0 (len _ _ _ _ hsp) r x) hq) (fun fl s' hs => ?_) fun e s' hs => hs
  cases fl with
  | ret u => obtain ⟨v, σ', H', J, rv, q⟩ := hs; exact ⟨v, H', J.os, J.bare, J.base, J.hok, rv, q⟩
  | next => obtain ⟨σ', H', J, q⟩ := hs; exact ⟨V.non, H', J.os, J.bare, J.base, J.hok, rfl, q⟩
  | brk => obtain ⟨_, _, _, q⟩ := hs; exact q.elim
  | cont => obtain ⟨_, _, _, q⟩ := hs; exact q.elim
/-! ### the law's call where the law makes lambdas: the script and its table are tracked -/
theorem law_callGT {P : Program} {w : World} {K : PySem.W.Frag} {mg mb : Str → Option Value} {CX : CXT} {k : Nat} {fa a c Tb : Addr} {fd : FuncData} {x : Str} {sp : Sp} {s₁ : Shared} {vs : List Value} {ns : List Int}
    (KX : K.In s₁.heap) (hns : s₁.heap.Ns PySem.mainGlobals mg) (hb : s₁.heap.Ns builtinsNs mb) (hbb : ∀ x : Str, x ≠ "__name__" → mb x = bootBuiltins x) (hlim : s₁.heap.NoLimit) (hg : s₁.gens = #[])
    (hT : s₁.heap.get? Tb = some (PySem.W.tabObj #[])) (nT : K.lookup Tb = none) (C : PySem.W.CodeHd s₁.heap c Tb)
    (hbm : ∃ (bm : Addr) (ob : Obj), mg "__builtins__" = some (.ref bm) ∧ bm ≠ builtinsNs ∧ s₁.heap.get? bm = some ob ∧ ob.cls = .type "module" ∧ ob.dict = some builtinsNs ∧ ob.data = .plain)
    (ha : s₁.heap.get? a = some { cls := .type "list", data := .seq vs.toArray }) (hi : IntsAre vs ns) (hl : ns.length ≤ sizeLine) (hr : Room k callerA)
    (F : ∀ base : Heap, K.In base → base.Ns PySem.mainGlobals mg → TabB base mg c Tb → FnG P w K mg base CX k fa fd [x] sp) (hbind : ∀ (s : Shared) (u : Value), BindsTo s fd ⟨[u], []⟩ [(x, u)])
    (hsp : ∀ H : Hp, H Tb = some (.tbl #[]) → SqL K H a (ns.map V.int) → sp [.ref a] H (fun v _ => v = .bl true) fun _ _ _ => False)
    (hCX : ∀ H e s', CX [] H s₁ (fun _ _ _ => False) e s' → False) :
    codeAny (model P w) callerA (.call (.ref fa) ⟨[.ref a], []⟩) (fun r s' => r = .ok (.ret (.bool true)) ∧ OldK s₁.heap s'.heap ∧ s'.os = s₁.os ∧ AllBare s'.gens) s₁ := by
  have rv := vals_ints hi
  have aT : a ≠ Tb := fun z => by
    rw [← z, ha] at hT
    cases hT
  have core : ∀ H : Hp, H Tb = some (.tbl #[]) → (∀ b, H b = none ∨ b = Tb ∨ ∃ o xs, H b = some (.frz o (.lst xs))) → SqL K H a (ns.map V.int) → HOk P w H s₁.heap → (∀ b, H b ≠ none → b = a ∨ b = Tb) → (H a ≠ none → K.lookup a = none) →
      codeAny (model P w) callerA (.call (.ref fa) ⟨[.ref a], []⟩) (fun r s' => r = .ok (.ret (.bool true)) ∧ OldK s₁.heap s'.heap ∧ s'.os = s₁.os ∧ AllBare s'.gens) s₁ := by
    intro H hH hO hS hok hA hK
    have one : ∀ b, b ≠ a → b ≠ Tb → H b = none := fun b n1 n2 => Classical.byContradiction fun q => (hA b q).elim n1 n2
    have plain : ∀ {b : Addr} {o : Obj}, s₁.heap.get? b = some o → o ≠ { cls := .type "list", data := .seq vs.toArray } → o ≠ PySem.W.tabObj #[] → (hidT s₁.heap H).get? b = some o := fun {b o} e n1 n2 =>
      hidT_get e (one b (fun z => n1 (by rw [z, ha] at e; exact (Option.some.inj e).symm)) fun z => n2 (by rw [z, hT] at e; exact (Option.some.inj e).symm))
    have spaces : ∀ {b : Addr} {m : Str → Option Value}, s₁.heap.Ns b m → (hidT s₁.heap H).Ns b m := fun ⟨o, es, ep, e, d, r⟩ => ⟨o, es, ep, plain e (fun z => by rw [z] at d; cases d) (fun z => by rw [z] at d; cases d), d, r⟩
    have kin : K.In (hidT s₁.heap H) := fun b o e => hidT_get (KX b o e) (Classical.byContradiction fun q => by
      rcases hA b q with z | z
      · subst z
        rw [hK q] at e
        cases e
      · rw [z, nT] at e
        cases e)
    have TB : TabB (hidT s₁.heap H) mg c Tb := by
      refine ⟨?_, ?_, fun z => ?_⟩
      · obtain ⟨o, us, file, tf, flags, tg, inF, text, tt, e1, r1, r2, r3, r4⟩ := C
        refine ⟨o, us, file, tf, flags, tg, inF, text, tt, plain e1 (fun z => ?_) (fun z => ?_), r1, r2, r3, r4⟩
        · rw [z] at r2; cases r2
        · rw [z] at r2; cases r2; simp at r3
      · obtain ⟨bm, ob, b1, b2, b3, b4, b5, b6⟩ := hbm
        have nG : bm ≠ PySem.mainGlobals := fun q => by
          obtain ⟨o, es, ep, e, hd, _⟩ := hns
          rw [q, e] at b3
          cases b3
          rw [hd] at b6
          cases b6
        have nP : bm ≠ Tb := fun q => by
          rw [q, hT] at b3
          cases b3
          cases b6
        exact ⟨bm, ob, b1, b2, nG, nP, plain b3 (fun z => by rw [z] at b6; cases b6) (fun z => by rw [z] at b6; cases b6), b4, b5, b6⟩
      · obtain ⟨o, es, ep, e, hd, _⟩ := hns
        rw [z, hT] at e
        cases e
        cases hd
    obtain ⟨mc, l1, l2⟩ := hlim
    refine codeAny_mono ((F _ kin (spaces hns) TB).run callerA [] s₁ H ⟨[.ref a], []⟩ [.ref a] [.ref a] _ _ rfl hr
      ⟨rfl, ⟨kin, spaces hns, ⟨mb, spaces hb, hbb⟩, ⟨mc, spaces l1, l2⟩⟩, fun b o e => of_hidT e, Nat.le_of_eq (hidT_size _ _), trivial, fun b hb => absurd (show b ∈ ([] : List Addr) from hb) (by simp), hok, .of_eq hg⟩
      (hbind s₁ (.ref a)) (.cons rfl .nil) (hsp H hH hS)) fun r s' h => ?_
    match r, h with
    | .error e, h => exact (hCX H e s' h).elim
    | .ok (.ret u), ⟨v, H', os, bare, un, hok', r', q⟩ =>
      cases (show v = .bl true from q)
      cases (show u = Value.bool true from r')
      obtain ⟨more, hm⟩ := un.tbls Tb #[] hH
      have grown : s'.heap.get? Tb = some { cls := .none, data := .fields (#[] ++ more) } := hok' Tb _ hm
      have key : ∀ b o, b ≠ Tb → s₁.heap.get? b = some o → s'.heap.get? b = some o := fun b o n e => by
        rcases hO b with z | z | ⟨ob, xs, z⟩
        · exact un.keep b o e z (fun y => absurd (show b ∈ ([] : List Addr) from y) (by simp)) (by simp)
        · exact absurd z n
        · obtain ⟨e1, _⟩ := hok b _ z
          obtain ⟨e2, _⟩ := hok' b _ (un.frzs b ob _ z)
          rw [e] at e1
          cases e1
          exact e2
      refine ⟨rfl, ⟨fun b o e => ?_, fun b o e => ?_⟩, os, bare⟩
      · by_cases hbT : b = Tb
        · subst hbT
          rw [hT] at e
          cases e
          exact .inr (.inl ⟨(C.tab hT).isCodeTable, rfl, #[], more, rfl, grown⟩)
        · exact .inl (key b o hbT e)
      · by_cases hbT : b = Tb
        · subst hbT
          exact ⟨_, grown⟩
        · exact ⟨o, key b o hbT e⟩
  cases hk : K.lookup a with
  | some o =>
    have e := KX a o hk
    rw [ha] at e
    cases e
    have at' : ∀ b, b ≠ Tb → (if b = Tb then some (HO.tbl #[]) else none) = none := fun b n => if_neg n
    refine core (fun b => if b = Tb then some (.tbl #[]) else none) (if_pos rfl) (fun b => ?_) (.inr ⟨_, vs.toArray, _, hk, rfl, rfl, rfl, by rw [List.size_toArray, hi.length]; exact hl, by simpa using rv⟩) (fun b u z => ?_) (fun b z => .inr (Classical.byContradiction fun n => z (at' b n))) fun z => absurd (at' a aT) z
    · by_cases hbT : b = Tb
      · exact .inr (.inl hbT)
      · exact .inl (at' b hbT)
    · by_cases hbT : b = Tb
      · subst hbT
        cases (if_pos rfl).symm.trans z
        exact hT
      · cases (at' b hbT).symm.trans z
  | none =>
    have at1 : ∀ b, b ≠ a → b ≠ Tb → (if b = a then some (HO.frz { cls := .type "list", data := .seq vs.toArray } (.lst (ns.map V.int))) else if b = Tb then some (.tbl #[]) else none) = none := fun b n1 n2 => (if_neg n1).trans (if_neg n2)
    have at2 : (if Tb = a then some (HO.frz { cls := .type "list", data := .seq vs.toArray } (.lst (ns.map V.int))) else if Tb = Tb then some (.tbl #[]) else none) = some (.tbl #[]) := (if_neg (Ne.symm aT)).trans (if_pos rfl)
    refine core (fun b => if b = a then some (.frz { cls := .type "list", data := .seq vs.toArray } (.lst (ns.map V.int))) else if b = Tb then some (.tbl #[]) else none) at2 (fun b => ?_) (.inl (.inr ⟨{ cls := .type "list", data := .seq vs.toArray }, if_pos rfl⟩)) (fun b u z => ?_)
      (fun b z => Classical.byContradiction fun n => z (at1 b (fun q => n (.inl q)) fun q => n (.inr q))) fun _ => hk
    · by_cases hba : b = a
      · exact .inr (.inr ⟨_, _, if_pos hba⟩)
      · by_cases hbT : b = Tb
        · exact .inr (.inl hbT)
        · exact .inl (at1 b hba hbT)
    · by_cases hba : b = a
      · subst hba
        cases (if_pos rfl).symm.trans z
        exact ⟨ha, by rw [List.length_map]; exact hl, vs, _, rv, ha⟩
      · by_cases hbT : b = Tb
        · subst hbT
          cases at2.symm.trans z
          exact hT
        · cases (at1 b hba hbT).symm.trans z
theorem walkGT {l : PySem.W.OpenLaw} {n k : Nat} {q : Program} {loose : List Str} {XP : (Str → Option Value) → Heap → Prop} {YP : World → Heap → Prop} {d : DefRec} {K : Params → PySem.W.Frag} {CX : World → CXT} {sp : World → Addr → Sp} {x : Str}
    (hn : l.most = some n) (hn2 : n ≤ sizeLine) (hdf : d.params.defaults = []) (hr : Room k callerA) (hY : ∀ (w : World) (h : Heap), YP w h → (K w.params).In h) (hrec : (recsOf q).find? (fun e => e.name == d.name) = some d)
    (F : ∀ (w : World) (mg : Str → Option Value) (fa : Addr) (h : Heap), (K w.params).In h → h.Ns PySem.mainGlobals mg → mg d.name = some (.ref fa) →
      ∃ (fd : FuncData) (c Tb : Addr), PySem.W.tabIn (K w.params) d.name = some (c, Tb) ∧ (K w.params).lookup Tb = none ∧ (∀ (s : Shared) (u : Value), BindsTo s fd ⟨[u], []⟩ [(x, u)]) ∧
        ∀ base : Heap, (K w.params).In base → base.Ns PySem.mainGlobals mg → TabB base mg c Tb → FnG l.prog w (K w.params) mg base (CX w) k fa fd [x] (sp w Tb))
    (hsp : ∀ (w : World) (H : Hp) (a Tb : Addr) (ns : List Int), ns.length ≤ n → H Tb = some (.tbl #[]) → SqL (K w.params) H a (ns.map V.int) → sp w Tb [.ref a] H (fun v _ => v = .bl true) fun _ _ _ => False)
    (hCX : ∀ (w : World) (H : Hp) (s : Shared) (e : Value) (s' : Shared), CX w [] H s (fun _ _ _ => False) e s' → False) :
    PySem.W.WalkO q loose XP YP l.row.toRowW d [] (fun f vs => PySem.call f vs) := by
  refine Att.attach_call hn hdf fun w s₀ s₁ mg mb fa o pm cd doc a vs ns G Y ho hd hcd hmg hobj hints hlen hg => ?_
  have KX := hY w _ Y
  obtain ⟨fd, c, Tb, tb, nT, hb, hF⟩ := F w mg fa _ KX G.T.g hmg
  obtain ⟨C, hT⟩ := PySem.W.tab_of G.T KX hrec tb
  exact law_callGT KX G.T.g G.T.b G.T.builtins G.T.nolimit hg hT nT C G.T.bmain hobj hints (Nat.le_trans hlen hn2) hr hF hb (fun H h1 h2 => hsp w H a Tb ns hlen h1 h2) fun H e s' => hCX w H s₁ e s'
end Kb

namespace Kb
open PySem PySem.Spec PyProof.Rows L2
/-! ### a new list, not the table of modules; repr of a list with an empty dict in it -/
def tLstS (ta : TA) : TE := fun σ H Q => ta σ H fun xs H1 => xs.length ≤ sizeLine ∧ ∀ p, H1 p = none → (p == sysModules) = false → Q (.ref p) (upd H1 p (.lst xs))
section
variable {X : Cx}
theorem pe_lstS {es : List Expr} {ta : TA} {pos : Pos} (h : PA X es ta) : PE X (.List es pos) (tLstS ta) := by
  refine ⟨fun pins s σ H Q I hq => ?_⟩
  refine wpAny_List_spliced (thn (h.run pos pins s σ H _ I hq) fun us s1 ⟨xs, H1, I1, r, z, q⟩ => ⟨by rw [← r.length]; exact z, ?_⟩)
  have fr : H1 s1.heap.objs.size = none := I1.hok.fresh (Nat.le_refl _)
  have nm : (s1.heap.objs.size == sysModules) = false := beq_eq_false_iff_ne.mpr (Nat.ne_of_gt I1.big)
  exact ⟨.ref s1.heap.objs.size, upd H1 s1.heap.objs.size (.lst xs), I1.laid (t' := s1.toks) (fun b u e => Heap.get?_push_of_some _ e) (Nat.le_refl _) ⟨z, us, 0, r, Heap.get?_push_size _ rfl⟩, rfl, q _ fr nm⟩
def rReprE (K : PySem.W.Frag) : List V → Hp → VK → Prop := fun xs H Q => rRepr K xs H Q ∨
  ∃ L d : Addr, xs = [.ref L] ∧ H L = some (.lst [.ref d]) ∧ H d = some (.dK []) ∧ (L == sysModules) = false ∧ Q (.str (PyData.list [.dict []]).shown) H
theorem call_reprE (hu : X.A.units + 65 < cLine) (hg : X.A.guards = some []) : CallR X (.builtin "repr") (rReprE X.K) := by
  intro pins s σ H xs us Q I r h
  rcases h with h | ⟨L, d, rfl, hL, hd, nm, q⟩
  · exact call_reprD hu hg pins s σ H xs us Q I r h
  · obtain ⟨u, rfl, r1⟩ := vals1 r
    cases r1
    obtain ⟨_, its, n, hv, eL⟩ := I.hok L _ hL
    obtain ⟨_, sd, vs, kv, dd⟩ := I.hok d _ hd
    have e1 : its = [.ref d] := by
      cases hv with
      | cons a b => cases b; cases a; rfl
    subst e1
    have e2 : vs = [] := by cases kv; rfl
    subst e2
    obtain ⟨o, es, ep, eo, ex, ed, _, hp, _⟩ := dd
    have hes : es.toList = [] := by
      cases h : es.toList with
      | nil => rfl
      | cons x r => rw [h] at hp; cases hp
    have rd : Reads s.heap (.ref L) (.list [.dict []]) (L :: ((d :: [] ++ []) ++ [])) := by
      refine .list eL rfl rfl (.cons (.dict (kvs := []) eo ex.1 ed ?_ ?_) .nil)
      · rw [hes]; exact .nil
      · rw [hes]; exact .nil
    refine repr_of_reads' rd (by simp [PyData.showable, PyData.showableAll, PyData.showableKv]) (fun _ => ?_) hg (by simp [PyData.depth, PyData.depthAll, PyData.depthKv]; omega) (fun _ _ e => e) (fun h' t tk k => ⟨.str _, H, I.kept (t' := tk) k, ⟨t, rfl⟩, q⟩) ?_
    · have n1 : sysModules ≠ L := fun z => by rw [z] at nm; simp at nm
      have n2 : sysModules ≠ d := fun z => by rw [z] at sd; simp at sd
      simp [n1, n2]
    · decide
end
end Kb

namespace Kb
open PySem PySem.Spec PyProof.Rows L2 TL
/-! ### how long the repr of data is -/
mutual
def wtD : PyData → Nat
  | .none => 4
  | .bool _ => 5
  | .int i => (toString i : Str).length
  | .str x => 10 * x.length + 2
  | .list xs => 3 + wtAll xs
  | .tuple xs => 3 + wtAll xs
  | .dict _ => 0
def wtAll : List PyData → Nat
  | [] => 0
  | x :: xs => wtD x + 2 + wtAll xs
end
mutual
def plainD : PyData → Prop
  | .str x => ∀ c ∈ tl x, c < 128
  | .list xs => plainAll xs
  | .tuple xs => plainAll xs
  | .dict _ => False
  | _ => True
def plainAll : List PyData → Prop
  | [] => True
  | x :: xs => plainD x ∧ plainAll xs
end
theorem textFrom_le : ∀ (ts : List Str) (k : Nat) (acc : Str), (textFrom k acc ts).length ≤ acc.length + (ts.map fun t => t.length + 2).sum
  | [], k, acc => by show acc.length ≤ acc.length + 0; omega
  | t :: r, k, acc => by
    show (textFrom (k + 1) (acc ++ (if k > 0 then ", " else "" : String) ++ t) r).length ≤ _
    have ih := textFrom_le r (k + 1) (acc ++ (if k > 0 then ", " else "" : String) ++ t)
    have h2 : ((if k > 0 then ", " else "" : String) : Str).length ≤ 2 := by
      split
      · decide +kernel
      · decide +kernel
    rw [Str.length_append, Str.length_append] at ih
    rw [List.map_cons, List.sum_cons]
    omega
theorem join_le : ∀ ts : List Str, (Str.join ", " ts).length ≤ (ts.map fun t => t.length + 2).sum
  | [] => by show (0 : Nat) ≤ _; omega
  | t :: r => by
    have := join_length_add (t :: r) (by simp)
    have e : piled (t :: r) = ((t :: r).map fun t => t.length + 2).sum := rfl
    omega
mutual
theorem shown_le : ∀ d : PyData, plainD d → d.shown.length ≤ wtD d
  | .none, _ => by decide +kernel
  | .bool b, _ => by cases b <;> decide +kernel
  | .int i, _ => by simp only [PyData.shown, wtD]; exact Nat.le_refl _
  | .str x, h => by
    simp only [PyData.shown, wtD]
    exact PySem.StrLaws.reprText_len x fun c hc => by
      simp only [plainD] at h
      have := h c hc
      omega
  | .list xs, h => by
    simp only [plainD] at h
    simp only [PyData.shown, wtD, listText]
    have a := textFrom_le (PyData.shownAll xs) 0 "["
    have b := shownAll_le xs h
    rw [Str.length_append]
    have c1 : ("[" : Str).length = 1 := by decide +kernel
    have c2 : ("]" : Str).length = 1 := by decide +kernel
    omega
  | .tuple xs, h => by
    simp only [plainD] at h
    simp only [PyData.shown, wtD, tupleText]
    have a := join_le (PyData.shownAll xs)
    have b := shownAll_le xs h
    rw [Str.length_append, Str.length_append]
    have c1 : ("(" : Str).length = 1 := by decide +kernel
    have c2 : ((if (PyData.shownAll xs).length == 1 then ",)" else ")" : String) : Str).length ≤ 2 := by
      split <;> decide +kernel
    omega
  | .dict _, h => by simp only [plainD] at h
theorem shownAll_le : ∀ xs : List PyData, plainAll xs → ((PyData.shownAll xs).map fun t => t.length + 2).sum ≤ wtAll xs
  | [], _ => by simp [PyData.shownAll, wtAll]
  | x :: xs, h => by
    simp only [plainAll] at h
    have a := shown_le x h.1
    have b := shownAll_le xs h.2
    simp only [PyData.shownAll, wtAll, List.map_cons, List.sum_cons]
    omega
end
theorem shown_fits {d : PyData} (h : plainD d) (hw : wtD d ≤ 1000000) : d.shown.length ≤ sizeLine := Nat.le_trans (Nat.le_trans (shown_le d h) hw) (by decide)
end Kb

namespace Kb
open PySem PySem.Spec PyProof.Rows L2 TL
/-! ### what a law that makes lambdas keeps -/
def qLaw : Str := ("law" : Str) ++ ".<locals>." ++ "<lambda>"
/-- the heap's objects but tables stay, the law's table tells lambdas -/
def LamInv (Tb : Addr) (H H' : Hp) : Prop := LamX.ExtN H H' ∧ LamX.TabS H' Tb qLaw
theorem LamInv.same {Tb : Addr} {H H1 H2 : Hp} (h : LamInv Tb H H1) (s : Same H1 H2) : LamInv Tb H H2 := ⟨h.1.trans (.of s), TabS.same h.2 s⟩
theorem LamInv.ext {Tb : Addr} {H H1 H2 : Hp} (h : LamInv Tb H H1) (e : LamX.ExtN H1 H2) (t : LamX.TabS H2 Tb qLaw) : LamInv Tb H H2 := ⟨h.1.trans e, t⟩
/-- nothing but a table may have stood there -/
def FreshN (H : Hp) (d : Addr) : Prop := ∀ o, H d = some o → ∃ ps, o = .tbl ps
theorem FreshN.of {H H1 : Hp} {d : Addr} (e : LamX.ExtN H H1) (h : H1 d = none) : FreshN H d := fun o ho => by
  cases o with
  | tbl ps => exact ⟨ps, rfl⟩
  | _ => exact absurd ((e _ _ ho fun ps z => by cases z).symm.trans h) (by simp)
theorem LamInv.keep {Tb d : Addr} {H H1 H2 : Hp} {n : Nat} (h : LamInv Tb H H1) (k : Keep d H1 H2) (hd : FreshN H d) (D : DrawAt H1 d n) : LamInv Tb H H2 :=
  ⟨fun b o e m => k b o (h.1 b o e m) fun z => by subst z; obtain ⟨ps, q⟩ := hd o e; exact m ps q, TabS.keepD h.2 k D⟩
theorem LamInv.put {Tb p : Addr} {H H1 : Hp} {xs ys : List V} (h : LamInv Tb H H1) (fr : FreshN H p) (hp : H1 p = some (.lst xs)) : LamInv Tb H (upd H1 p (.lst ys)) := by
  refine ⟨fun b o e m => ?_, ?_⟩
  · have : b ≠ p := fun z => by subst z; obtain ⟨ps, q⟩ := fr o e; exact m ps q
    rw [upd_ne this]; exact h.1 b o e m
  · obtain ⟨ps, h1, h2, h3⟩ := h.2
    have n1 : Tb ≠ p := fun z => by rw [z, hp] at h1; cases h1
    refine ⟨ps, (upd_ne n1).trans h1, h2, fun pos cv hc => ?_⟩
    obtain ⟨c, e1, e2⟩ := h3 pos cv hc
    have n2 : c ≠ p := fun z => by rw [z, hp] at e2; unfold LamX.CodeO at e2; cases e2
    exact ⟨c, e1, (upd_ne n2).trans e2⟩
theorem repr_bb {K : PySem.W.Frag} {H : Hp} {p : Addr} {a b : Bool} (h : SqL K H p [V.bl a, V.bl b]) : Dp K H (.ref p) (.list [.bool a, .bool b]) ∧ (PyData.list [.bool a, .bool b]).showable = true ∧ (PyData.list [.bool a, .bool b]).hasDict = false ∧ (PyData.list [.bool a, .bool b]).shown.length ≤ sizeLine ∧ (PyData.list [.bool a, .bool b]).depth ≤ 64 :=
  ⟨.lst h (.cons (.bl _) (.cons (.bl _) .nil)), rfl, rfl, shown_fits (by simp only [plainD, plainAll, and_self]) (by simp only [wtD, wtAll]; cases a <;> cases b <;> decide), by simp [PyData.depth, PyData.depthAll]⟩
theorem ty_ext {K : PySem.W.Frag} {H H' : Hp} {v : V} {t : Value} (s : LamX.ExtN H H') (h : TyX K H v t) : TyX K H' v t := by
  cases h with
  | base h =>
    refine .base ?_
    cases h with
    | non => exact .non
    | bl x => exact .bl x
    | int i => exact .int i
    | str x => exact .str x
    | flt x => exact .flt x
    | lst e => exact .lst (s _ _ e fun ps z => by cases z)
    | frz e => exact .frz (s _ _ e fun ps z => by cases z)
    | tup e => exact .tup (s _ _ e fun ps z => by cases z)
    | dK e => exact .dK (s _ _ e fun ps z => by cases z)
    | dT e => exact .dT (s _ _ e fun ps z => by cases z)
    | ins e cl ha hn htk hm => exact .ins (s _ _ e fun ps z => by cases z) cl ha hn htk hm
  | byt b => exact .byt b
  | set e => exact .set (s _ _ e fun ps z => by cases z)
  | kList e c => exact .kList e c
  | kTuple e c => exact .kTuple e c
  | kDict e c => exact .kDict e c
  | fTuple e => exact .fTuple (s _ _ e fun ps z => by cases z)
  | fDict e => exact .fDict (s _ _ e fun ps z => by cases z)
end Kb

namespace Kb
open PySem PySem.Spec PyProof.Rows L2 TL
/-! ### str of data -/
def textD : PyData → Str
  | .str x => x
  | d => d.shown
def rStrD (K : PySem.W.Frag) : List V → Hp → VK → Prop := fun xs H Q => ∃ x d, xs = [x] ∧ Dp K H x d ∧ d.showable = true ∧ d.hasDict = false ∧ (textD d).length ≤ sizeLine ∧ d.depth ≤ 60 ∧ Q (.str (textD d)) H
section
variable {X : Cx}
theorem call_strD (hu : X.A.units + 65 < cLine) (hg : X.A.guards = some []) : CallR X (.type "str") (rStrD X.K) := by
  intro pins s σ H xs us Q I r ⟨x, d, e, hd, hs, hn, hz, hp, q⟩
  subst e
  obtain ⟨u, rfl, r1⟩ := vals1 r
  obtain ⟨as, rd⟩ := Dp.reads I d x u hd r1
  have ref : ∀ a : Addr, u = .ref a → d.shown.length ≤ sizeLine → Q (.str d.shown) H → wpAny (model X.prog X.w) X.A (call (Value.type "str") [u]) (EP X pins σ Q) X.xe s := fun a e hz q => by
    subst e
    exact str_of_reads rd hs (fun q => by rw [hn] at q; cases q) hg (by omega) (fun _ _ e => e) (fun h' t tk k => ⟨.str d.shown, H, I.kept (t' := tk) k, ⟨t, rfl⟩, q⟩) hz
  cases rd with
  | none => exact PySem.P.str_of_none ⟨.str "None", H, I.tok _, ⟨_, rfl⟩, q⟩
  | bool b => exact PySem.P.str_of_bool ⟨.str (if b then "True" else "False"), H, I.tok _, ⟨_, rfl⟩, q⟩
  | int i t => exact PySem.P.str_of_int (by simpa [PyData.showable] using hs) ⟨.str (toString i), H, I.tok _, ⟨_, rfl⟩, q⟩
  | str y t => exact PySem.P.str_of_str ⟨.str y, H, I, ⟨_, rfl⟩, q⟩
  | list h1 h2 h3 h4 => exact ref _ rfl hz q
  | tuple h1 h2 h3 h4 => exact ref _ rfl hz q
  | dict h1 h2 h3 h4 h5 => exact ref _ rfl hz q
end
end Kb
namespace Kb
open PySem PySem.Spec PyProof.Rows L2 TL
mutual
theorem Dp.ext {K : PySem.W.Frag} {H H' : Hp} (e : LamX.ExtN H H') : ∀ {v : V} {d : PyData}, Dp K H v d → Dp K H' v d
  | _, _, .non => .non
  | _, _, .bl b => .bl b
  | _, _, .int i => .int i
  | _, _, .str x => .str x
  | _, _, .lst s a => .lst (Kb.ExtN.seqL e s) (DpAll.ext e a)
  | _, _, .tup s a => .tup (Kb.ExtN.seqT e s) (DpAll.ext e a)
theorem DpAll.ext {K : PySem.W.Frag} {H H' : Hp} (e : LamX.ExtN H H') : ∀ {vs : List V} {ds : List PyData}, DpAll K H vs ds → DpAll K H' vs ds
  | _, _, .nil => .nil
  | _, _, .cons a b => .cons (Dp.ext e a) (DpAll.ext e b)
end
theorem Dp.same {K : PySem.W.Frag} {H H' : Hp} {v : V} {d : PyData} (h : Dp K H v d) (s : Same H H') : Dp K H' v d := Dp.ext (.of s) h
/-! ### the repr of plain data is plain -/
theorem repr_lt : ∀ c, c < 128 → (Builtin.Str.reprChar 39 c).all (· < 128) = true ∧ (Builtin.Str.reprChar 34 c).all (· < 128) = true := by decide +kernel
theorem foldl_lt (q : Nat) (hq : q = 39 ∨ q = 34) : ∀ (l : List Nat) (acc : Array Nat), (∀ c ∈ l, c < 128) → (∀ c ∈ acc.toList, c < 128) → ∀ c ∈ (l.foldl (fun out c => out ++ (Builtin.Str.reprChar q c).toArray) acc).toList, c < 128
  | [], acc, _, h => h
  | x :: l, acc, hl, h => by
    refine foldl_lt q hq l _ (fun c hc => hl c (List.mem_cons_of_mem _ hc)) fun c hc => ?_
    rw [Array.toList_append] at hc
    rcases List.mem_append.mp hc with z | z
    · exact h c z
    · obtain ⟨h1, h2⟩ := repr_lt x (hl x (List.mem_cons_self ..))
      rcases hq with rfl | rfl
      · exact of_decide_eq_true (List.all_eq_true.mp h1 c (by simpa using z))
      · exact of_decide_eq_true (List.all_eq_true.mp h2 c (by simpa using z))
theorem quote_is (x : Str) : reprQuote x = 39 ∨ reprQuote x = 34 := by
  unfold reprQuote
  split
  · exact .inr rfl
  · exact .inl rfl
theorem ascii_repr {x : Str} (h : ascii x) : ascii (reprText x) := by
  have hq := quote_is x
  intro c hc
  unfold reprText at hc
  have hc : c ∈ ((x.cps.foldl (fun out c => out ++ (Builtin.Str.reprChar (reprQuote x) c).toArray) #[reprQuote x]).push (reprQuote x)).toList := hc
  rw [Array.toList_push, ← Array.foldl_toList] at hc
  have q128 : reprQuote x < 128 := by rcases hq with e | e <;> rw [e] <;> decide
  rcases List.mem_append.mp hc with z | z
  · exact foldl_lt _ hq _ _ h (fun d hd => by rw [List.mem_singleton.mp (show d ∈ [reprQuote x] from hd)]; exact q128) c z
  · rw [List.mem_singleton.mp z]; exact q128
theorem ascii_textFrom : ∀ (ts : List Str) (k : Nat) (acc : Str), ascii acc → (∀ t ∈ ts, ascii t) → ascii (textFrom k acc ts)
  | [], k, acc, h, _ => h
  | t :: r, k, acc, h, ht => by
    show ascii (textFrom (k + 1) (acc ++ (if k > 0 then ", " else "" : String) ++ t) r)
    refine ascii_textFrom r _ _ ((h.app ?_).app (ht t (List.mem_cons_self ..))) fun x hx => ht x (List.mem_cons_of_mem _ hx)
    split
    · exact ascii_lit (by decide +kernel)
    · exact ascii_lit (by decide +kernel)
theorem ascii_listText {ts : List Str} (h : ∀ t ∈ ts, ascii t) : ascii (listText ts) := by
  unfold listText
  exact (ascii_textFrom ts 0 _ (ascii_lit (by decide +kernel)) h).app (ascii_lit (by decide +kernel))
theorem ascii_sjoin {sep : Str} (hs : ascii sep) : ∀ ts : List Str, (∀ t ∈ ts, ascii t) → ascii (Str.join sep ts)
  | [], _ => by unfold Str.join; exact ascii_lit (by decide +kernel)
  | [x], h => by unfold Str.join; exact h x (List.mem_cons_self ..)
  | x :: y :: r, h => by
    unfold Str.join
    exact ((h x (List.mem_cons_self ..)).app hs).app (ascii_sjoin hs (y :: r) fun t ht => h t (List.mem_cons_of_mem _ ht))
theorem ascii_tupleText {ts : List Str} (h : ∀ t ∈ ts, ascii t) : ascii (tupleText ts) := by
  unfold tupleText
  refine ((ascii_lit (by decide +kernel)).app (ascii_sjoin (ascii_lit (by decide +kernel)) ts h)).app ?_
  split
  · exact ascii_lit (by decide +kernel)
  · exact ascii_lit (by decide +kernel)
/-- data whose repr and str can be told -/
structure OkD (d : PyData) : Prop where
  s : d.showable = true
  n : d.hasDict = false
  p : plainD d
  w : wtD d ≤ 5000
  z : d.depth ≤ 10
  l : d.canLay0 = true
  a : ascii d.shown
def DatV (K : PySem.W.Frag) (H : Hp) (v : V) : Prop := ∃ d, OkD d ∧ Dp K H v d
theorem OkD.shown {d : PyData} (h : OkD d) : d.shown.length ≤ sizeLine := shown_fits h.p (Nat.le_trans h.w (by decide))
theorem OkD.shaped {d : PyData} (h : OkD d) : SeqAt.shaped d = true := by
  unfold SeqAt.shaped
  rw [h.l, decide_eq_true (Nat.le_trans h.z (by decide))]; rfl
theorem OkD.str {x : Str} (h : ascii x) (hl : x.length ≤ 400) : OkD (.str x) := ⟨rfl, rfl, by simp only [plainD]; exact h, by simp only [wtD]; omega, by simp [PyData.depth], lay_str h, by simp only [PyData.shown]; exact ascii_repr h⟩
theorem OkD.non : OkD .none := ⟨rfl, rfl, trivial, by decide, by decide, by decide, ascii_lit (by decide +kernel)⟩
theorem OkD.bool (b : Bool) : OkD (.bool b) := ⟨rfl, rfl, trivial, by cases b <;> decide, by cases b <;> decide, by cases b <;> decide, by cases b <;> exact ascii_lit (by decide +kernel)⟩
theorem OkD.five : OkD (.int 5) := ⟨by decide +kernel, rfl, trivial, by decide +kernel, by decide, by decide +kernel, ascii_lit (by decide +kernel)⟩
end Kb
namespace Kb
open PySem PySem.Spec PyProof.Rows L2 TL
/-- data of moderate size -/
structure SmD (d : PyData) : Prop where
  o : OkD d
  w : wtD d ≤ 900
  z : d.depth ≤ 4
theorem sm_all : ∀ ds : List PyData, (∀ d ∈ ds, SmD d) → PyData.showableAll ds = true ∧ PyData.hasDictAll ds = false ∧ plainAll ds ∧ wtAll ds ≤ 902 * ds.length ∧ PyData.depthAll ds ≤ 4 ∧ PyData.canLayAll0 ds = true ∧ ∀ t ∈ PyData.shownAll ds, ascii t
  | [], _ => by simp [PyData.showableAll, PyData.hasDictAll, plainAll, wtAll, PyData.depthAll, PyData.canLayAll0, PyData.shownAll]
  | d :: ds, h => by
    obtain ⟨a, b, c⟩ := h d (List.mem_cons_self ..)
    obtain ⟨i1, i2, i3, i4, i5, i6, i7⟩ := sm_all ds fun x hx => h x (List.mem_cons_of_mem _ hx)
    refine ⟨by simp [PyData.showableAll, a.s, i1], by simp [PyData.hasDictAll, a.n, i2], by simp only [plainAll]; exact ⟨a.p, i3⟩, ?_, ?_, by simp [PyData.canLayAll0, a.l, i6], fun t ht => ?_⟩
    · simp only [wtAll, List.length_cons]; omega
    · simp only [PyData.depthAll]; omega
    · simp only [PyData.shownAll] at ht
      rcases List.mem_cons.mp ht with rfl | q
      · exact a.a
      · exact i7 t q
theorem SmD.list {ds : List PyData} (h : ∀ d ∈ ds, SmD d) (hl : ds.length ≤ 5) : OkD (.list ds) := by
  obtain ⟨i1, i2, i3, i4, i5, i6, i7⟩ := sm_all ds h
  exact ⟨by simp [PyData.showable, i1], by simp [PyData.hasDict, i2], by simp only [plainD]; exact i3, by simp only [wtD]; omega, by simp only [PyData.depth]; omega, by simp [PyData.canLay0, i6], by simp only [PyData.shown]; exact ascii_listText i7⟩
theorem SmD.tuple {ds : List PyData} (h : ∀ d ∈ ds, SmD d) (hl : ds.length ≤ 5) : OkD (.tuple ds) := by
  obtain ⟨i1, i2, i3, i4, i5, i6, i7⟩ := sm_all ds h
  exact ⟨by simp [PyData.showable, i1], by simp [PyData.hasDict, i2], by simp only [plainD]; exact i3, by simp only [wtD]; omega, by simp only [PyData.depth]; omega, by simp [PyData.canLay0, i6], by simp only [PyData.shown]; exact ascii_tupleText i7⟩
theorem SmD.str {x : Str} (h : ascii x) (hl : x.length ≤ 60) : SmD (.str x) := ⟨OkD.str h (by omega), by simp only [wtD]; omega, by simp [PyData.depth]⟩
theorem SmD.non : SmD .none := ⟨OkD.non, by decide, by decide⟩
/-- a tuple of texts and nothing else -/
theorem shaped_pair {x y : Str} (hx : ascii x) (hy : ascii y) : SeqAt.shaped (.tuple [.str x, .str y]) = true := by
  have h1 := lay_str hx
  have h2 := lay_str hy
  simp only [PyData.canLay0] at h1 h2
  simp [SeqAt.shaped, PyData.canLay0, PyData.canLayAll0, PyData.depth, PyData.depthAll, h1, h2]
theorem SmD.all1 {a : PyData} (ha : SmD a) : ∀ d ∈ [a], SmD d := fun d hd => by rw [List.mem_singleton.mp hd]; exact ha
theorem SmD.all2 {a b : PyData} (ha : SmD a) (hb : SmD b) : ∀ d ∈ [a, b], SmD d := fun d hd => by
  simp only [List.mem_cons, List.not_mem_nil, or_false] at hd
  rcases hd with rfl | rfl
  · exact ha
  · exact hb
theorem SmD.all3 {a b c : PyData} (ha : SmD a) (hb : SmD b) (hc : SmD c) : ∀ d ∈ [a, b, c], SmD d := fun d hd => by
  simp only [List.mem_cons, List.not_mem_nil, or_false] at hd
  rcases hd with rfl | rfl | rfl
  · exact ha
  · exact hb
  · exact hc
end Kb
namespace Kb
open PySem PySem.Spec PyProof.Rows L2 TL
theorem shaped_all : ∀ ds : List PyData, (∀ d ∈ ds, d.canLay0 = true ∧ d.depth ≤ 60) → PyData.canLayAll0 ds = true ∧ PyData.depthAll ds ≤ 60
  | [], _ => by simp [PyData.canLayAll0, PyData.depthAll]
  | a :: r, h => by
    obtain ⟨h1, h2⟩ := h a (List.mem_cons_self ..)
    obtain ⟨h3, h4⟩ := shaped_all r fun d hd => h d (List.mem_cons_of_mem _ hd)
    exact ⟨by simp [PyData.canLayAll0, h1, h3], by simp only [PyData.depthAll]; omega⟩
theorem shaped_list {ds : List PyData} (h : ∀ d ∈ ds, d.canLay0 = true ∧ d.depth ≤ 60) : SeqAt.shaped (.list ds) = true := by
  obtain ⟨h1, h2⟩ := shaped_all ds h
  unfold SeqAt.shaped
  simp only [PyData.canLay0, PyData.depth, h1, Bool.true_and]
  exact decide_eq_true (by omega)
theorem shaped_tuple {ds : List PyData} (h : ∀ d ∈ ds, d.canLay0 = true ∧ d.depth ≤ 60) : SeqAt.shaped (.tuple ds) = true := by
  obtain ⟨h1, h2⟩ := shaped_all ds h
  unfold SeqAt.shaped
  simp only [PyData.canLay0, PyData.depth, h1, Bool.true_and]
  exact decide_eq_true (by omega)
theorem eqv_same {d : PyData} (h : SeqAt.shaped d = true) : PyData.eqv d d = true := SeqAt.eqv_refl _ (SeqAt.canLay_of_shaped h)
end Kb
namespace Kb
open PySem PySem.Spec PyProof.Rows L2 TL
theorem OkD.text {d : PyData} (h : OkD d) : (textD d).length ≤ 5000 := by
  have a := shown_le d h.p
  have b := h.w
  cases d with
  | str x => simp only [wtD] at b; show x.length ≤ 5000; omega
  | none => exact Nat.le_trans a b
  | bool _ => exact Nat.le_trans a b
  | int _ => exact Nat.le_trans a b
  | list _ => exact Nat.le_trans a b
  | tuple _ => exact Nat.le_trans a b
  | dict _ => exact Nat.le_trans a b
end Kb

namespace Kb
open PySem PySem.Spec PyProof.Rows L2
/-! ### several clauses «except C as e», one name for all -/
abbrev Clause := Value × (Addr → Value → Option Addr → TS)
def wMas (K : PySem.W.Frag) (i : Nat) (Wout : WX) (D : Ends) : List Clause → WX
  | [] => Wout
  | q :: r => wAs K q.1 i q.2 (wMas K i Wout D r) D
inductive AsOk (X : Cx) (n : Str) : List ExceptHandler → List Clause → Prop
  | nil : AsOk X n [] []
  | cons {x : Str} {c : Value} {ts : Addr → Value → Option Addr → TS} {st : Stmt} {more : List Stmt} {np hp : Pos} {hds : List ExceptHandler} {l : List Clause} (hc : Names X x c)
      (hsu : ∀ (a : Addr) (oe : Obj) (cls : Value) (d : Option Addr) (pn : List (Addr × Obj)), Zc cls d oe → (∃ vs, oe.data = .fields vs) → PSs (X.suite a ((a, oe) :: pn)) (st :: more) (ts a cls d)) (r : AsOk X n hds l) :
      AsOk X n (.ExceptHandler (some (.Name x np)) (some n) (st :: more) hp :: hds) ((c, ts) :: l)
section
variable {X : Cx}
theorem ps_try_mas {n : Str} {i : Nat} {body : List Stmt} {h0 : ExceptHandler} {hds : List ExceptHandler} {l : List Clause} {pos : Pos} {tb : WX → TS} {Wout : WX} (hs : X.stack = X.env :: X.outer) (hf : X.env.frame = some X.env.locals) (hN : X.N.Nodup) (hi : X.N[i]? = some n) (hln : X.env.kindOf n = some .local)
    (tk : Takes X Wout) (hb : ∀ (W : WX) (pn : List (Addr × Obj)) (xe : Value → Shared → Prop), Takes (X.tr pn xe) W → PassesOwn (model X.prog X.w) X.A X.env xe → PSs (X.tr pn xe) body (tb W)) (hh : AsOk X n (h0 :: hds) l) :
    PS X (.Try body (h0 :: hds) [] [] pos) (fun D σ H => tb (wMas X.K i Wout D l) D σ H) := by
  refine ⟨fun pins s σ H D I h => wpAny_Try_except ?_⟩
  have ok := I.ok
  have fr0 : X.A.frames = some (X.env :: X.outer) := ok.frames.trans (congrArg some hs)
  refine wpAny_mono ((hb (wMas X.K i Wout D l) (X.pn ++ pins) (fun e s1 => wpAny (model X.prog X.w) X.A (noteFrame e X.env) (fun _ s2 => wpAny (model X.prog X.w) X.A (setFlight e none) (fun _ s3 =>
    wpAny (model X.prog X.w) X.A (handleBy e X.env (h0 :: hds)) (SP X pins D) X.xe s3) X.xe s2) X.xe s1) (fun u s' y => ?_) PassesOwn.looking).run [] s σ H D (I.toTry _) h) (fun f s1 q => ?_) (fun e s1 z => z)
  · obtain ⟨a, B, sI, pins', τ, G, cls, d, rfl, J0, nb, up, sky, na, os, ag, w⟩ := y
    have J : Inv X pins τ G sI := J0.ofTry ok
    have sky : Sky B (X.env :: X.outer) a (Zc cls d) X.env.locals s'.heap := hs ▸ sky
    show wpAny (model X.prog X.w) X.A (noteFrame (.ref a) X.env) _ _ _
    refine Sky.land Zc.steady fr0 hf sky fun h3 fl up3 => ?_
    have J3 : Inv X pins τ G { s' with heap := h3 } := J.landed nb fl.1 (up.trans up3) os ag
    obtain ⟨oe, vs, ea, ez, ed⟩ := fl.there
    have nfr : a ∉ frs (X.env :: X.outer) := fun hm => by
      obtain ⟨_, o', e', hnf⟩ := fl.2.2.1.mem hm
      rw [ea] at e'
      cases e'
      exact hnf _ ed
    have nL : a ≠ X.env.locals := fun z => nfr (List.mem_filterMap.mpr ⟨X.env, List.mem_cons_self, by rw [hf, z]⟩)
    have nF : a ∉ X.fs := fun hm => by
      obtain ⟨e, he, q⟩ := List.mem_filterMap.mp hm
      exact nfr (List.mem_filterMap.mpr ⟨e, .tail _ he, q⟩)
    have S3 := J3.suite ea ed na nL nF
    have go : ∀ {hs' : List ExceptHandler} {l' : List Clause}, AsOk X n hs' l' → wMas X.K i Wout D l' cls d τ G → wpAny (model X.prog X.w) X.A (handleBy (.ref a) X.env hs') (SP X pins D) X.xe { s' with heap := h3 } := by
      intro hs' l' hk
      induction hk with
      | nil =>
        intro w
        refine wpAny_handleBy_nil ?_
        obtain ⟨_, _, _, oe, vs, T, _, _, he, _, hd, h1, _⟩ := id fl
        unfold PySem.passOn
        refine wpAny_bind (wpAny_field he hd h1 ?_)
        rw [if_neg (show ¬ ((Value.ref T == Value.none) = true) by simp)]
        have fin : wpAny (model X.prog X.w) X.A (setFlight (.ref a) X.env.frame) (fun _ s4 => wpAny (model X.prog X.w) X.A (throw (.ref a) : Sem Flow) (SP X pins D) X.xe s4) X.xe { s' with heap := h3 } := by
          rw [hf]
          refine HandSPX.setFlight_upZ fl fun h4 hh4 up4 => wpAny_throw (tk _ _ ⟨a, B, sI, pins, τ, G, cls, d, rfl, J, nb, (up.trans up3).trans up4, .inr (.inr (by rw [hs]; exact hh4)), na, os, ag, w⟩)
        first
          | exact wpAny_bind (wpAny_pure (wpAny_bind fin))
          | exact wpAny_bind fin
      | @cons x c ts st more np hp hds2 l2 hc hsu r ih =>
        intro w
        obtain ⟨b, eb, yes, no⟩ := w
        refine wpAny_handleBy_cons (codeAny_handlers_test ?_) (fun q => nomatch q)
        have LT : PySem.W.Looks (model X.prog X.w) h3 (typeOf (.ref a)) cls := fun A Q E s k q => wpAny_typeOf_ref (k _ _ ea) (by rw [ez.1]; exact q)
        have LM := PySem.W.exm_one (M := model X.prog X.w) (J3.kIn) LT eb
        have test : ∀ {Q : Value → Shared → Prop} {E : Value → Shared → Prop}, Q c { s' with heap := h3 } → wpAny (model X.prog X.w) (X.A.mark (some (.ref a))) (eval (.Name x np) X.env) Q E { s' with heap := h3 } := fun {Q E} q => by
          obtain ⟨hg, hdb, hm | ⟨hm, hv, hnn⟩⟩ := hc
          · exact ld_glob (X := X.suite a ((a, oe) :: (X.pn ++ pins))) S3 hg hm q hdb
          · exact ld_blt (X := X.suite a ((a, oe) :: (X.pn ++ pins))) S3 hg hm hv q hnn hdb
        refine test (LM.here ?_)
        cases b with
        | false => exact ih (no rfl)
        | true =>
          refine codeAny_handlers_suite_as (HandSPX.lands_againZ fl fun h4 fl4 up4 => ?_)
          have J4 : Inv X pins τ G { s' with heap := h4 } := J.landed nb fl4.1 ((up.trans up3).trans up4) os ag
          obtain ⟨o4, v4, e4, z4, d4⟩ := fl4.there
          refine store_ok (X := X.suite a ((a, o4) :: (X.pn ++ pins))) (v := .ref a) (J4.suite e4 d4 na nL nF) hN hi (.inl hln) rfl (fun s5 S5 => ?_) (.inr hln)
          refine wpAny_mono ((hsu a o4 cls d (X.pn ++ pins) z4 ⟨_, d4⟩).run [] s5 _ G _ S5 (yes rfl a na)) (fun f s6 q => ?_) (fun _ _ z => z.elim)
          have gone : ∀ {σ6 : L2.St} {H6 : Hp} {Q : Shared → Prop}, Inv (X.suite a ((a, o4) :: (X.pn ++ pins))) [] σ6 H6 s6 → (∀ s7, Inv X pins (σ6.set i none) H6 s7 → Q s7) →
              wpAny (model X.prog X.w) X.A (do bindName X.env n .none; unbindBehindTheSuite X.env n hp) (fun _ s7 => Q s7) X.xe s6 := fun {σ6 H6 Q} S6 hq => gone_ok (S6.unsuite ok) hN hi hln hq
          match f, q with
          | .next, ⟨_, _, S6, q6⟩ => exact gone S6 fun s7 J7 => ⟨_, _, J7, q6⟩
          | .brk, ⟨_, _, S6, q6⟩ => exact gone S6 fun s7 J7 => ⟨_, _, J7, q6⟩
          | .cont, ⟨_, _, S6, q6⟩ => exact gone S6 fun s7 J7 => ⟨_, _, J7, q6⟩
          | .ret u, ⟨_, _, _, S6, r6, q6⟩ => exact gone S6 fun s7 J7 => ⟨_, _, _, J7, r6, q6⟩
    exact go hh w
  · match f, q with
    | .next, ⟨_, _, J1, q⟩ => exact wpAny_execs_nil ⟨_, _, J1.ofTry ok, q⟩
    | .brk, ⟨_, _, J1, q⟩ => exact ⟨_, _, J1.ofTry ok, q⟩
    | .cont, ⟨_, _, J1, q⟩ => exact ⟨_, _, J1.ofTry ok, q⟩
    | .ret u, ⟨_, _, _, J1, r, q⟩ => exact ⟨_, _, _, J1.ofTry ok, r, q⟩
end
end Kb
namespace Kb
open PySem PySem.Spec PyProof.Rows L2
theorem exm_other {K : PySem.W.Frag} {S T : Addr} (h1 : PySem.W.subIn K (.ref T) (.type "BaseException") = some true) (h2 : PySem.W.isClsIn K T = true) (h3 : PySem.W.typeIn K (.ref T) = some (.type "type")) (h4 : PySem.W.subIn K (.ref S) (.ref T) = some false) :
    PySem.W.exmOne K (.ref S) (.ref T) = some false := by
  unfold PySem.W.isClsIn at h2
  unfold PySem.W.exmOne
  simp only [h1]
  unfold PySem.W.kitCls
  simp [h2, h3, h4]
end Kb

namespace Kb
open PySem PySem.Spec PyProof.Rows L2 TL
/-! ### data whose repr is told, by weight and depth -/
structure RpD (d : PyData) (B k : Nat) : Prop where
  s : d.showable = true
  n : d.hasDict = false
  p : plainD d
  w : wtD d ≤ B
  z : d.depth ≤ k
theorem RpD.mono {d : PyData} {B k B' k' : Nat} (h : RpD d B k) (hB : B ≤ B') (hk : k ≤ k') : RpD d B' k' := ⟨h.s, h.n, h.p, Nat.le_trans h.w hB, Nat.le_trans h.z hk⟩
theorem RpD.str {x : Str} {m : Nat} (h : ascii x) (hl : x.length ≤ m) : RpD (.str x) (10 * m + 2) 0 := ⟨rfl, rfl, by simp only [plainD]; exact h, by simp only [wtD]; omega, by simp [PyData.depth]⟩
theorem RpD.non : RpD .none 4 0 := ⟨rfl, rfl, trivial, by simp [wtD], by simp [PyData.depth]⟩
theorem RpD.bool (b : Bool) : RpD (.bool b) 5 0 := ⟨rfl, rfl, trivial, by simp [wtD], by simp [PyData.depth]⟩
theorem rp_all {B k : Nat} : ∀ ds : List PyData, (∀ d ∈ ds, RpD d B k) → PyData.showableAll ds = true ∧ PyData.hasDictAll ds = false ∧ plainAll ds ∧ wtAll ds ≤ (B + 2) * ds.length ∧ PyData.depthAll ds ≤ k
  | [], _ => by simp [PyData.showableAll, PyData.hasDictAll, plainAll, wtAll, PyData.depthAll]
  | d :: ds, h => by
    have a := h d (List.mem_cons_self ..)
    obtain ⟨i1, i2, i3, i4, i5⟩ := rp_all ds fun x hx => h x (List.mem_cons_of_mem _ hx)
    refine ⟨by simp [PyData.showableAll, a.s, i1], by simp [PyData.hasDictAll, a.n, i2], by simp only [plainAll]; exact ⟨a.p, i3⟩, ?_, ?_⟩
    · have := a.w
      simp only [wtAll, List.length_cons]
      rw [Nat.mul_succ]
      omega
    · have := a.z
      simp only [PyData.depthAll]; omega
theorem RpD.list {B k m : Nat} {ds : List PyData} (h : ∀ d ∈ ds, RpD d B k) (hl : ds.length ≤ m) : RpD (.list ds) (3 + (B + 2) * m) (k + 1) := by
  obtain ⟨i1, i2, i3, i4, i5⟩ := rp_all ds h
  have : (B + 2) * ds.length ≤ (B + 2) * m := Nat.mul_le_mul_left _ hl
  exact ⟨by simp [PyData.showable, i1], by simp [PyData.hasDict, i2], by simp only [plainD]; exact i3, by simp only [wtD]; omega, by simp only [PyData.depth]; omega⟩
theorem RpD.tuple {B k m : Nat} {ds : List PyData} (h : ∀ d ∈ ds, RpD d B k) (hl : ds.length ≤ m) : RpD (.tuple ds) (3 + (B + 2) * m) (k + 1) := by
  obtain ⟨i1, i2, i3, i4, i5⟩ := rp_all ds h
  have : (B + 2) * ds.length ≤ (B + 2) * m := Nat.mul_le_mul_left _ hl
  exact ⟨by simp [PyData.showable, i1], by simp [PyData.hasDict, i2], by simp only [plainD]; exact i3, by simp only [wtD]; omega, by simp only [PyData.depth]; omega⟩
theorem RpD.shown {d : PyData} {B k : Nat} (h : RpD d B k) (hB : B ≤ 1000000) : d.shown.length ≤ sizeLine := shown_fits h.p (Nat.le_trans h.w hB)
/-- what the rule of repr asks -/
theorem RpD.repr {K : PySem.W.Frag} {H : Hp} {x : V} {d : PyData} {B k : Nat} {Q : VK} (h : RpD d B k) (hB : B ≤ 1000000) (hk : k ≤ 64) (hd : Dp K H x d) (q : Q (.str d.shown) H) : rRepr K [x] H Q :=
  ⟨x, d, rfl, hd, h.s, h.n, h.shown hB, Nat.le_trans h.z hk, q⟩
end Kb

namespace Pf
open PySem PySem.Spec PyProof.Rows L2 TL Kb
def top (i : Nat) : Stmt := PySem.Challenge.pw_crumbjar_k21_lines_made.main.body.getD i (.Pass ⟨0, 0, 0, 0⟩)
def mth : Stmt → Nat → Stmt
  | .ClassDef _ _ _ body _ _ _ _ _ _ _, j => body.getD j (.Pass ⟨0, 0, 0, 0⟩)
  | s, _ => s
def clsInit : Stmt → Stmt
  | .ClassDef _ _ _ body _ _ _ _ _ _ _ => body.getD 0 (.Pass ⟨0, 0, 0, 0⟩)
  | s => s
abbrev si_BadLine : Stmt := clsInit (top 2)
theorem sci_BadLine : FnScope ["self", "field"] ["self", "field"] (defScope si_BadLine) := ⟨rfl, rfl, rfl, by decide +kernel, rfl, by decide +kernel, by decide +kernel⟩
theorem oki_BadLine {K : PySem.W.Frag} {mg : Str → Option Value} {C fI : Addr} {fd : FuncData} (P : Program) (w : World) (base : Heap) (F : Fun K "__init__" "BadLine.__init__" si_BadLine fI fd) : FnOk P w K mg base CX0 1 fI fd ["self", "field"] (spInit K C "field") := by
  refine F.ok sci_BadLine (fun vs H Q E h => ?_) (fun cdv A outer s H vs Q E hr h => ?_)
  · obtain ⟨_, _, rfl, _⟩ := h; rfl
  · refine ⟨_, pss_one (ps_ost (pv 0) (pv 1)), ?_⟩
    obtain ⟨a, v, rfl, ha, T, no, hQ⟩ := h
    exact ⟨_, rfl, _, rfl, a, C, rfl, T, no, .inl ⟨ha, fun dx h1 h2 => hQ dx h1 h2⟩⟩
theorem bi_BadLine : ∀ (kV doc pm : Value) (an : Option Addr) (cdv ct : Value) (us : List Value), us.length = (["self", "field"] : List Str).length → bindArgs (PySem.W.fnOf "__init__" "BadLine.__init__" (defArgs si_BadLine) (defBody si_BadLine) (defScope si_BadLine) .none kV doc pm an cdv ct) ⟨us, []⟩ = pure ((["self", "field"] : List Str).zip us) :=
  fun _ _ _ _ _ _ us hl => match us, hl with | [_, _], _ => rfl
abbrev s_is_integer : Stmt := top 6
theorem sc_is_integer : FnScope ["value"] ["value"] (defScope s_is_integer) := ⟨rfl, rfl, rfl, by decide +kernel, rfl, by decide +kernel, by decide +kernel⟩
abbrev s_is_tick : Stmt := top 7
theorem sc_is_tick : FnScope ["value"] ["value"] (defScope s_is_tick) := ⟨rfl, rfl, rfl, by decide +kernel, rfl, by decide +kernel, by decide +kernel⟩
abbrev s_has_only : Stmt := top 8
theorem sc_has_only : FnScope ["text", "signs"] ["text", "signs"] (defScope s_has_only) := ⟨rfl, rfl, rfl, by decide +kernel, rfl, by decide +kernel, by decide +kernel⟩
abbrev s_is_digits : Stmt := top 9
theorem sc_is_digits : FnScope ["text"] ["text"] (defScope s_is_digits) := ⟨rfl, rfl, rfl, by decide +kernel, rfl, by decide +kernel, by decide +kernel⟩
abbrev s__is_label : Stmt := top 18
theorem sc__is_label : FnScope ["text"] ["text"] (defScope s__is_label) := ⟨rfl, rfl, rfl, by decide +kernel, rfl, by decide +kernel, by decide +kernel⟩
abbrev s_are_labels : Stmt := top 17
theorem sc_are_labels : FnScope ["texts", "text"] ["texts"] (defScope s_are_labels) := ⟨rfl, rfl, rfl, by decide +kernel, rfl, by decide +kernel, by decide +kernel⟩
abbrev s__is_number : Stmt := top 20
theorem sc__is_number : FnScope ["label"] ["label"] (defScope s__is_number) := ⟨rfl, rfl, rfl, by decide +kernel, rfl, by decide +kernel, by decide +kernel⟩
abbrev s__are_four_numbers : Stmt := top 19
theorem sc__are_four_numbers : FnScope ["labels", "label"] ["labels"] (defScope s__are_four_numbers) := ⟨rfl, rfl, rfl, by decide +kernel, rfl, by decide +kernel, by decide +kernel⟩
abbrev s_is_host : Stmt := top 16
theorem sc_is_host : FnScope ["value", "labels"] ["value"] (defScope s_is_host) := ⟨rfl, rfl, rfl, by decide +kernel, rfl, by decide +kernel, by decide +kernel⟩
abbrev s__is_path_sign : Stmt := top 26
theorem sc__is_path_sign : FnScope ["sign"] ["sign"] (defScope s__is_path_sign) := ⟨rfl, rfl, rfl, by decide +kernel, rfl, by decide +kernel, by decide +kernel⟩
abbrev s_is_path : Stmt := top 25
theorem sc_is_path : FnScope ["value", "sign"] ["value"] (defScope s_is_path) := ⟨rfl, rfl, rfl, by decide +kernel, rfl, by decide +kernel, by decide +kernel⟩
abbrev s__is_from_0 : Stmt := top 37
theorem sc__is_from_0 : FnScope ["value", "most"] ["value", "most"] (defScope s__is_from_0) := ⟨rfl, rfl, rfl, by decide +kernel, rfl, by decide +kernel, by decide +kernel⟩
abbrev s_is_trimmed : Stmt := top 32
theorem sc_is_trimmed : FnScope ["text"] ["text"] (defScope s_is_trimmed) := ⟨rfl, rfl, rfl, by decide +kernel, rfl, by decide +kernel, by decide +kernel⟩
abbrev s__has_control : Stmt := top 41
theorem sc__has_control : FnScope ["text", "sign"] ["text"] (defScope s__has_control) := ⟨rfl, rfl, rfl, by decide +kernel, rfl, by decide +kernel, by decide +kernel⟩
abbrev s__is_part : Stmt := top 40
theorem sc__is_part : FnScope ["value"] ["value"] (defScope s__is_part) := ⟨rfl, rfl, rfl, by decide +kernel, rfl, by decide +kernel, by decide +kernel⟩
abbrev s__is_name : Stmt := top 38
theorem sc__is_name : FnScope ["value"] ["value"] (defScope s__is_name) := ⟨rfl, rfl, rfl, by decide +kernel, rfl, by decide +kernel, by decide +kernel⟩
abbrev s__is_value : Stmt := top 39
theorem sc__is_value : FnScope ["value", "name"] ["value", "name"] (defScope s__is_value) := ⟨rfl, rfl, rfl, by decide +kernel, rfl, by decide +kernel, by decide +kernel⟩
abbrev s_Line__init : Stmt := mth (top 35) 0
theorem sc_Line__init : FnScope ["self", "name", "value", "expires", "age", "domain", "path", "is_secure", "is_hidden", "same", "is_partitioned", "priority", "field", "is_right"] ["self", "name", "value", "expires", "age", "domain", "path", "is_secure", "is_hidden", "same", "is_partitioned", "priority"] (defScope s_Line__init) := ⟨rfl, rfl, rfl, by decide +kernel, rfl, by decide +kernel, by decide +kernel⟩
abbrev s__parts_of : Stmt := top 36
theorem sc__parts_of : FnScope ["line"] ["line"] (defScope s__parts_of) := ⟨rfl, rfl, rfl, by decide +kernel, rfl, by decide +kernel, by decide +kernel⟩
abbrev s_Line__eq : Stmt := mth (top 35) 1
theorem sc_Line__eq : FnScope ["self", "other"] ["self", "other"] (defScope s_Line__eq) := ⟨rfl, rfl, rfl, by decide +kernel, rfl, by decide +kernel, by decide +kernel⟩
abbrev s__law_mixed : Stmt := top 43
theorem sc__law_mixed : FnScope ["cell", "k", "one", "two"] ["cell", "k"] (defScope s__law_mixed) := ⟨rfl, rfl, rfl, by decide +kernel, rfl, by decide +kernel, by decide +kernel⟩
abbrev s__law_digit : Stmt := top 45
theorem sc__law_digit : FnScope ["draw", "span", "j", "found"] ["draw", "span"] (defScope s__law_digit) := ⟨rfl, rfl, rfl, by decide +kernel, rfl, by decide +kernel, by decide +kernel⟩
abbrev s__law_draw : Stmt := top 44
theorem sc__law_draw : FnScope ["cell", "k"] ["cell", "k"] (defScope s__law_draw) := ⟨rfl, rfl, rfl, by decide +kernel, rfl, by decide +kernel, by decide +kernel⟩
abbrev s__law_draws : Stmt := top 47
theorem sc__law_draws : FnScope ["script", "k", "cell"] ["script"] (defScope s__law_draws) := ⟨rfl, rfl, rfl, by decide +kernel, rfl, by decide +kernel, by decide +kernel⟩
abbrev s__law_pick : Stmt := top 46
theorem sc__law_pick : FnScope ["draw", "items"] ["draw", "items"] (defScope s__law_pick) := ⟨rfl, rfl, rfl, by decide +kernel, rfl, by decide +kernel, by decide +kernel⟩
abbrev s__law_right : Stmt := top 48
theorem sc__law_right : FnScope ["draw", "name", "value", "found"] ["draw"] (defScope s__law_right) := ⟨rfl, rfl, rfl, by decide +kernel, rfl, by decide +kernel, by decide +kernel⟩
abbrev s__law_wrong : Stmt := top 49
theorem sc__law_wrong : FnScope ["draw", "field", "some"] ["draw", "field"] (defScope s__law_wrong) := ⟨rfl, rfl, rfl, by decide +kernel, rfl, by decide +kernel, by decide +kernel⟩
abbrev s__law_made : Stmt := top 50
theorem sc__law_made : FnScope ["s"] ["s"] (defScope s__law_made) := ⟨rfl, rfl, rfl, by decide +kernel, rfl, by decide +kernel, by decide +kernel⟩
abbrev s__law_fields : Stmt := top 51
theorem sc__law_fields : FnScope ["line", "found"] ["line"] (defScope s__law_fields) := ⟨rfl, rfl, rfl, by decide +kernel, rfl, by decide +kernel, by decide +kernel⟩
abbrev s__law_refused : Stmt := top 52
theorem sc__law_refused : FnScope ["s", "found", "caught"] ["s"] (defScope s__law_refused) := ⟨rfl, rfl, rfl, by decide +kernel, rfl, by decide +kernel, by decide +kernel⟩
abbrev s__law_changed : Stmt := top 53
theorem sc__law_changed : FnScope ["s", "field", "value", "found"] ["s", "field", "value"] (defScope s__law_changed) := ⟨rfl, rfl, rfl, by decide +kernel, rfl, by decide +kernel, by decide +kernel⟩
abbrev s_law : Stmt := top 54
theorem sc_law : FnScope ["script", "draw", "turn", "s", "other", "line", "order", "one", "two", "wrong", "far", "plain"] ["script"] (defScope s_law) := ⟨rfl, rfl, rfl, by decide +kernel, rfl, by decide +kernel, by decide +kernel⟩
/-- what the top has written -/
structure Txt (K : PySem.W.Frag) (mg : Str → Option Value) : Prop where
  b_bool : mg "bool" = none
  b_dict : mg "dict" = none
  b_enumerate : mg "enumerate" = none
  b_int : mg "int" = none
  b_isinstance : mg "isinstance" = none
  b_len : mg "len" = none
  b_list : mg "list" = none
  b_min : mg "min" = none
  b_ord : mg "ord" = none
  b_range : mg "range" = none
  b_repr : mg "repr" = none
  b_str : mg "str" = none
  b_tuple : mg "tuple" = none
  c_LAST_TICK : ∃ u, mg "LAST_TICK" = some u ∧ RelV (.int 253402300799) u
  c_DIGITS : ∃ u, mg "DIGITS" = some u ∧ RelV (.str "0123456789") u
  c_MOST_OF_LABEL : ∃ u, mg "MOST_OF_LABEL" = some u ∧ RelV (.int 20) u
  c_MOST_LABELS : ∃ u, mg "MOST_LABELS" = some u ∧ RelV (.int 10) u
  c_MOST_OF_HOST : ∃ u, mg "MOST_OF_HOST" = some u ∧ RelV (.int 100) u
  c_MOST_OF_NUMBER : ∃ u, mg "MOST_OF_NUMBER" = some u ∧ RelV (.int 255) u
  c_LABEL_SIGNS : ∃ u, mg "LABEL_SIGNS" = some u ∧ RelV (.str "abcdefghijklmnopqrstuvwxyz0123456789-") u
  c_MOST_OF_PATH : ∃ u, mg "MOST_OF_PATH" = some u ∧ RelV (.int 200) u
  c_BARRED : ∃ u, mg "BARRED" = some u ∧ RelV (.str ";?#") u
  c_PERCENT : ∃ u, mg "PERCENT" = some u ∧ RelV (.int 37) u
  c_SAMES : ∃ a, mg "SAMES" = some (.ref a) ∧ ∀ H, SqT K H a [(.str "strict"), (.str "lax"), (.str "none")]
  c_PRIORITIES : ∃ a, mg "PRIORITIES" = some (.ref a) ∧ ∀ H, SqT K H a [(.str "low"), (.str "medium"), (.str "high")]
  c_MOST_AGE : ∃ u, mg "MOST_AGE" = some u ∧ RelV (.int 34560000) u
  c_BLANKS : ∃ u, mg "BLANKS" = some u ∧ RelV (.str " \t") u
  c_MOST_OF_LINE : ∃ u, mg "MOST_OF_LINE" = some u ∧ RelV (.int 4096) u
  e_BadLine : ∃ C, Err K mg "BadLine" "field" C
  o_Line : ∃ C, OwnC K mg "Line" ["name", "value", "expires", "age", "domain", "path", "is_secure", "is_hidden", "same", "is_partitioned", "priority"] C
  x_CrumbError_BadLine : BaseX K mg "CrumbError" "BadLine"
  d_is_integer : Df K mg "is_integer" s_is_integer ["value"]
  d_is_tick : Df K mg "is_tick" s_is_tick ["value"]
  d_has_only : Df K mg "has_only" s_has_only ["text", "signs"]
  d_is_digits : Df K mg "is_digits" s_is_digits ["text"]
  d__is_label : Df K mg "_is_label" s__is_label ["text"]
  d_are_labels : Df K mg "are_labels" s_are_labels ["texts"]
  d__is_number : Df K mg "_is_number" s__is_number ["label"]
  d__are_four_numbers : Df K mg "_are_four_numbers" s__are_four_numbers ["labels"]
  d_is_host : Df K mg "is_host" s_is_host ["value"]
  d__is_path_sign : Df K mg "_is_path_sign" s__is_path_sign ["sign"]
  d_is_path : Df K mg "is_path" s_is_path ["value"]
  d__is_from_0 : Df K mg "_is_from_0" s__is_from_0 ["value", "most"]
  d_is_trimmed : Df K mg "is_trimmed" s_is_trimmed ["text"]
  d__has_control : Df K mg "_has_control" s__has_control ["text"]
  d__is_part : Df K mg "_is_part" s__is_part ["value"]
  d__is_name : Df K mg "_is_name" s__is_name ["value"]
  d__is_value : Df K mg "_is_value" s__is_value ["value", "name"]
  m_Line__init : MthK K mg "Line" "__init__" "Line.__init__" s_Line__init 3 ["self", "name", "value", "expires", "age", "domain", "path", "is_secure", "is_hidden", "same", "is_partitioned", "priority"] [("expires", .non), ("age", .non), ("domain", .non), ("path", .non), ("is_secure", (.bl false)), ("is_hidden", (.bl false)), ("same", .non), ("is_partitioned", (.bl false)), ("priority", .non)]
  d__parts_of : Df K mg "_parts_of" s__parts_of ["line"]
  m_Line__eq : MthT K mg "Line" "__eq__" "Line.__eq__" s_Line__eq ["self", "other"]
  d__law_mixed : Df K mg "_law_mixed" s__law_mixed ["cell", "k"]
  d__law_digit : Df K mg "_law_digit" s__law_digit ["draw", "span"]
  d__law_draw : Df K mg "_law_draw" s__law_draw ["cell", "k"]
  d__law_draws : Df K mg "_law_draws" s__law_draws ["script"]
  d__law_pick : Df K mg "_law_pick" s__law_pick ["draw", "items"]
  d__law_right : Df K mg "_law_right" s__law_right ["draw"]
  d__law_wrong : Df K mg "_law_wrong" s__law_wrong ["draw", "field"]
  d__law_made : Df K mg "_law_made" s__law_made ["s"]
  d__law_fields : Df K mg "_law_fields" s__law_fields ["line"]
  d__law_refused : Df K mg "_law_refused" s__law_refused ["s"]
  d__law_changed : Df K mg "_law_changed" s__law_changed ["s", "field", "value"]
def NoInt (K : PySem.W.Frag) (H : Hp) (v : V) : Prop := (∃ b, v = .bl b) ∨ ∃ t : Value, TyX K H v t ∧ PySem.W.kitOne K t (.type "int") = some false
def sp_is_integer (K : PySem.W.Frag) : Sp := fun vs H Q _ => ∃ v : V, vs = [v] ∧ ((∃ i : Int, v = .int i ∧ Q (.bl true) H) ∨ (NoInt K H v ∧ Q (.bl false) H))
def lastT : Int := 253402300799
def sp_is_tick (K : PySem.W.Frag) : Sp := fun vs H Q _ => ∃ v : V, vs = [v] ∧ ((∃ i : Int, v = .int i ∧ Q (.bl (decide (0 ≤ i) && decide (i ≤ lastT))) H) ∨ (NoInt K H v ∧ Q (.bl false) H))
def sp_has_only : Sp := fun vs H Q _ => ∃ x g : Str, vs = [.str x, .str g] ∧ x.length ≤ 1000000 ∧ Q (.bl (onlyB (tl g) (tl x))) H
def sp_is_digits : Sp := fun vs H Q _ => ∃ x : Str, vs = [.str x] ∧ x.length ≤ 1000000 ∧ Q (.bl (digB (tl x))) H
def sp__is_label : Sp := fun vs H Q _ => ∃ x : Str, vs = [.str x] ∧ x.length ≤ 1000000 ∧ Q (.bl (labB (tl x))) H
theorem one_dash (c : Nat) : decide (V.str ⟨#[c]⟩ = V.str ("-" : Str)) = decide (c = 45) := by
  rw [show ("-" : Str) = ⟨#[45]⟩ from ext_tl (by decide +kernel), dec_str, Bool.eq_iff_iff, beq_iff_eq, decide_eq_true_eq, str_eq_iff]
  show [c] = [45] ↔ _
  simp
def sp_are_labels (K : PySem.W.Frag) : Sp := fun vs H Q _ => ∃ (p : Addr) (xs : List Str), vs = [.ref p] ∧ SqL K H p (xs.map V.str) ∧ (∀ x ∈ xs, x.length ≤ 1000000) ∧ Q (.bl ((xs.map tl).all labB)) H
def sp__is_number : Sp := fun vs H Q _ => ∃ x : Str, vs = [.str x] ∧ x.length ≤ 640 ∧ Q (.bl (numB (tl x))) H
theorem one_zero (c : Nat) : decide (V.str ⟨#[c]⟩ = V.str ("0" : Str)) = decide (c = 48) := by
  rw [show ("0" : Str) = ⟨#[48]⟩ from ext_tl (by decide +kernel), dec_str, Bool.eq_iff_iff, beq_iff_eq, decide_eq_true_eq, str_eq_iff]
  show [c] = [48] ↔ _
  simp
theorem str_zero (x : Str) : decide (V.str x = V.str ("0" : Str)) = decide (tl x = [48]) := by
  rw [Bool.eq_iff_iff, decide_eq_true_eq, decide_eq_true_eq]
  exact ⟨fun e => by rw [V.str.inj e]; decide +kernel, fun e => by rw [show x = ("0" : Str) from ext_tl (by rw [e]; decide +kernel)]⟩
def sp__are_four_numbers (K : PySem.W.Frag) : Sp := fun vs H Q _ => ∃ (p : Addr) (xs : List Str), vs = [.ref p] ∧ SqL K H p (xs.map V.str) ∧ (∀ x ∈ xs, x.length ≤ 640) ∧ Q (.bl ((xs.map tl).all numB && decide (xs.length = 4))) H
def sp_is_host (K : PySem.W.Frag) : Sp := fun vs H Q _ => ∃ (v : V) (b : Bool), vs = [v] ∧ TxV hostB K H v b ∧ ∀ H', Same H H' → Q (.bl b) H'
theorem lastL_map {P : List Str} {z : Str} {P0 : List Str} (e : P = P0 ++ [z]) : lastL (P.map tl) = tl z := by
  rw [e, List.map_append]; exact lastL_snoc _ _
def sp__is_path_sign : Sp := fun vs H Q _ => ∃ c : Nat, vs = [.str ⟨#[c]⟩] ∧ Q (.bl (psign c)) H
theorem psign_eq (c : Nat) : psign c = if (!decide (tl (⟨#[c]⟩ : Str) < tl ("!" : Str))) = true then (if (!decide (tl ("~" : Str) < tl (⟨#[c]⟩ : Str))) = true then (if (!decide (c ∈ tl (";?#" : Str))) = true then !decide ((c : Int) = 37) else false) else false) else false := by
  have e1 : tl ("!" : Str) = [33] := by decide +kernel
  have e2 : tl ("~" : Str) = [126] := by decide +kernel
  have e3 : tl (";?#" : Str) = [59, 63, 35] := by decide +kernel
  have e4 : tl (⟨#[c]⟩ : Str) = [c] := rfl
  rw [e1, e2, e3, e4]
  have l1 : ([c] : List Nat) < [33] ↔ c < 33 := by simp [List.cons_lt_cons_iff]
  have l2 : ([126] : List Nat) < [c] ↔ 126 < c := by simp [List.cons_lt_cons_iff]
  have l3 : ((c : Int) = 37) ↔ c = 37 := by omega
  simp only [l1, l2, l3, psign, List.mem_cons, List.not_mem_nil, or_false]
  by_cases h1 : c < 33
  · have : ¬ 33 ≤ c := by omega
    simp [h1, this]
  · have : 33 ≤ c := by omega
    by_cases h2 : 126 < c
    · have h3 : ¬ c ≤ 126 := by omega
      simp [h1, h2, h3]
    · have h3 : c ≤ 126 := by omega
      by_cases q1 : c = 59 <;> by_cases q2 : c = 63 <;> by_cases q3 : c = 35 <;> simp [h1, h2, h3, this, q1, q2, q3]
def sp_is_path (K : PySem.W.Frag) : Sp := fun vs H Q _ => ∃ (v : V) (b : Bool), vs = [v] ∧ TxV pathB K H v b ∧ Q (.bl b) H
def sp__is_from_0 (K : PySem.W.Frag) : Sp := fun vs H Q _ => ∃ (v : V) (m : Int), vs = [v, .int m] ∧ ((∃ i : Int, v = .int i ∧ Q (.bl (decide (0 ≤ i) && decide (i ≤ m))) H) ∨ (NoInt K H v ∧ Q (.bl false) H))
def blB (c : Nat) : Bool := decide (c = 32) || decide (c = 9)
def trimB (l : List Nat) : List Nat := trimF blB l
theorem blanks_tl : (fun c => decide (c ∈ tl (" \t" : Str))) = blB := by
  funext c
  rw [show tl (" \t" : Str) = [32, 9] by decide +kernel, Bool.eq_iff_iff]
  simp [blB]
theorem strip_blanks (x : Str) : tl (Txt.stripChars x " \t") = trimB (tl x) := by
  rw [strip_trim, blanks_tl]; rfl
def sp_is_trimmed : Sp := fun vs H Q _ => ∃ x : Str, vs = [.str x] ∧ x.length ≤ 1000000 ∧ Q (.bl (decide (trimB (tl x) = tl x))) H
/-- a text with a control sign -/
def ctlB (l : List Nat) : Bool := l.any fun c => decide (c < 32) && !decide (c = 9)
def sp__has_control : Sp := fun vs H Q _ => ∃ x : Str, vs = [.str x] ∧ x.length ≤ 1000000 ∧ Q (.bl (ctlB (tl x))) H
theorem lt_one (c : Nat) : decide (((⟨#[c]⟩ : Str).cps.toList) < ((" " : Str).cps.toList)) = decide (c < 32) := by
  rw [show ((" " : Str).cps.toList) = [32] by decide +kernel]
  refine decide_eq_decide.mpr ⟨fun h => ?_, fun h => List.Lex.rel h⟩
  cases (show List.Lex (· < ·) [c] [32] from h) with
  | rel h => exact h
  | cons h => cases h
def partB (l : List Nat) : Bool := decide (59 ∉ l) && (decide (trimB l = l) && !ctlB l)
def sp__is_part (K : PySem.W.Frag) : Sp := fun vs H Q _ => ∃ (v : V) (b : Bool), vs = [v] ∧ TxV partB K H v b ∧ Q (.bl b) H
def nameL (l : List Nat) : Bool := partB l && (decide (61 ∉ l) && decide (l.length ≤ 4096))
def sp__is_name (K : PySem.W.Frag) : Sp := fun vs H Q _ => ∃ (v : V) (b : Bool), vs = [v] ∧ TxV nameL K H v b ∧ Q (.bl b) H
def sp__is_value (K : PySem.W.Frag) : Sp := fun vs H Q _ => ∃ (v u : V) (b c : Bool), vs = [v, u] ∧ TxV nameL K H u c ∧ TxV partB K H v b ∧
  Q (.bl (c && (b && (match v, u with | .str x, .str y => decide (0 < (tl y).length + (tl x).length) && decide ((tl y).length + (tl x).length ≤ 4096) | _, _ => false)))) H
/-- a value that is None, or right -/
def OptOk (P : V → Prop) (v : V) : Prop := v = .non ∨ P v
structure LineOk (x y : Str) (ex ag dm pt sm pr : V) : Prop where
  nm : nameL (tl x) = true
  vl : partB (tl y) = true
  l0 : 0 < (tl x).length + (tl y).length
  l1 : (tl x).length + (tl y).length ≤ 4096
  ex : OptOk (fun v => ∃ i : Int, v = .int i ∧ 0 ≤ i ∧ i ≤ lastT) ex
  ag : OptOk (fun v => ∃ i : Int, v = .int i ∧ 0 ≤ i ∧ i ≤ 34560000) ag
  dm : OptOk (fun v => ∃ z : Str, v = .str z ∧ hostB (tl z) = true) dm
  pt : OptOk (fun v => ∃ z : Str, v = .str z ∧ pathB (tl z) = true) pt
  sm : OptOk (fun v => ∃ z : Str, v = .str z ∧ (z = "strict" ∨ z = "lax" ∨ z = "none")) sm
  pr : OptOk (fun v => ∃ i : Int, v = .int i ∧ 0 ≤ i ∧ i ≤ 2) pr
def lineF (x y : Str) (ex ag dm pt : V) (se hi : Bool) (sm : V) (pa : Bool) (pr : V) : List (Str × V) :=
  [("name", .str x), ("value", .str y), ("expires", ex), ("age", ag), ("domain", dm), ("path", pt), ("is_secure", .bl se), ("is_hidden", .bl hi), ("same", sm), ("is_partitioned", .bl pa), ("priority", pr)]
/-- a value that is handed over: plain, or a list, a tuple, a dict -/
def Fv (H : Hp) (v : V) : Prop := v = .non ∨ (∃ b, v = .bl b) ∨ (∃ i, v = .int i) ∨ (∃ x : Str, v = .str x ∧ x.length ≤ 5000) ∨ ∃ p, v = .ref p ∧ ((∃ xs, H p = some (.lst xs)) ∨ (∃ xs, H p = some (.tup xs)) ∨ ∃ kvs, H p = some (.dK kvs))
theorem Fv.same {H H' : Hp} {v : V} (h : Fv H v) (s : Same H H') : Fv H' v := by
  rcases h with h | h | h | h | ⟨p, rfl, ⟨xs, e⟩ | ⟨xs, e⟩ | ⟨xs, e⟩⟩
  · exact .inl h
  · exact .inr (.inl h)
  · exact .inr (.inr (.inl h))
  · exact .inr (.inr (.inr (.inl h)))
  · exact .inr (.inr (.inr (.inr ⟨p, rfl, .inl ⟨xs, s _ _ e⟩⟩)))
  · exact .inr (.inr (.inr (.inr ⟨p, rfl, .inr (.inl ⟨xs, s _ _ e⟩)⟩)))
  · exact .inr (.inr (.inr (.inr ⟨p, rfl, .inr (.inr ⟨xs, s _ _ e⟩)⟩)))
def textV (f : List Nat → Bool) : V → Bool
  | .str x => f (tl x)
  | _ => false
def valJ (v u : V) : Bool := textV nameL u && (textV partB v && (match v, u with | .str x, .str y => decide (0 < (tl y).length + (tl x).length) && decide ((tl y).length + (tl x).length ≤ 4096) | _, _ => false))
def rangeV (m : Int) : V → Bool
  | .int i => decide (0 ≤ i) && decide (i ≤ m)
  | _ => false
def boolV : V → Bool
  | .bl _ => true
  | _ => false
def sameV : V → Bool
  | .str x => inV (.str x) [.str "strict", .str "lax", .str "none"]
  | _ => false
def isN : V → Bool
  | .non => true
  | _ => false
theorem isN_eq (v : V) : decide (v = .non) = isN v := by cases v <;> simp [isN]
def orN (f : V → Bool) (v : V) : Bool := isN v || f v
def jud : List V → List Bool
  | [n, v, ex, ag, dm, pt, se, hi, sm, pa, pr] => [textV nameL n, valJ v n, orN (rangeV lastT) ex, orN (rangeV 34560000) ag, orN (textV hostB) dm, orN (textV pathB) pt, boolV se, boolV hi, orN sameV sm, boolV pa, orN (rangeV 2) pr]
  | _ => []
def namesF : List Str := ["name", "value", "expires", "age", "domain", "path", "is_secure", "is_hidden", "same", "is_partitioned", "priority"]
/-- the first wrong parameter -/
def badF (fs : List V) : Option Str := ((namesF.zip (jud fs)).find? (fun q => !q.2)).map (·.1)
def zipF (fs : List V) : List (Str × V) := namesF.zip fs
/-- the settings: a dict of these values -/
def setL (fs : List V) : List (L2.Key × V) := (zipF fs).map fun q => (Sum.inr q.1, q.2)
/-- BadLine with this field -/
def RefL (mg : Str → Option Value) (H : Hp) (E : XK) (f : Str) : Prop := ∀ (C d : Addr) (H' : Hp), mg "BadLine" = some (.ref C) → Same H H' → H' d = none → E (.ref C) (some d) (L2.upd H' d (.xd [(("field" : Str), .str f)]))
def OutL (mg : Str → Option Value) (H : Hp) (E : XK) (ok : Prop) : Option Str → Prop
  | none => ok
  | some f => RefL mg H E f
theorem Fv.ty {K : PySem.W.Frag} {H : Hp} {v : V} (h : Fv H v) : ∃ T : String, TyX K H v (.type T) ∧
    ((v = .non ∧ T = "NoneType") ∨ ((∃ b, v = .bl b) ∧ T = "bool") ∨ ((∃ i, v = .int i) ∧ T = "int") ∨ ((∃ x : Str, v = .str x ∧ x.length ≤ 5000) ∧ T = "str") ∨ ((∃ p, v = .ref p) ∧ (T = "list" ∨ T = "tuple" ∨ T = "dict"))) := by
  rcases h with rfl | ⟨b, rfl⟩ | ⟨i, rfl⟩ | ⟨x, rfl, hx⟩ | ⟨p, rfl, ⟨xs, e⟩ | ⟨xs, e⟩ | ⟨xs, e⟩⟩
  · exact ⟨_, .base .non, .inl ⟨rfl, rfl⟩⟩
  · exact ⟨_, .base (.bl b), .inr (.inl ⟨⟨b, rfl⟩, rfl⟩)⟩
  · exact ⟨_, .base (.int i), .inr (.inr (.inl ⟨⟨i, rfl⟩, rfl⟩))⟩
  · exact ⟨_, .base (.str x), .inr (.inr (.inr (.inl ⟨⟨x, rfl, hx⟩, rfl⟩)))⟩
  · exact ⟨_, .base (.lst e), .inr (.inr (.inr (.inr ⟨⟨p, rfl⟩, .inl rfl⟩)))⟩
  · exact ⟨_, .base (.tup e), .inr (.inr (.inr (.inr ⟨⟨p, rfl⟩, .inr (.inl rfl)⟩)))⟩
  · exact ⟨_, .base (.dK e), .inr (.inr (.inr (.inr ⟨⟨p, rfl⟩, .inr (.inr rfl)⟩)))⟩
theorem Fv.tx {K : PySem.W.Frag} {H : Hp} {v : V} (h : Fv H v) (f : List Nat → Bool) : TxV f K H v (textV f v) := by
  obtain ⟨T, ht, hq⟩ := h.ty (K := K)
  rcases hq with ⟨rfl, rfl⟩ | ⟨⟨b, rfl⟩, rfl⟩ | ⟨⟨i, rfl⟩, rfl⟩ | ⟨⟨x, rfl, hx⟩, rfl⟩ | ⟨⟨p, rfl⟩, rfl | rfl | rfl⟩
  · exact .inr ⟨_, ht, kit_ty (by decide +kernel), rfl⟩
  · exact .inr ⟨_, ht, kit_ty (by decide +kernel), rfl⟩
  · exact .inr ⟨_, ht, kit_ty (by decide +kernel), rfl⟩
  · exact .inl ⟨x, rfl, by omega, rfl⟩
  · exact .inr ⟨_, ht, kit_ty (by decide +kernel), rfl⟩
  · exact .inr ⟨_, ht, kit_ty (by decide +kernel), rfl⟩
  · exact .inr ⟨_, ht, kit_ty (by decide +kernel), rfl⟩
theorem Fv.int {K : PySem.W.Frag} {H : Hp} {v : V} (h : Fv H v) : (∃ i, v = .int i) ∨ (NoInt K H v ∧ ∀ m, rangeV m v = false) := by
  obtain ⟨T, ht, hq⟩ := h.ty (K := K)
  rcases hq with ⟨rfl, rfl⟩ | ⟨⟨b, rfl⟩, rfl⟩ | ⟨⟨i, rfl⟩, rfl⟩ | ⟨⟨x, rfl, hx⟩, rfl⟩ | ⟨⟨p, rfl⟩, rfl | rfl | rfl⟩
  · exact .inr ⟨.inr ⟨_, ht, kit_ty (by decide +kernel)⟩, fun _ => rfl⟩
  · exact .inr ⟨.inl ⟨b, rfl⟩, fun _ => rfl⟩
  · exact .inl ⟨i, rfl⟩
  · exact .inr ⟨.inr ⟨_, ht, kit_ty (by decide +kernel)⟩, fun _ => rfl⟩
  · exact .inr ⟨.inr ⟨_, ht, kit_ty (by decide +kernel)⟩, fun _ => rfl⟩
  · exact .inr ⟨.inr ⟨_, ht, kit_ty (by decide +kernel)⟩, fun _ => rfl⟩
  · exact .inr ⟨.inr ⟨_, ht, kit_ty (by decide +kernel)⟩, fun _ => rfl⟩
theorem Fv.bool {K : PySem.W.Frag} {H : Hp} {v : V} (h : Fv H v) : ∃ t, TyX K H v t ∧ PySem.W.kitOne K t (.type "bool") = some (boolV v) := by
  obtain ⟨T, ht, hq⟩ := h.ty (K := K)
  rcases hq with ⟨rfl, rfl⟩ | ⟨⟨b, rfl⟩, rfl⟩ | ⟨⟨i, rfl⟩, rfl⟩ | ⟨⟨x, rfl, hx⟩, rfl⟩ | ⟨⟨p, rfl⟩, rfl | rfl | rfl⟩ <;> exact ⟨_, ht, kit_ty (by show kitB _ _ = some _; simp only [boolV]; decide +kernel)⟩
theorem Fv.text {K : PySem.W.Frag} {H : Hp} {v : V} (h : Fv H v) : (∃ x, v = .str x) ∨ ((∃ t, TyX K H v t ∧ PySem.W.kitOne K t (.type "str") = some false) ∧ sameV v = false) := by
  obtain ⟨T, ht, hq⟩ := h.ty (K := K)
  rcases hq with ⟨rfl, rfl⟩ | ⟨⟨b, rfl⟩, rfl⟩ | ⟨⟨i, rfl⟩, rfl⟩ | ⟨⟨x, rfl, hx⟩, rfl⟩ | ⟨⟨p, rfl⟩, rfl | rfl | rfl⟩
  · exact .inr ⟨⟨_, ht, kit_ty (by decide +kernel)⟩, rfl⟩
  · exact .inr ⟨⟨_, ht, kit_ty (by decide +kernel)⟩, rfl⟩
  · exact .inr ⟨⟨_, ht, kit_ty (by decide +kernel)⟩, rfl⟩
  · exact .inl ⟨x, rfl⟩
  · exact .inr ⟨⟨_, ht, kit_ty (by decide +kernel)⟩, rfl⟩
  · exact .inr ⟨⟨_, ht, kit_ty (by decide +kernel)⟩, rfl⟩
  · exact .inr ⟨⟨_, ht, kit_ty (by decide +kernel)⟩, rfl⟩
def rowP (ps : List (Str × Bool)) : List (List V) := ps.map fun q => [.str q.1, .bl q.2]
theorem find_first : ∀ {ps : List (Str × Bool)} {i : Nat} {f : Str}, (ps.take i).all (·.2) = true → ps[i]? = some (f, false) → ps.find? (fun q => !q.2) = some (f, false)
  | [], i, f, _, h => by simp at h
  | p :: ps, 0, f, _, h => by
    simp at h; subst h
    rfl
  | p :: ps, i + 1, f, ha, h => by
    rw [List.take_succ_cons, List.all_cons, Bool.and_eq_true] at ha
    rw [List.find?_cons, ha.1]
    exact find_first ha.2 (by simpa using h)
theorem find_none : ∀ {ps : List (Str × Bool)}, ps.all (·.2) = true → ps.find? (fun q => !q.2) = none
  | [], _ => rfl
  | p :: ps, ha => by
    rw [List.all_cons, Bool.and_eq_true] at ha
    rw [List.find?_cons, ha.1]
    exact find_none ha.2
def sp_Line__init (K : PySem.W.Frag) (mg : Str → Option Value) : Sp := fun vs H Q E => ∃ (a C dx : Addr) (n v ex ag dm pt se hi sm pa pr : V), vs = [.ref a, n, v, ex, ag, dm, pt, se, hi, sm, pa, pr] ∧ mg "Line" = some (.ref C) ∧
  H a = some (.ins C dx []) ∧ (∀ z ∈ [n, v, ex, ag, dm, pt, se, hi, sm, pa, pr], Fv H z) ∧ OutL mg H E (∀ H', Same H H' → Q .non (upd H' a (.ins C dx (zipF [n, v, ex, ag, dm, pt, se, hi, sm, pa, pr])))) (badF [n, v, ex, ag, dm, pt, se, hi, sm, pa, pr])
def sp__parts_of (mg : Str → Option Value) : Sp := fun vs H Q _ => ∃ (a C dx : Addr) (x y : Str) (ex ag dm pt : V) (se hi : Bool) (sm : V) (pa : Bool) (pr : V), vs = [.ref a] ∧ mg "Line" = some (.ref C) ∧
  H a = some (.ins C dx (lineF x y ex ag dm pt se hi sm pa pr)) ∧ ∀ (p : Addr) (H' : Hp), Same H H' → H' p = some (.tup ((lineF x y ex ag dm pt se hi sm pa pr).map (·.2))) → Q (.ref p) H'
/-- a value of a field, as data -/
def datV : V → PyData
  | .bl b => .bool b
  | .int i => .int i
  | .str x => .str x
  | _ => .none
def plV : V → Bool
  | .non => true
  | .bl _ => true
  | .int _ => true
  | .str x => (tl x).all fun s => decide (s < 128)
  | _ => false
theorem plV_str {x : Str} (h : ascii x) : plV (.str x) = true := by
  show (tl x).all _ = true
  rw [List.all_eq_true]
  exact fun s hs => decide_eq_true (h s hs)
theorem plV_ascii {x : Str} (h : plV (.str x) = true) : ascii x := fun s hs => of_decide_eq_true (List.all_eq_true.mp (show (tl x).all _ = true from h) s hs)
theorem dp_plV {K : PySem.W.Frag} {H : Hp} : ∀ {v : V}, plV v = true → Dp K H v (datV v)
  | .non, _ => .non
  | .bl b, _ => .bl b
  | .int i, _ => .int i
  | .str x, _ => .str x
theorem dp_plVs {K : PySem.W.Frag} {H : Hp} : ∀ {vs : List V}, vs.all plV = true → DpAll K H vs (vs.map datV)
  | [], _ => .nil
  | v :: vs, h => by
    rw [List.all_cons, Bool.and_eq_true] at h
    exact .cons (dp_plV h.1) (dp_plVs h.2)
theorem lay_plV {v : V} (h : plV v = true) : PyData.canLay0 (datV v) = true ∧ PyData.depth (datV v) = 0 := by
  cases v <;> simp only [datV]
  · simp [PyData.canLay0, PyData.depth]
  · simp [PyData.canLay0, PyData.depth]
  · simp [PyData.canLay0, PyData.depth]
  · exact ⟨lay_str (plV_ascii h), by simp [PyData.depth]⟩
  all_goals simp [PyData.canLay0, PyData.depth]
theorem lay_plVs : ∀ {vs : List V}, vs.all plV = true → PyData.canLayAll0 (vs.map datV) = true ∧ PyData.depthAll (vs.map datV) = 0
  | [], _ => by simp [PyData.canLayAll0, PyData.depthAll]
  | v :: vs, h => by
    rw [List.all_cons, Bool.and_eq_true] at h
    obtain ⟨h1, h2⟩ := lay_plVs h.2
    obtain ⟨h3, h4⟩ := lay_plV h.1
    rw [List.map_cons]
    simp [PyData.canLayAll0, PyData.depthAll, h1, h2, h3, h4]
theorem shaped_plVs {vs : List V} (h : vs.all plV = true) : SeqAt.shaped (.tuple (vs.map datV)) = true := by
  unfold SeqAt.shaped
  rw [PyData.canLay0, (lay_plVs h).1, PyData.depth, (lay_plVs h).2]; rfl
def eqF (fs gs : List (Str × V)) : Bool := PyData.eqvAll (fs.map fun q => datV q.2) (gs.map fun q => datV q.2)
def LineV (fs : List (Str × V)) : Prop := ∃ (x y : Str) (ex ag dm pt : V) (se hi : Bool) (sm : V) (pa : Bool) (pr : V), fs = lineF x y ex ag dm pt se hi sm pa pr ∧ (fs.map (·.2)).all plV = true
def sp_Line__eq (K : PySem.W.Frag) (mg : Str → Option Value) : Sp := fun vs H Q _ => ∃ (a C dx : Addr) (fs : List (Str × V)) (y : V), vs = [.ref a, y] ∧ mg "Line" = some (.ref C) ∧ H a = some (.ins C dx fs) ∧ LineV fs ∧
  ((∃ (b dy : Addr) (gs : List (Str × V)), y = .ref b ∧ H b = some (.ins C dy gs) ∧ LineV gs ∧ ∀ H', Same H H' → Q (.bl (eqF fs gs)) H') ∨
   (∃ t : Value, TyX K H y t ∧ PySem.W.kitOne K t (.ref C) = some false ∧ Q (.bl false) H))
theorem kit_self (K : PySem.W.Frag) (C : Addr) : PySem.W.kitOne K (.ref C) (.ref C) = some true := by
  unfold PySem.W.kitOne
  simp
theorem len_Line__eq {K : PySem.W.Frag} {mg : Str → Option Value} {vs : List V} {H : Hp} {Q : VK} {E : XK} (h : sp_Line__eq K mg vs H Q E) : vs.length = (["self", "other"] : List Str).length := by
  obtain ⟨_, _, _, _, _, rfl, _⟩ := h; rfl
/-- some number below 2147483647 -/
def sp__law_mixed : Sp := fun vs H Q _ => ∃ c k : Int, vs = [.int c, .int k] ∧ 0 ≤ k ∧ k ≤ 1000000000 ∧ ∀ (r : Int) (H' : Hp), Same H H' → 0 ≤ r → r < 2147483647 → Q (.int r) H'
/-- some number below the span -/
def sp__law_digit : Sp := fun vs H Q _ => ∃ (d : Addr) (sp : Int) (n : Nat), vs = [.ref d, .int sp] ∧ 0 < sp ∧ sp < 400000000000 ∧ DrawAt H d (n + 1) ∧
  ∀ (r : Int) (H' : Hp), 0 ≤ r → r < sp → Keep d H H' → DrawAt H' d n → Q (.int r) H'
theorem small15 {n : Nat} (h : n ≤ 15) : n < sizeLine := Nat.lt_of_le_of_lt h (by decide)
/-- a new draw -/
def sp__law_draw : Sp := fun vs H Q _ => ∃ c k : Int, vs = [.int c, .int k] ∧ 0 ≤ k ∧ k ≤ 1000 ∧ ∀ (d : Addr) (H' : Hp), Same H H' → H d = none → DrawAt H' d 200000000 → Q (.ref d) H'
theorem dkv_merge (l c t : Int) : mergeK [] (dkv l c t) = dkv l c t := by
  simp [mergeK, dkv, putK, kne1, kne2, kne3]
def sp__law_draws (K : PySem.W.Frag) : Sp := fun vs H Q _ => ∃ (a : Addr) (ns : List Int), vs = [.ref a] ∧ SqL K H a (ns.map V.int) ∧ ns.length ≤ 63 ∧
  ∀ (p : Addr) (ds : List Addr) (H' : Hp), Same H H' → H p = none → H' p = some (.lst (ds.map V.ref)) → ds.length ≤ 4 → ds.Nodup → (∀ d ∈ ds, DrawAt H' d 200000000 ∧ H d = none) → Q (.ref p) H'
def sp__law_pick (K : PySem.W.Frag) : Sp := fun vs H Q _ => ∃ (d p : Addr) (n : Nat) (xs : List V), vs = [.ref d, .ref p] ∧ DrawAt H d (n + 1) ∧ SqL K H p xs ∧ p ≠ d ∧ 0 < xs.length ∧ xs.length ≤ 1000 ∧
  ∀ (v : V) (H' : Hp), v ∈ xs → Keep d H H' → DrawAt H' d n → Q v H'
theorem pick_of {K : PySem.W.Frag} {t : TA} {L : List V} {H : Hp} {Q : VK} {d : Addr} {n : Nat} {r : L2.St} (ht : GivA t L) (D : DrawAt H d (n + 1)) (l0 : 0 < L.length) (l1 : L.length ≤ 1000) (q : ∀ (v : V) (H1 : Hp), v ∈ L → Keep d H H1 → DrawAt H1 d n → Q v H1) :
    tCall (sp__law_pick K) [] E0 (tCons (tVar 0) (tCons (tLst t) tNil)) (some (.ref d) :: r) H Q := by
  refine ⟨_, rfl, giv_lst ht l1 fun p hp => ?_⟩
  have s2 := Same.new (o := HO.lst L) hp
  exact ⟨d, p, n, _, rfl, D.same s2, SqL.of upd_same, D.ne hp, l0, l1, fun v H3 hv k3 D3 => q v H3 hv (keep_new hp k3) D3⟩
theorem putK_at {kvs : List (L2.Key × V)} {k : L2.Key} {v : V} (names : List L2.Key) (h : kvs.map (·.1) = names) (hn : (names.all fun g => !decide (g = k)) = true) : putK kvs k v = kvs ++ [(k, v)] := by
  unfold putK
  rw [if_neg]
  intro z
  rw [List.any_eq_true] at z
  obtain ⟨q, hq, e⟩ := z
  have := List.all_eq_true.mp hn q.1 (by rw [← h]; exact List.mem_map.mpr ⟨q, hq, rfl⟩)
  rw [e] at this
  cases this
/-- the dict at f with these entries, in front of n draws -/
structure DictAt (d f : Addr) (n : Nat) (H0 H : Hp) (kvs : List (L2.Key × V)) : Prop where
  m : H f = some (.dK kvs)
  fd : f ≠ d
  f0 : H0 f = none
  k : Keep d H0 H
  D : DrawAt H d n
theorem DictAt.put {d f : Addr} {n : Nat} {H0 H : Hp} {kvs : List (L2.Key × V)} (A : DictAt d f n H0 H kvs) {k : L2.Key} {v : V} (names : List L2.Key) (h : kvs.map (·.1) = names) (hn : (names.all fun g => !decide (g = k)) = true) :
    DictAt d f n H0 (upd H f (.dK (putK kvs k v))) (kvs ++ [(k, v)]) := by
  rw [putK_at names h hn]
  exact ⟨upd_same, A.fd, A.f0, Keep.updN A.k A.f0, A.D.upd A.fd.symm⟩
theorem DictAt.keep {d f : Addr} {n m : Nat} {H0 H H1 : Hp} {kvs : List (L2.Key × V)} (A : DictAt d f n H0 H kvs) (k : Keep d H H1) (D : DrawAt H1 d m) : DictAt d f m H0 H1 kvs := ⟨k _ _ A.m A.fd, A.fd, A.f0, A.k.trans k, D⟩
theorem DictAt.pick {K : PySem.W.Frag} {t : TA} {L : List V} {H0 H : Hp} {E : Ends} {d f : Addr} {n : Nat} {a b : Option V} {kvs : List (L2.Key × V)} {nm : Str} (names : List L2.Key) (A : DictAt d f (n + 1) H0 H kvs) (ht : GivA t L) (l0 : 0 < L.length) (l1 : L.length ≤ 1000)
    (h : kvs.map (·.1) = names) (hn : (names.all fun g => !decide (g = Sum.inr nm)) = true) (hl : kvs.length ≤ 1000) (q : ∀ (v : V) (H1 : Hp), v ∈ L → DictAt d f n H0 H1 (kvs ++ [(.inr nm, v)]) → E.nx [some (.ref d), a, b, some (.ref f)] H1) :
    sDPut (tVar 3) (tC (.str nm)) (tCall (sp__law_pick K) [] E0 (tCons (tVar 0) (tCons (tLst t) tNil))) E [some (.ref d), a, b, some (.ref f)] H :=
  pick_of ht A.D l0 l1 fun v H1 hv k1 D1 => ⟨_, rfl, f, _, rfl, DPut.k (k := .inr nm) (k1 _ _ A.m A.fd) (Nat.lt_of_le_of_lt hl (by decide)), q v _ hv ((A.keep k1 D1).put names h hn)⟩
def nm21 : List V := [.str "a", .str "Path", .str "a b", .str "", .str "x\ty", .str (repS 96 "n")]
def vl21 : List V := [.str "v", .str "x=y", .str "v w", .str "=", .str (repS 4000 "v")]
def asc (x : Str) : Bool := (tl x).all fun s => decide (s < 128)
def nmB : V → Bool
  | .str x => nameL (tl x) && (asc x && decide (x.length ≤ 96))
  | _ => false
def vlB : V → Bool
  | .str x => partB (tl x) && (asc x && (decide (x.length ≤ 4000) && decide (0 < x.length)))
  | _ => false
theorem nm21_ok : nm21.all nmB = true := by decide +kernel
theorem vl21_ok : vl21.all vlB = true := by decide +kernel
theorem cons_in {te : TE} {t : TA} {σ : L2.St} {H : Hp} {Q : List V → Hp → Prop} (h : te σ H fun x H1 => t σ H1 fun xs H2 => Q (x :: xs) H2) : tCons te t σ H Q := h
theorem op_in {r : R2} {ta tb : TE} {σ : L2.St} {H : Hp} {Q : VK} (h : ta σ H fun x H1 => tb σ H1 fun y H2 => r x y H2 Q) : tOp r ta tb σ H Q := h
theorem ite_lst {b : Bool} {σ : L2.St} {H : Hp} {Q : VK} {w : V} (h : ∀ L : List V, (L = if b = true then [w] else []) → ∀ p, H p = none → Q (.ref p) (upd H p (.lst L))) : if b = true then tLst (tCons (tC w) tNil) σ H Q else tLst tNil σ H Q := by
  cases b
  · exact iteF ⟨by show 0 ≤ sizeLine; decide, fun p hp => h _ rfl p hp⟩
  · exact iteT ⟨by show 1 ≤ sizeLine; decide, fun p hp => h _ rfl p hp⟩
theorem optR {m : Int} {v : V} (h : orN (rangeV m) v = true) : OptOk (fun v => ∃ i : Int, v = .int i ∧ 0 ≤ i ∧ i ≤ m) v := by
  cases v with
  | non => exact .inl rfl
  | int i =>
    have h : (decide (0 ≤ i) && decide (i ≤ m)) = true := h
    rw [Bool.and_eq_true, decide_eq_true_eq, decide_eq_true_eq] at h
    exact .inr ⟨i, rfl, h.1, h.2⟩
  | _ => cases h
theorem optT {f : List Nat → Bool} {v : V} (h : orN (textV f) v = true) : OptOk (fun v => ∃ z : Str, v = .str z ∧ f (tl z) = true) v := by
  cases v with
  | non => exact .inl rfl
  | str z => exact .inr ⟨z, rfl, h⟩
  | _ => cases h
theorem optM {v : V} (h : orN sameV v = true) : OptOk (fun v => ∃ z : Str, v = .str z ∧ (z = "strict" ∨ z = "lax" ∨ z = "none")) v := by
  cases v with
  | non => exact .inl rfl
  | str z =>
    have h : inV (.str z) [.str "strict", .str "lax", .str "none"] = true := h
    refine .inr ⟨z, rfl, ?_⟩
    unfold inV at h
    simp only [List.any_cons, List.any_nil, Bool.or_false, Bool.or_eq_true, eqV, decide_eq_true_eq, beq_iff_eq] at h
    rcases h with h | h | h
    · exact .inl h.symm
    · exact .inr (.inl h.symm)
    · exact .inr (.inr h.symm)
  | _ => cases h
theorem mex21 : [V.non, .int 0, .int 5, .int 253402300799].all (orN (rangeV lastT)) = true := by decide +kernel
theorem mag21 : [V.non, .int 0, .int 60, .int 34560000].all (orN (rangeV 34560000)) = true := by decide +kernel
theorem mdm21 : [V.non, .str "a", .str "shop.example", .str "1.2.3.4", .str (repS 20 "x")].all (orN (textV hostB)) = true := by decide +kernel
theorem mpt21 : [V.non, .str "/", .str "/a=b", .str (catS "/" (repS 199 "p"))].all (orN (textV pathB)) = true := by decide +kernel
theorem msm21 : [V.non, .str "strict", .str "lax", .str "none"].all (orN sameV) = true := by decide +kernel
theorem mpr21 : [V.non, .int 0, .int 1, .int 2].all (orN (rangeV 2)) = true := by decide +kernel
def sp__law_right (K : PySem.W.Frag) : Sp := fun vs H Q _ => ∃ (d : Addr) (n : Nat), vs = [.ref d] ∧ DrawAt H d (n + 12) ∧
  ∀ (p : Addr) (x y : Str) (ex ag dm pt : V) (se hi : Bool) (sm : V) (pa : Bool) (pr : V) (H' : Hp), LineOk x y ex ag dm pt sm pr → ascii x → ascii y → DictAt d p n H H' (setL [.str x, .str y, ex, ag, dm, pt, .bl se, .bl hi, sm, .bl pa, pr]) → Q (.ref p) H'
def ownAt : Nat → V → Bool
  | 0 => textV nameL
  | 1 => fun v => textV partB v && textV (fun l => decide (l.length ≤ 4096)) v
  | 2 => orN (rangeV lastT)
  | 3 => orN (rangeV 34560000)
  | 4 => orN (textV hostB)
  | 5 => orN (textV pathB)
  | 6 => boolV
  | 7 => boolV
  | 8 => orN sameV
  | 9 => boolV
  | _ => orN (rangeV 2)
theorem Fv.keep {d : Addr} {H H' : Hp} {v : V} (h : Fv H v) (k : Keep d H H') (ne : v ≠ .ref d) : Fv H' v := by
  rcases h with h | h | h | h | ⟨p, rfl, ⟨xs, e⟩ | ⟨xs, e⟩ | ⟨xs, e⟩⟩
  · exact .inl h
  · exact .inr (.inl h)
  · exact .inr (.inr (.inl h))
  · exact .inr (.inr (.inr (.inl h)))
  · exact .inr (.inr (.inr (.inr ⟨p, rfl, .inl ⟨xs, k _ _ e (fun z => ne (by rw [z]))⟩⟩)))
  · exact .inr (.inr (.inr (.inr ⟨p, rfl, .inr (.inl ⟨xs, k _ _ e (fun z => ne (by rw [z]))⟩)⟩)))
  · exact .inr (.inr (.inr (.inr ⟨p, rfl, .inr (.inr ⟨xs, k _ _ e (fun z => ne (by rw [z]))⟩)⟩)))
/-- menus of values with a wrong answer W -/
def MenE (W : V → Bool) (te : TE) : Prop := ∀ (σ : L2.St) (H : Hp) (d : Addr) (Q : VK), H d ≠ none → (∀ v H1, Same H H1 → Fv H1 v → v ≠ .ref d → W v = false → Q v H1) → te σ H Q
def MenA (W : V → Bool) (t : TA) (m : Nat) : Prop := ∀ (σ : L2.St) (H : Hp) (d : Addr) (Q : List V → Hp → Prop), H d ≠ none → (∀ vs H1, Same H H1 → vs.length = m → (∀ v ∈ vs, Fv H1 v ∧ v ≠ .ref d ∧ W v = false) → Q vs H1) → t σ H Q
theorem men_nil {W : V → Bool} : MenA W tNil 0 := fun _ H _ _ _ q => q [] H (Same.refl _) rfl (by simp)
theorem men_cons {W : V → Bool} {te : TE} {t : TA} {m : Nat} (h : MenE W te) (r : MenA W t m) : MenA W (tCons te t) (m + 1) := fun σ H d Q hd q =>
  h σ H d _ hd fun v H1 s1 f1 n1 w1 => r σ H1 d _ (fun z => by cases e : H d with | none => exact hd e | some o => rw [s1 _ _ e] at z; cases z) fun vs H2 s2 l2 h2 =>
    q (v :: vs) H2 (s1.trans s2) (by rw [List.length_cons, l2]) fun u hu => (List.mem_cons.mp hu).elim (fun e => e ▸ ⟨f1.same s2, n1, w1⟩) (h2 u)
def plainF : V → Bool
  | .non => true
  | .bl _ => true
  | .int _ => true
  | .str x => decide (x.length ≤ 5000)
  | _ => false
theorem men_g {W : V → Bool} {te : TE} {v : V} (h : Giv te v) (p : plainF v = true := by decide +kernel) (w : W v = false := by decide +kernel) : MenE W te := fun σ H d Q _ q => by
  refine h σ H Q (q v H (Same.refl _) ?_ ?_ w)
  · cases v with
    | non => exact .inl rfl
    | bl b => exact .inr (.inl ⟨b, rfl⟩)
    | int i => exact .inr (.inr (.inl ⟨i, rfl⟩))
    | str x => exact .inr (.inr (.inr (.inl ⟨x, rfl, of_decide_eq_true p⟩)))
    | _ => cases p
  · intro z; rw [z] at p; cases p
theorem new_ne {d p : Addr} {H : Hp} (hd : H d ≠ none) (hp : H p = none) : V.ref p ≠ V.ref d := fun z => by cases z; exact hd hp
theorem men_l {W : V → Bool} {t : TA} {L : List V} (h : GivA t L) (hl : L.length ≤ 1000) (w : ∀ p, W (.ref p) = false) : MenE W (tLst t) := fun σ H d Q hd q =>
  giv_lst h hl fun p hp => q _ _ (Same.new hp) (.inr (.inr (.inr (.inr ⟨p, rfl, .inl ⟨_, upd_same⟩⟩)))) (new_ne hd hp) (w p)
theorem men_t {W : V → Bool} {t : TA} {L : List V} (h : GivA t L) (hl : L.length ≤ 1000) (w : ∀ p, W (.ref p) = false) : MenE W (tTup t) := fun σ H d Q hd q =>
  h σ H _ ⟨Nat.le_trans hl (by decide), fun p hp => q _ _ (Same.new hp) (.inr (.inr (.inr (.inr ⟨p, rfl, .inr (.inl ⟨_, upd_same⟩)⟩)))) (new_ne hd hp) (w p)⟩
theorem men_d {W : V → Bool} (w : ∀ p, W (.ref p) = false) : MenE W (fun _ H Q => ∀ p, H p = none → Q (.ref p) (upd H p (.dK []))) := fun σ H d Q hd q =>
  fun p hp => q _ _ (Same.new hp) (.inr (.inr (.inr (.inr ⟨p, rfl, .inr (.inr ⟨_, upd_same⟩)⟩)))) (new_ne hd hp) (w p)
theorem draw_some {H : Hp} {d : Addr} {n : Nat} (D : DrawAt H d n) : H d ≠ none := fun z => by obtain ⟨_, _, _, m, _⟩ := D; rw [z] at m; cases m
theorem men_lst {W : V → Bool} {t : TA} {m : Nat} {σ : L2.St} {H : Hp} {Q : VK} {d : Addr} (ht : MenA W t m) (hd : H d ≠ none) (l1 : m ≤ 1000) (q : ∀ (vs : List V) (p : Addr) (H1 : Hp), vs.length = m → (∀ v ∈ vs, Fv H1 v ∧ v ≠ .ref d ∧ W v = false) → Same H H1 → H1 p = none → Q (.ref p) (upd H1 p (.lst vs))) : tLst t σ H Q :=
  ht σ H d _ hd fun vs H1 s1 hl hv => ⟨Nat.le_trans (by omega : _ ≤ 1000) (by decide), fun p hp => q vs p H1 hl hv s1 hp⟩
theorem men_pick {K : PySem.W.Frag} {W : V → Bool} {t : TA} {m : Nat} {H : Hp} {Q : VK} {d : Addr} {n : Nat} {r : L2.St} (ht : MenA W t m) (D : DrawAt H d (n + 1)) (l0 : 0 < m) (l1 : m ≤ 1000) (q : ∀ (v : V) (H1 : Hp), Keep d H H1 → DrawAt H1 d n → Fv H1 v → v ≠ .ref d → W v = false → Q v H1) :
    tCall (sp__law_pick K) [] E0 (tCons (tVar 0) (tCons (tLst t) tNil)) (some (.ref d) :: r) H Q := by
  refine ⟨_, rfl, ht _ H d _ (draw_some D) fun vs H1 s1 hl hv => ⟨Nat.le_trans (by omega : _ ≤ 1000) (by decide), fun p hp => ?_⟩⟩
  have s2 := Same.new (o := HO.lst vs) hp
  refine ⟨d, p, n, _, rfl, (D.same s1).same s2, SqL.of upd_same, (D.same s1).ne hp, by omega, by omega, fun v H3 hm k3 D3 => ?_⟩
  obtain ⟨f, ne, w⟩ := hv v hm
  exact q v H3 ((Same.keep s1).trans (keep_new hp k3)) D3 ((f.same s2).keep k3 ne) ne w
theorem giv_neg1 : Giv (tUn (rU fun i => .int (-i)) (tC (.int 1))) (.int (-1)) := fun σ H Q q => ⟨1, rfl, q⟩
theorem giv_pow20 : Giv (tOp (rI CPow fun i j => .int (i ^ j.toNat)) (tC (.int 10)) (tC (.int 20))) (.int (10 ^ 20)) := fun σ H Q q => ⟨10, 20, rfl, rfl, ⟨by decide, by decide, by decide⟩, q⟩
def sp__law_wrong (K : PySem.W.Frag) : Sp := fun vs H Q _ => ∃ (d : Addr) (n j : Nat) (f : Str), vs = [.ref d, .str f] ∧ namesF[j]? = some f ∧ DrawAt H d (n + 1) ∧ ∀ (v : V) (H' : Hp), Keep d H H' → DrawAt H' d n → Fv H' v → v ≠ .ref d → ownAt j v = false → Q v H'
def sp__law_made (K : PySem.W.Frag) (mg : Str → Option Value) : Sp := fun vs H Q E => ∃ (s : Addr) (n v ex ag dm pt se hi sm pa pr : V), vs = [.ref s] ∧ H s = some (.dK (setL [n, v, ex, ag, dm, pt, se, hi, sm, pa, pr])) ∧ (∀ z ∈ [n, v, ex, ag, dm, pt, se, hi, sm, pa, pr], Fv H z) ∧
  OutL mg H E (∀ (a C dx : Addr) (H' : Hp), Same H H' → mg "Line" = some (.ref C) → H' a = some (.ins C dx (zipF [n, v, ex, ag, dm, pt, se, hi, sm, pa, pr])) → Q (.ref a) H') (badF [n, v, ex, ag, dm, pt, se, hi, sm, pa, pr])
theorem len__law_made {K : PySem.W.Frag} {mg : Str → Option Value} {vs : List V} {H : Hp} {Q : VK} {E : XK} (h : sp__law_made K mg vs H Q E) : vs.length = 1 := by
  obtain ⟨_, _, _, _, _, _, _, _, _, _, _, _, rfl, _⟩ := h; rfl
def sp__law_fields (mg : Str → Option Value) : Sp := fun vs H Q _ => ∃ (a C dx : Addr) (x y : Str) (ex ag dm pt : V) (se hi : Bool) (sm : V) (pa : Bool) (pr : V), vs = [.ref a] ∧ mg "Line" = some (.ref C) ∧
  H a = some (.ins C dx (lineF x y ex ag dm pt se hi sm pa pr)) ∧ ∀ (p : Addr) (H' : Hp), Same H H' → H' p = some (.lst ((lineF x y ex ag dm pt se hi sm pa pr).map (·.2))) → Q (.ref p) H'
def sp__law_refused (K : PySem.W.Frag) : Sp := fun vs H Q _ => ∃ (s : Addr) (n v ex ag dm pt se hi sm pa pr : V), vs = [.ref s] ∧ H s = some (.dK (setL [n, v, ex, ag, dm, pt, se, hi, sm, pa, pr])) ∧ (∀ z ∈ [n, v, ex, ag, dm, pt, se, hi, sm, pa, pr], Fv H z) ∧
  ((badF [n, v, ex, ag, dm, pt, se, hi, sm, pa, pr] = none ∧ ∀ H', Same H H' → Q .non H') ∨ ∃ f, badF [n, v, ex, ag, dm, pt, se, hi, sm, pa, pr] = some f ∧ ∀ (p : Addr) (H' : Hp), Same H H' → H' p = some (.lst [.str f]) → Q (.ref p) H')
theorem len__law_refused {K : PySem.W.Frag} {vs : List V} {H : Hp} {Q : VK} {E : XK} (h : sp__law_refused K vs H Q E) : vs.length = 1 := by
  obtain ⟨_, _, _, _, _, _, _, _, _, _, _, _, rfl, _⟩ := h; rfl
def sp__law_changed : Sp := fun vs H Q _ => ∃ (s : Addr) (kvs : List (L2.Key × V)) (f : Str) (v : V), vs = [.ref s, .str f, v] ∧ H s = some (.dK kvs) ∧ kvs.length ≤ 100 ∧ ∀ (p : Addr) (H' : Hp), Same H H' → H p = none → H' p = some (.dK (putK kvs (.inr f) v)) → Q (.ref p) H'
theorem opt_pl {P : V → Prop} {v : V} (h : OptOk P v) (g : ∀ u, P u → plV u = true) : plV v = true := by
  rcases h with rfl | h
  · rfl
  · exact g _ h
theorem LineOk.pl {x y : Str} {ex ag dm pt sm pr : V} (L : LineOk x y ex ag dm pt sm pr) (h1 : ascii x) (h2 : ascii y) (se hi pa : Bool) : LineV (lineF x y ex ag dm pt se hi sm pa pr) := by
  refine ⟨x, y, ex, ag, dm, pt, se, hi, sm, pa, pr, rfl, ?_⟩
  have e1 := opt_pl L.ex (fun u ⟨i, e, _⟩ => by rw [e]; rfl)
  have e2 := opt_pl L.ag (fun u ⟨i, e, _⟩ => by rw [e]; rfl)
  have e3 := opt_pl L.dm (fun u ⟨z, e, hz⟩ => by rw [e]; exact plV_str (ascii_host hz))
  have e4 := opt_pl L.pt (fun u ⟨z, e, hz⟩ => by rw [e]; exact plV_str (ascii_path hz))
  have e5 := opt_pl L.sm (fun u ⟨z, e, hz⟩ => by rw [e]; exact plV_str (by rcases hz with rfl | rfl | rfl <;> exact ascii_lit (by decide +kernel)))
  have e6 := opt_pl L.pr (fun u ⟨i, e, _⟩ => by rw [e]; rfl)
  simp only [lineF, List.map_cons, List.map_nil, List.all_cons, List.all_nil, plV_str h1, plV_str h2, e1, e2, e3, e4, e5, e6, Bool.and_true, Bool.true_and]
  rfl
theorem int_len {t : Int} (h0 : 0 ≤ t) (h1 : t ≤ lastT) : (toString t : Str).length ≤ 20 ∧ t.natAbs.log2 < 1920 := by
  have h2 : t < 2 ^ 40 := by unfold lastT at h1; omega
  have h3 : t.natAbs < 2 ^ 40 := by omega
  refine ⟨?_, Nat.lt_of_lt_of_le (PySem.Flt.log2_lt_of (by decide) h3) (by decide)⟩
  have := PyProof.Rows.toString_length_le (v := t) (k := 20) h0 (by decide) (by unfold lastT at h1; omega)
  exact this
theorem rp_int {t : Int} (h0 : 0 ≤ t) (h1 : t ≤ lastT) : RpD (.int t) 41002 0 := by
  obtain ⟨h2, h3⟩ := int_len h0 h1
  exact ⟨by simp [PyData.showable, h3], by simp [PyData.hasDict], by simp [plainD], by simp only [wtD]; omega, by simp [PyData.depth]⟩
theorem rp_str {x : Str} (h : ascii x) (hl : x.length ≤ 4100) : RpD (.str x) 41002 0 := (RpD.str (m := 4100) h hl).mono (by decide) (Nat.le_refl _)
theorem opt_rp {P : V → Prop} {v : V} (h : OptOk P v) (g : ∀ u, P u → RpD (datV u) 41002 0) : RpD (datV v) 41002 0 := by
  rcases h with rfl | h
  · exact RpD.non.mono (by decide) (Nat.le_refl _)
  · exact g _ h
theorem LineOk.rp {x y : Str} {ex ag dm pt sm pr : V} (L : LineOk x y ex ag dm pt sm pr) (h1 : ascii x) (h2 : ascii y) (se hi pa : Bool) : RpD (.list (((lineF x y ex ag dm pt se hi sm pa pr).map (·.2)).map datV)) 500000 1 := by
  refine (RpD.list (B := 41002) (k := 0) (m := 11) (fun d hd => ?_) (by simp [lineF])).mono (by decide) (Nat.le_refl _)
  have lx := L.l1
  simp only [lineF, List.map_cons, List.map_nil, List.mem_cons, List.not_mem_nil, or_false] at hd
  rcases hd with rfl | rfl | rfl | rfl | rfl | rfl | rfl | rfl | rfl | rfl | rfl
  · exact rp_str h1 (by rw [len_tl]; omega)
  · exact rp_str h2 (by rw [len_tl]; omega)
  · exact opt_rp L.ex fun u ⟨i, e, a, b⟩ => by rw [e]; exact rp_int a b
  · exact opt_rp L.ag fun u ⟨i, e, a, b⟩ => by rw [e]; exact rp_int a (by unfold lastT; omega)
  · exact opt_rp L.dm fun u ⟨z, e, hz⟩ => by
      have hl : (tl z).length ≤ 100 := by unfold hostB at hz; rw [Bool.and_eq_true] at hz; exact of_decide_eq_true hz.1
      rw [e]; exact rp_str (ascii_host hz) (by rw [len_tl]; omega)
  · exact opt_rp L.pt fun u ⟨z, e, hz⟩ => by
      have hl : (tl z).length ≤ 200 := by unfold pathB at hz; rw [Bool.and_eq_true] at hz; exact of_decide_eq_true hz.1
      rw [e]; exact rp_str (ascii_path hz) (by rw [len_tl]; omega)
  · exact (RpD.bool _).mono (by decide) (Nat.le_refl _)
  · exact (RpD.bool _).mono (by decide) (Nat.le_refl _)
  · exact opt_rp L.sm fun u ⟨z, e, hz⟩ => by rw [e]; rcases hz with rfl | rfl | rfl <;> exact rp_str (ascii_lit (by decide +kernel)) (by decide +kernel)
  · exact (RpD.bool _).mono (by decide) (Nat.le_refl _)
  · exact opt_rp L.pr fun u ⟨i, e, a, b⟩ => by rw [e]; exact rp_int a (by unfold lastT; omega)
theorem eqv_plV {v : V} (h : plV v = true) : PyData.eqv (datV v) (datV v) = true := by
  cases v <;> simp [datV, PyData.eqv]
theorem eqv_plVA : ∀ {vs : List V}, vs.all plV = true → PyData.eqvAll (vs.map datV) (vs.map datV) = true
  | [], _ => by simp [PyData.eqvAll]
  | v :: vs, h => by
    rw [List.all_cons, Bool.and_eq_true] at h
    rw [List.map_cons, PyData.eqvAll, eqv_plV h.1, eqv_plVA h.2]; rfl
theorem eqF_self {fs : List (Str × V)} (h : LineV fs) : eqF fs fs = true := by
  obtain ⟨x, y, ex, ag, dm, pt, se, hi, sm, pa, pr, rfl, hp⟩ := h
  have := eqv_plVA hp
  unfold eqF
  rw [List.map_map] at this
  exact this
theorem eleven {fs : List V} (h : fs.length = 11) : ∃ a0 a1 a2 a3 a4 a5 a6 a7 a8 a9 a10, fs = [a0, a1, a2, a3, a4, a5, a6, a7, a8, a9, a10] := by
  match fs, h with
  | [a0, a1, a2, a3, a4, a5, a6, a7, a8, a9, a10], _ => exact ⟨_, _, _, _, _, _, _, _, _, _, _, rfl⟩
theorem bad_at {fs : List V} {i : Nat} {f : Str} (h : ((namesF.zip (jud fs)).take i).all (·.2) = true) (e : (namesF.zip (jud fs))[i]? = some (f, false)) : badF fs = some f := by
  unfold badF
  rw [find_first h e]; rfl
def pairV : V → V → Bool
  | .str x, .str y => decide (0 < (tl x).length + (tl y).length) && decide ((tl x).length + (tl y).length ≤ 4096)
  | _, _ => false
theorem valJ_eq (n v : V) : valJ v n = (ownAt 0 n && (ownAt 1 v && pairV n v)) := by
  unfold valJ
  show (textV nameL n && _) = (textV nameL n && _)
  congr 1
  show (textV partB v && _) = ((textV partB v && _) && _)
  cases textV partB v with
  | false => rfl
  | true =>
    rw [Bool.true_and, Bool.true_and]
    cases v with
    | str b =>
      cases n with
      | str a =>
        show (_ && decide ((tl a).length + (tl b).length ≤ 4096)) = (decide ((tl b).length ≤ 4096) && (_ && decide ((tl a).length + (tl b).length ≤ 4096)))
        by_cases q : (tl b).length ≤ 4096
        · rw [decide_eq_true q, Bool.true_and]
        · rw [decide_eq_false q, decide_eq_false (by omega : ¬ (tl a).length + (tl b).length ≤ 4096), Bool.and_false]; rfl
      | _ => show false = (_ && false); rw [Bool.and_false]
    | _ => rfl
/-- the first wrong one of eleven values -/
theorem bad_first {fs : List V} {i : Nat} {f : Str} (hl : fs.length = 11) (hi : namesF[i]? = some f) (h : ∀ k v, k < i → fs[k]? = some v → ownAt k v = true) (w : ∀ v, fs[i]? = some v → ownAt i v = false) (hp : ∀ n v, fs[0]? = some n → fs[1]? = some v → 1 < i → pairV n v = true) : badF fs = some f := by
  obtain ⟨a0, a1, a2, a3, a4, a5, a6, a7, a8, a9, a10, rfl⟩ := eleven hl
  have hi11 : i < 11 := (List.getElem?_eq_some_iff.mp hi).1
  have h0 : 0 < i → ownAt 0 a0 = true := fun q => h 0 a0 q rfl
  have h1 : 1 < i → valJ a1 a0 = true := fun q => by rw [valJ_eq, h0 (by omega), h 1 a1 q rfl, hp a0 a1 rfl rfl q]; rfl
  have h2 : 2 < i → ownAt 2 a2 = true := fun q => h 2 a2 q rfl
  have h3 : 3 < i → ownAt 3 a3 = true := fun q => h 3 a3 q rfl
  have h4 : 4 < i → ownAt 4 a4 = true := fun q => h 4 a4 q rfl
  have h5 : 5 < i → ownAt 5 a5 = true := fun q => h 5 a5 q rfl
  have h6 : 6 < i → ownAt 6 a6 = true := fun q => h 6 a6 q rfl
  have h7 : 7 < i → ownAt 7 a7 = true := fun q => h 7 a7 q rfl
  have h8 : 8 < i → ownAt 8 a8 = true := fun q => h 8 a8 q rfl
  have h9 : 9 < i → ownAt 9 a9 = true := fun q => h 9 a9 q rfl
  have ej : jud [a0, a1, a2, a3, a4, a5, a6, a7, a8, a9, a10] = [ownAt 0 a0, valJ a1 a0, ownAt 2 a2, ownAt 3 a3, ownAt 4 a4, ownAt 5 a5, ownAt 6 a6, ownAt 7 a7, ownAt 8 a8, ownAt 9 a9, ownAt 10 a10] := rfl
  have hv : i = 1 → valJ a1 a0 = false := fun q => by subst q; rw [valJ_eq, w a1 rfl, Bool.false_and, Bool.and_false]
  refine bad_at (i := i) ?_ ?_
  · rw [ej, List.all_eq_true]
    intro p hp'
    obtain ⟨k, hk⟩ := List.mem_iff_getElem?.mp hp'
    rw [List.getElem?_take] at hk
    split at hk
    · next q =>
      have : k = 0 ∨ k = 1 ∨ k = 2 ∨ k = 3 ∨ k = 4 ∨ k = 5 ∨ k = 6 ∨ k = 7 ∨ k = 8 ∨ k = 9 := by omega
      rcases this with rfl | rfl | rfl | rfl | rfl | rfl | rfl | rfl | rfl | rfl <;> (cases hk; first | exact h0 q | exact h1 q | exact h2 q | exact h3 q | exact h4 q | exact h5 q | exact h6 q | exact h7 q | exact h8 q | exact h9 q)
    · cases hk
  · rw [ej]
    have : i = 0 ∨ i = 1 ∨ i = 2 ∨ i = 3 ∨ i = 4 ∨ i = 5 ∨ i = 6 ∨ i = 7 ∨ i = 8 ∨ i = 9 ∨ i = 10 := by omega
    rcases this with rfl | rfl | rfl | rfl | rfl | rfl | rfl | rfl | rfl | rfl | rfl
    · cases hi; rw [w a0 rfl]; rfl
    · cases hi; rw [hv rfl]; rfl
    · cases hi; rw [w a2 rfl]; rfl
    · cases hi; rw [w a3 rfl]; rfl
    · cases hi; rw [w a4 rfl]; rfl
    · cases hi; rw [w a5 rfl]; rfl
    · cases hi; rw [w a6 rfl]; rfl
    · cases hi; rw [w a7 rfl]; rfl
    · cases hi; rw [w a8 rfl]; rfl
    · cases hi; rw [w a9 rfl]; rfl
    · cases hi; rw [w a10 rfl]; rfl
theorem bad_none {fs : List V} (hl : fs.length = 11) (h : ∀ k v, fs[k]? = some v → ownAt k v = true) (hp : ∀ n v, fs[0]? = some n → fs[1]? = some v → pairV n v = true) : badF fs = none := by
  obtain ⟨a0, a1, a2, a3, a4, a5, a6, a7, a8, a9, a10, rfl⟩ := eleven hl
  have ej : jud [a0, a1, a2, a3, a4, a5, a6, a7, a8, a9, a10] = [ownAt 0 a0, valJ a1 a0, ownAt 2 a2, ownAt 3 a3, ownAt 4 a4, ownAt 5 a5, ownAt 6 a6, ownAt 7 a7, ownAt 8 a8, ownAt 9 a9, ownAt 10 a10] := rfl
  unfold badF
  rw [ej, valJ_eq, h 0 a0 rfl, h 1 a1 rfl, hp a0 a1 rfl rfl, h 2 a2 rfl, h 3 a3 rfl, h 4 a4 rfl, h 5 a5 rfl, h 6 a6 rfl, h 7 a7 rfl, h 8 a8 rfl, h 9 a9 rfl, h 10 a10 rfl]
  rfl
theorem put_set {fs : List V} {i : Nat} {f : Str} {v : V} (hl : fs.length = 11) (hi : namesF[i]? = some f) : putK (setL fs) (.inr f) v = setL (fs.set i v) := by
  obtain ⟨a0, a1, a2, a3, a4, a5, a6, a7, a8, a9, a10, rfl⟩ := eleven hl
  have hi11 : i < 11 := (List.getElem?_eq_some_iff.mp hi).1
  have : i = 0 ∨ i = 1 ∨ i = 2 ∨ i = 3 ∨ i = 4 ∨ i = 5 ∨ i = 6 ∨ i = 7 ∨ i = 8 ∨ i = 9 ∨ i = 10 := by omega
  rcases this with rfl | rfl | rfl | rfl | rfl | rfl | rfl | rfl | rfl | rfl | rfl <;> (cases hi; rfl)
theorem setL_len {fs : List V} (hl : fs.length = 11) : (setL fs).length = 11 := by
  unfold setL zipF
  rw [List.length_map, List.length_zip, hl]; rfl
/-- the right settings -/
structure RightL (fs : List V) : Prop where
  len : fs.length = 11
  own : ∀ k v, fs[k]? = some v → ownAt k v = true
  pair : ∀ n v, fs[0]? = some n → fs[1]? = some v → pairV n v = true
  fv : ∀ H : Hp, ∀ z ∈ fs, Fv H z
  nr : ∀ z ∈ fs, flat4 z = true
theorem orN_opt {P : V → Prop} {f : V → Bool} {v : V} (h : OptOk P v) (g : ∀ u, P u → f u = true) : orN f v = true := by
  rcases h with rfl | h
  · rfl
  · unfold orN; rw [g v h, Bool.or_true]
theorem LineOk.right {x y : Str} {ex ag dm pt sm pr : V} (L : LineOk x y ex ag dm pt sm pr) (se hi pa : Bool) : RightL [.str x, .str y, ex, ag, dm, pt, .bl se, .bl hi, sm, .bl pa, pr] where
  len := rfl
  own := fun k v h => by
    have l2 := L.l1
    have hk : k < 11 := (List.getElem?_eq_some_iff.mp h).1
    have : k = 0 ∨ k = 1 ∨ k = 2 ∨ k = 3 ∨ k = 4 ∨ k = 5 ∨ k = 6 ∨ k = 7 ∨ k = 8 ∨ k = 9 ∨ k = 10 := by omega
    rcases this with rfl | rfl | rfl | rfl | rfl | rfl | rfl | rfl | rfl | rfl | rfl <;> cases h
    · exact L.nm
    · show (partB (tl y) && decide ((tl y).length ≤ 4096)) = true
      rw [L.vl, decide_eq_true (by omega)]; rfl
    · exact orN_opt L.ex fun u ⟨i, e, i0, i1⟩ => by rw [e]; show (decide (0 ≤ i) && decide (i ≤ lastT)) = true; rw [decide_eq_true i0, decide_eq_true i1]; rfl
    · exact orN_opt L.ag fun u ⟨i, e, i0, i1⟩ => by rw [e]; show (decide (0 ≤ i) && decide (i ≤ 34560000)) = true; rw [decide_eq_true i0, decide_eq_true i1]; rfl
    · exact orN_opt L.dm fun u ⟨z, e, hz⟩ => by rw [e]; exact hz
    · exact orN_opt L.pt fun u ⟨z, e, hz⟩ => by rw [e]; exact hz
    · rfl
    · rfl
    · exact orN_opt L.sm fun u ⟨z, e, hz⟩ => by rw [e]; rcases hz with rfl | rfl | rfl <;> decide +kernel
    · rfl
    · exact orN_opt L.pr fun u ⟨i, e, i0, i1⟩ => by rw [e]; show (decide (0 ≤ i) && decide (i ≤ 2)) = true; rw [decide_eq_true i0, decide_eq_true i1]; rfl
  pair := fun n v h1 h2 => by
    cases h1; cases h2
    show (decide _ && decide _) = true
    rw [decide_eq_true L.l0, decide_eq_true L.l1]; rfl
  fv := fun H z hz => by
    have l2 := L.l1
    simp only [List.mem_cons, List.not_mem_nil, or_false] at hz
    have tI : ∀ {P : Int → Prop} {v : V}, OptOk (fun v => ∃ i : Int, v = .int i ∧ P i) v → Fv H v := fun {P v} h => h.elim (fun e => .inl e) fun ⟨i, e, _⟩ => .inr (.inr (.inl ⟨i, e⟩))
    rcases hz with rfl | rfl | rfl | rfl | rfl | rfl | rfl | rfl | rfl | rfl | rfl
    · exact .inr (.inr (.inr (.inl ⟨x, rfl, by rw [len_tl]; omega⟩)))
    · exact .inr (.inr (.inr (.inl ⟨y, rfl, by rw [len_tl]; omega⟩)))
    · exact tI L.ex
    · exact tI L.ag
    · exact L.dm.elim (fun e => .inl e) fun ⟨z, e, hz⟩ => .inr (.inr (.inr (.inl ⟨z, e, by unfold hostB at hz; rw [Bool.and_eq_true] at hz; have := of_decide_eq_true hz.1; rw [len_tl]; omega⟩)))
    · exact L.pt.elim (fun e => .inl e) fun ⟨z, e, hz⟩ => .inr (.inr (.inr (.inl ⟨z, e, by unfold pathB at hz; rw [Bool.and_eq_true] at hz; have := of_decide_eq_true hz.1; rw [len_tl]; omega⟩)))
    · exact .inr (.inl ⟨_, rfl⟩)
    · exact .inr (.inl ⟨_, rfl⟩)
    · exact L.sm.elim (fun e => .inl e) fun ⟨z, e, hz⟩ => .inr (.inr (.inr (.inl ⟨z, e, by rcases hz with rfl | rfl | rfl <;> decide +kernel⟩)))
    · exact .inr (.inl ⟨_, rfl⟩)
    · exact tI L.pr
  nr := fun z hz => by
    simp only [List.mem_cons, List.not_mem_nil, or_false] at hz
    rcases hz with rfl | rfl | rfl | rfl | rfl | rfl | rfl | rfl | rfl | rfl | rfl
    · rfl
    · rfl
    · rcases L.ex with rfl | ⟨i, rfl, _⟩ <;> rfl
    · rcases L.ag with rfl | ⟨i, rfl, _⟩ <;> rfl
    · rcases L.dm with rfl | ⟨i, rfl, _⟩ <;> rfl
    · rcases L.pt with rfl | ⟨i, rfl, _⟩ <;> rfl
    · rfl
    · rfl
    · rcases L.sm with rfl | ⟨i, rfl, _⟩ <;> rfl
    · rfl
    · rcases L.pr with rfl | ⟨i, rfl, _⟩ <;> rfl
theorem RightL.bad {fs : List V} (h : RightL fs) : badF fs = none := bad_none h.len h.own h.pair
/-- one wrong -/
theorem bad_one {fs : List V} (h : RightL fs) {i : Nat} {f : Str} {v : V} (hi : namesF[i]? = some f) (w : ownAt i v = false) : badF (fs.set i v) = some f := by
  have hi11 : i < 11 := (List.getElem?_eq_some_iff.mp hi).1
  refine bad_first (by rw [List.length_set]; exact h.len) hi (fun k u hk e => h.own k u ?_) (fun u e => ?_) fun n u e1 e2 q => h.pair n u ?_ ?_
  · rw [List.getElem?_set_ne (by omega)] at e; exact e
  · rw [List.getElem?_set_self (by rw [h.len]; exact hi11)] at e; cases e; exact w
  · rw [List.getElem?_set_ne (by omega)] at e1; exact e1
  · rw [List.getElem?_set_ne (by omega)] at e2; exact e2
/-- two wrong ones -/
theorem bad_two {fs : List V} (h : RightL fs) {i j : Nat} {f g : Str} {v u : V} (hi : namesF[i]? = some f) (hj : namesF[j]? = some g) (w : ownAt i v = false) (w2 : ownAt j u = false) : badF ((fs.set i v).set j u) = some (if j < i then g else f) := by
  have hi11 : i < 11 := (List.getElem?_eq_some_iff.mp hi).1
  have hj11 : j < 11 := (List.getElem?_eq_some_iff.mp hj).1
  have hl : ((fs.set i v).set j u).length = 11 := by rw [List.length_set, List.length_set]; exact h.len
  by_cases q : j < i
  · rw [if_pos q]
    refine bad_first hl hj (fun k z hk e => h.own k z ?_) (fun z e => ?_) fun n z e1 e2 q2 => h.pair n z ?_ ?_
    · rw [List.getElem?_set_ne (by omega), List.getElem?_set_ne (by omega)] at e; exact e
    · rw [List.getElem?_set_self (by rw [List.length_set, h.len]; exact hj11)] at e; cases e; exact w2
    · rw [List.getElem?_set_ne (by omega), List.getElem?_set_ne (by omega)] at e1; exact e1
    · rw [List.getElem?_set_ne (by omega), List.getElem?_set_ne (by omega)] at e2; exact e2
  · rw [if_neg q]
    refine bad_first hl hi (fun k z hk e => h.own k z ?_) (fun z e => ?_) fun n z e1 e2 q2 => h.pair n z ?_ ?_
    · rw [List.getElem?_set_ne (by omega), List.getElem?_set_ne (by omega)] at e; exact e
    · by_cases q2 : j = i
      · subst q2
        rw [List.getElem?_set_self (by rw [List.length_set, h.len]; exact hj11)] at e; cases e; exact w2
      · rw [List.getElem?_set_ne q2, List.getElem?_set_self (by rw [h.len]; exact hi11)] at e; cases e; exact w
    · rw [List.getElem?_set_ne (by omega), List.getElem?_set_ne (by omega)] at e1; exact e1
    · rw [List.getElem?_set_ne (by omega), List.getElem?_set_ne (by omega)] at e2; exact e2
theorem eqv4 {v u : V} (h1 : flat4 v = true) (h2 : flat4 u = true) : PyData.eqv (datV v) (datV u) = eq4 v u := by
  cases v <;> first | (exact absurd (show false = true from h1) Bool.false_ne_true) | skip
  all_goals cases u <;> first | (exact absurd (show false = true from h2) Bool.false_ne_true) | skip
  all_goals simp [datV, PyData.eqv, eq4]
theorem sets {H : Hp} {w : Addr} {fs : List V} {f : Option Str} (hl : fs.length = 11) (mw : H w = some (.dK (setL fs))) (fv : ∀ z ∈ fs, Fv H z) (hb : badF fs = f) :
    ∃ a0 a1 a2 a3 a4 a5 a6 a7 a8 a9 a10 : V, H w = some (.dK (setL [a0, a1, a2, a3, a4, a5, a6, a7, a8, a9, a10])) ∧ (∀ z ∈ [a0, a1, a2, a3, a4, a5, a6, a7, a8, a9, a10], Fv H z) ∧ badF [a0, a1, a2, a3, a4, a5, a6, a7, a8, a9, a10] = f := by
  obtain ⟨a0, a1, a2, a3, a4, a5, a6, a7, a8, a9, a10, rfl⟩ := eleven hl
  exact ⟨a0, a1, a2, a3, a4, a5, a6, a7, a8, a9, a10, mw, fv, hb⟩
theorem set_fv {H : Hp} {fs : List V} {i : Nat} {v : V} (h : ∀ z ∈ fs, Fv H z) (hv : Fv H v) : ∀ z ∈ fs.set i v, Fv H z := fun z hz => (List.mem_or_eq_of_mem_set hz).elim (h z) (fun e => e ▸ hv)
theorem name_all : namesF.all (fun f => SeqAt.shaped (.list [.str f])) = true := by decide +kernel
theorem name_sh {i : Nat} {f : Str} (h : namesF[i]? = some f) : SeqAt.shaped (.list [.str f]) = true := List.all_eq_true.mp name_all f (List.mem_of_getElem? h)
theorem eqv_one (f : Str) : (!PyData.eqv (.list [.str f]) (.list [.str f])) = false := by simp [PyData.eqv, PyData.eqvAll]
theorem bad_val {n v a2 a3 a4 a5 a6 a7 a8 a9 a10 : V} (h : textV nameL n = true) (hv : valJ v n = false) : badF [n, v, a2, a3, a4, a5, a6, a7, a8, a9, a10] = some "value" :=
  bad_at (i := 1) (by show (textV nameL n && true) = true; rw [h]; rfl) (by show some (("value" : Str), valJ v n) = some (("value" : Str), false); rw [hv])
theorem fv_str {H : Hp} {x : Str} (h : x.length ≤ 5000 := by decide +kernel) : Fv H (.str x) := .inr (.inr (.inr (.inl ⟨x, rfl, h⟩)))
theorem neS_self (z : Str) : (!decide (V.str z = V.str z)) = false := by simp
theorem ite_not {b : Bool} {A B : Prop} (h : b = false) (q : B) : if b = true then A else B := by rw [h]; exact iteF q
theorem setL_flat {fs : List V} (h : RightL fs) : ∀ p ∈ setL fs, flat4 p.2 = true := fun p hp => by
  obtain ⟨a0, a1, a2, a3, a4, a5, a6, a7, a8, a9, a10, rfl⟩ := eleven h.len
  obtain ⟨q, hq, rfl⟩ := List.mem_map.mp hp
  exact h.nr _ (List.of_mem_zip (a := q.1) (b := q.2) hq).2
theorem eqF_KB {A B : List V} (hA : RightL A) (hB : RightL B) : eqF (zipF A) (zipF B) = eqKB (setL B) (setL A) := by
  have nA := hA.nr
  have nB := hB.nr
  obtain ⟨a0, a1, a2, a3, a4, a5, a6, a7, a8, a9, a10, rfl⟩ := eleven hA.len
  obtain ⟨b0, b1, b2, b3, b4, b5, b6, b7, b8, b9, b10, rfl⟩ := eleven hB.len
  show PyData.eqvAll [datV a0, datV a1, datV a2, datV a3, datV a4, datV a5, datV a6, datV a7, datV a8, datV a9, datV a10] [datV b0, datV b1, datV b2, datV b3, datV b4, datV b5, datV b6, datV b7, datV b8, datV b9, datV b10] = (eq4 a0 b0 && (eq4 a1 b1 && (eq4 a2 b2 && (eq4 a3 b3 && (eq4 a4 b4 && (eq4 a5 b5 && (eq4 a6 b6 && (eq4 a7 b7 && (eq4 a8 b8 && (eq4 a9 b9 && (eq4 a10 b10 && true)))))))))))
  simp only [PyData.eqvAll]
  rw [eqv4 (nA a0 (by simp)) (nB b0 (by simp)), eqv4 (nA a1 (by simp)) (nB b1 (by simp)), eqv4 (nA a2 (by simp)) (nB b2 (by simp)), eqv4 (nA a3 (by simp)) (nB b3 (by simp)), eqv4 (nA a4 (by simp)) (nB b4 (by simp)), eqv4 (nA a5 (by simp)) (nB b5 (by simp)), eqv4 (nA a6 (by simp)) (nB b6 (by simp)), eqv4 (nA a7 (by simp)) (nB b7 (by simp)), eqv4 (nA a8 (by simp)) (nB b8 (by simp)), eqv4 (nA a9 (by simp)) (nB b9 (by simp)), eqv4 (nA a10 (by simp)) (nB b10 (by simp))]
def sp_law (K : PySem.W.Frag) : Sp := fun vs H Q _ => ∃ (a : Addr) (ns : List Int), vs = [.ref a] ∧ SqL K H a (ns.map V.int) ∧ ns.length ≤ 63 ∧ ∀ H', Q (.bl true) H'
section
variable {P : Program} {w : World} {K : PySem.W.Frag} {mg : Str → Option Value} {base : Heap}
theorem ok_is_integer (T : Txt K mg) : Cal P w K mg base CX0 1 "is_integer" ["value"] (sp_is_integer K) := by
  refine T.d_is_integer.ok0 sc_is_integer (fun vs H Q E h => ?_) (fun f cdv A outer s H vs Q E hr h => ?_)
  · first | (obtain ⟨_, rfl, _⟩ := h; rfl) | (obtain ⟨_, _, rfl, _⟩ := h; rfl) | (obtain ⟨_, _, _, rfl, _⟩ := h; rfl) | (obtain ⟨_, _, _, _, rfl, _⟩ := h; rfl) | (obtain ⟨_, _, _, _, _, rfl, _⟩ := h; rfl)
  · refine ⟨_, (pss_one (ps_ret (pe_and (pe_callB call_isi (by rfl) T.b_isinstance (by decide +kernel) (pa_cons (pv 0) (pa_cons (pe_bltn (v := .ty "int") (by rfl) T.b_int (by decide +kernel) rfl) pa_nil))) (pe_one (pe_not (pe_callB call_isi (by rfl) T.b_isinstance (by decide +kernel) (pa_cons (pv 0) (pa_cons (pe_bltn (v := .ty "bool") (by rfl) T.b_bool (by decide +kernel) rfl) pa_nil)))))))), ?_⟩
    obtain ⟨v, rfl, h⟩ := h
    rcases h with ⟨i, rfl, hQ⟩ | ⟨h, hQ⟩
    · refine ⟨_, rfl, _, _, _, _, true, rfl, .ty _, .base (.int i), kit_ty (by decide +kernel), _, rfl, iteT ?_⟩
      exact ⟨_, rfl, _, _, _, _, false, rfl, .ty _, .base (.int i), kit_ty (by decide +kernel), _, rfl, hQ⟩
    · rcases h with ⟨b, rfl⟩ | ⟨t, ht, hk⟩
      · refine ⟨_, rfl, _, _, _, _, true, rfl, .ty _, .base (.bl b), kit_ty (by decide +kernel), _, rfl, iteT ?_⟩
        exact ⟨_, rfl, _, _, _, _, true, rfl, .ty _, .base (.bl b), kit_ty (by decide +kernel), _, rfl, hQ⟩
      · exact ⟨_, rfl, _, _, _, _, false, rfl, .ty _, ht, hk, _, rfl, iteF hQ⟩
theorem ok_is_tick (T : Txt K mg) : Cal P w K mg base CX0 2 "is_tick" ["value"] (sp_is_tick K) := by
  refine T.d_is_tick.ok0 sc_is_tick (fun vs H Q E h => ?_) (fun f cdv A outer s H vs Q E hr h => ?_)
  · first | (obtain ⟨_, rfl, _⟩ := h; rfl) | (obtain ⟨_, _, rfl, _⟩ := h; rfl) | (obtain ⟨_, _, _, rfl, _⟩ := h; rfl) | (obtain ⟨_, _, _, _, rfl, _⟩ := h; rfl) | (obtain ⟨_, _, _, _, _, rfl, _⟩ := h; rfl)
  · refine ⟨_, (pss_one (ps_ret (pe_and (pe_c (ok_is_integer T) hr (by decide) (by rfl) pass0 (pa_cons (pv 0) pa_nil)) (pe_one (pe_chain (op_le) (op_le) pe_int (pv 0) (pe_gc (by rfl) T.c_LAST_TICK)))))), ?_⟩
    obtain ⟨v, rfl, h⟩ := h
    rcases h with ⟨i, rfl, hQ⟩ | ⟨h, hQ⟩
    · refine ⟨_, rfl, _, rfl, .inl ⟨i, rfl, _, rfl, iteT ?_⟩⟩
      refine ⟨_, rfl, _, _, rfl, rfl, _, rfl, ?_⟩
      cases h0 : decide ((0 : Int) ≤ i) with
      | false => rw [h0, Bool.false_and] at hQ; exact iteF hQ
      | true => rw [h0, Bool.true_and] at hQ; exact iteT ⟨_, _, rfl, rfl, hQ⟩
    · exact ⟨_, rfl, _, rfl, .inr ⟨h, _, rfl, iteF hQ⟩⟩
theorem ok_has_only (T : Txt K mg) : Cal P w K mg base CX0 1 "has_only" ["text", "signs"] sp_has_only := by
  refine T.d_has_only.ok0 sc_has_only (fun vs H Q E h => ?_) (fun f cdv A outer s H vs Q E hr h => ?_)
  · first | (obtain ⟨_, rfl, _⟩ := h; rfl) | (obtain ⟨_, _, rfl, _⟩ := h; rfl) | (obtain ⟨_, _, _, rfl, _⟩ := h; rfl) | (obtain ⟨_, _, _, _, rfl, _⟩ := h; rfl) | (obtain ⟨_, _, _, _, _, rfl, _⟩ := h; rfl)
  · refine ⟨_, (pss_one (ps_ret (pe_and (pe_cmpR (op_ne) (pv 0) pe_str (nomark _)) (pe_one (pe_cmpR (op_eq) (pe_m1 PySem.F.slot_str_strip PySem.F.type_str_strip mt_stripChars (pv 0) (pv 1)) pe_str (nomark _)))))), ?_⟩
    obtain ⟨x, g, rfl, hx, hQ⟩ := h
    rw [← strip_only] at hQ
    refine ⟨_, rfl, rfl, _, rfl, ?_⟩
    cases hz : (!decide (V.str x = V.str ("" : Str))) with
    | false => rw [hz, Bool.false_and] at hQ; exact iteF hQ
    | true =>
      rw [hz, Bool.true_and] at hQ
      exact iteT ⟨_, rfl, ⟨_, rfl⟩, _, rfl, _, _, rfl, rfl, Nat.le_trans hx (by decide), rfl, hQ⟩
theorem ok_is_digits (T : Txt K mg) : Cal P w K mg base CX0 2 "is_digits" ["text"] sp_is_digits := by
  refine T.d_is_digits.ok0 sc_is_digits (fun vs H Q E h => ?_) (fun f cdv A outer s H vs Q E hr h => ?_)
  · first | (obtain ⟨_, rfl, _⟩ := h; rfl) | (obtain ⟨_, _, rfl, _⟩ := h; rfl) | (obtain ⟨_, _, _, rfl, _⟩ := h; rfl) | (obtain ⟨_, _, _, _, rfl, _⟩ := h; rfl) | (obtain ⟨_, _, _, _, _, rfl, _⟩ := h; rfl)
  · refine ⟨_, (pss_one (ps_ret (pe_c (ok_has_only T) hr (by decide) (by rfl) pass0 (pa_cons (pv 0) (pa_cons (pe_gc (by rfl) T.c_DIGITS) pa_nil))))), ?_⟩
    obtain ⟨x, rfl, hx, hQ⟩ := h
    exact ⟨_, rfl, x, _, rfl, hx, by rw [tl_digs]; exact hQ⟩
theorem ok__is_label (T : Txt K mg) : Cal P w K mg base CX0 2 "_is_label" ["text"] sp__is_label := by
  refine T.d__is_label.ok0 sc__is_label (fun vs H Q E h => ?_) (fun f cdv A outer s H vs Q E hr h => ?_)
  · first | (obtain ⟨_, rfl, _⟩ := h; rfl) | (obtain ⟨_, _, rfl, _⟩ := h; rfl) | (obtain ⟨_, _, _, rfl, _⟩ := h; rfl) | (obtain ⟨_, _, _, _, rfl, _⟩ := h; rfl) | (obtain ⟨_, _, _, _, _, rfl, _⟩ := h; rfl)
  · refine ⟨_, (pss_cons (ps_if (PW.pt (pw_or (pt_cmpR (op_gt) (pe_callB call_len_str (by rfl) T.b_len (by decide +kernel) (pa_cons (pv 0) pa_nil)) (pe_gc (by rfl) T.c_MOST_OF_LABEL) (nomark _)) (pw_or1 (pt_not (pt_val (pe_c (ok_has_only T) hr (by decide) (by rfl) pass0 (pa_cons (pv 0) (pa_cons (pe_gc (by rfl) T.c_LABEL_SIGNS) pa_nil))))))))
      (pss_one (ps_ret pe_bl))
      pss_nil)
      (pss_one (ps_ret (pe_and (pe_cmpR (op_ne) (pe_ix ix_str (pv 0) pe_int (fun _ _ => rfl)) pe_str (nomark _)) (pe_one (pe_cmpR (op_ne) (pe_ix ix_str (pv 0) (pe_un un_neg pe_int) (fun _ _ => rfl)) pe_str (nomark _))))))), ?_⟩
    obtain ⟨x, rfl, hx, hQ⟩ := h
    refine ⟨_, rfl, x, rfl, Nat.le_trans hx (by decide), _, _, rfl, rfl, _, rfl, iteB (fun h1 => ?_) (fun h1 => ?_)⟩
    · have h1 : (20 : Int) < (x.length : Int) := of_decide_eq_true h1
      have e : labB (tl x) = false := by
        unfold labB
        rw [decide_eq_false (by rw [len_tl] at h1; omega), Bool.false_and]
      rw [e] at hQ
      exact hQ
    have h1 : ¬ (20 : Int) < (x.length : Int) := of_decide_eq_false h1
    have hl : (tl x).length ≤ 20 := by rw [len_tl] at h1; omega
    unfold labB at hQ
    rw [decide_eq_true hl, Bool.true_and] at hQ
    refine ⟨_, rfl, x, _, rfl, hx, ?_⟩
    rw [tl_lsig]
    refine ⟨_, rfl, ?_⟩
    cases h2 : onlyB lsig (tl x) with
    | false =>
      rw [h2, Bool.false_and] at hQ
      exact iteT hQ
    | true =>
      rw [h2, Bool.true_and] at hQ
      refine iteF ?_
      have hne : tl x ≠ [] := by
        unfold onlyB at h2
        rw [Bool.and_eq_true, decide_eq_true_eq] at h2
        exact h2.2
      obtain ⟨r, d, er⟩ := snoc_of_ne hne
      obtain ⟨a, r2, ea⟩ : ∃ a r2, tl x = a :: r2 := List.exists_cons_of_ne_nil hne
      have h0 : atI x.cps.toList 0 = some a := by show atI (tl x) ((0 : Nat) : Int) = _; rw [ea]; exact atI_nat rfl
      have hz : atI x.cps.toList (-1) = some d := by show atI (tl x) (-1) = _; rw [er]; exact atI_last r d
      have e1 : (tl x).head? = some a := by rw [ea]; rfl
      have e2 : (tl x).getLast? = some d := by rw [er, List.getLast?_concat]
      rw [e1, e2] at hQ
      refine ⟨_, rfl, x, _, a, rfl, rfl, Nat.le_trans hx (by decide), h0, rfl, _, rfl, ?_⟩
      rw [one_dash]
      have e3 : decide (some a ≠ some 45) = !decide (a = 45) := by rw [Bool.eq_iff_iff]; simp
      have e4 : decide (some d ≠ some 45) = !decide (d = 45) := by rw [Bool.eq_iff_iff]; simp
      rw [e3, e4] at hQ
      cases h3 : decide (a = 45) with
      | true =>
        rw [h3] at hQ
        exact iteF hQ
      | false =>
        rw [h3] at hQ
        refine iteT ⟨_, rfl, _, rfl, x, _, d, rfl, rfl, Nat.le_trans hx (by decide), hz, rfl, ?_⟩
        rw [one_dash]
        exact hQ
theorem ok_are_labels (T : Txt K mg) : Cal P w K mg base CX0 3 "are_labels" ["texts"] (sp_are_labels K) := by
  refine T.d_are_labels.ok0 sc_are_labels (fun vs H Q E h => ?_) (fun f cdv A outer s H vs Q E hr h => ?_)
  · first | (obtain ⟨_, rfl, _⟩ := h; rfl) | (obtain ⟨_, _, rfl, _⟩ := h; rfl) | (obtain ⟨_, _, _, rfl, _⟩ := h; rfl) | (obtain ⟨_, _, _, _, rfl, _⟩ := h; rfl) | (obtain ⟨_, _, _, _, _, rfl, _⟩ := h; rfl)
  · refine ⟨_, (pss_cons (ps_for PassesOwn.never rfl (pi_list (pv 0)) (pg_name (i := 1) sc_are_labels.nd rfl (by first | exact Or.inl rfl | exact Or.inr rfl))
      (pss_one (ps_if (pt_not (pt_val (pe_c (ok__is_label T) hr (by decide) (by rfl) pass0 (pa_cons (pv 1) pa_nil))))
      (pss_one (ps_ret pe_bl))
      pss_nil)))
      (pss_one (ps_ret pe_bl))), ?_⟩
    obtain ⟨p, xs, rfl, hp, hx, hQ⟩ := h
    refine ⟨_, rfl, p, rfl, ⟨_, hp⟩, for_list (K := K) (a := p) (xs := xs.map V.str) (fun i σ H1 => ∃ sv, σ = [some (.ref p), sv] ∧ H1 = H ∧ ((xs.take i).map tl).all labB = true) ⟨none, rfl, rfl, by simp⟩ (fun i σ H1 _ ⟨_, _, e, _⟩ => by rw [e]; exact hp) ?_ ?_⟩
    · rintro i v σ H1 hi ⟨sv, rfl, rfl, ha⟩
      obtain ⟨x, hxi, rfl⟩ := strAt hi
      refine ⟨_, rfl, x, rfl, hx x (List.mem_of_getElem? hxi), _, rfl, ?_⟩
      cases hl : labB (tl x) with
      | true => exact iteF ⟨_, rfl, rfl, by rw [allS_at hxi, ha, hl]; rfl⟩
      | false =>
        have e : (xs.map tl).all labB = false := by
          rw [List.all_eq_false]
          exact ⟨tl x, List.mem_map.mpr ⟨x, List.mem_of_getElem? hxi, rfl⟩, by rw [hl]; exact Bool.false_ne_true⟩
        rw [e] at hQ
        exact iteT hQ
    · rintro σ H1 ⟨sv, rfl, rfl, ha⟩
      rw [List.length_map, List.take_length] at ha
      rw [ha] at hQ
      exact hQ
theorem ok__is_number (T : Txt K mg) : Cal P w K mg base CX0 3 "_is_number" ["label"] sp__is_number := by
  refine T.d__is_number.ok0 sc__is_number (fun vs H Q E h => ?_) (fun f cdv A outer s H vs Q E hr h => ?_)
  · first | (obtain ⟨_, rfl, _⟩ := h; rfl) | (obtain ⟨_, _, rfl, _⟩ := h; rfl) | (obtain ⟨_, _, _, rfl, _⟩ := h; rfl) | (obtain ⟨_, _, _, _, rfl, _⟩ := h; rfl) | (obtain ⟨_, _, _, _, _, rfl, _⟩ := h; rfl)
  · refine ⟨_, (pss_cons (ps_if (PW.pt (pw_or (pt_not (pt_val (pe_c (ok_is_digits T) hr (by decide) (by rfl) pass0 (pa_cons (pv 0) pa_nil)))) (pw_or1 (pt_cmpR (op_gt) (pe_callTy call_int_str (by rfl) T.b_int (by decide +kernel) (pa_cons (pv 0) pa_nil)) (pe_gc (by rfl) T.c_MOST_OF_NUMBER) (nomark _)))))
      (pss_one (ps_ret pe_bl))
      pss_nil)
      (pss_one (ps_ret (pe_or (pe_cmpR (op_eq) (pv 0) pe_str (nomark _)) (pe_one (pe_cmpR (op_ne) (pe_ix ix_str (pv 0) pe_int (fun _ _ => rfl)) pe_str (nomark _))))))), ?_⟩
    obtain ⟨x, rfl, hx, hQ⟩ := h
    unfold numB at hQ
    refine ⟨_, rfl, x, rfl, Nat.le_trans hx (by decide), _, rfl, ?_⟩
    cases h1 : digB (tl x) with
    | false =>
      rw [h1, Bool.false_and] at hQ
      exact iteT hQ
    | true =>
      rw [h1, Bool.true_and] at hQ
      refine iteF ⟨_, rfl, x, _, rfl, int_dig h1 hx, hx, _, _, rfl, rfl, _, rfl, ?_⟩
      refine iteB (fun h2 => ?_) (fun h2 => ?_)
      · have h2 : (255 : Int) < ((NumText.digitsVal (tl x) : Nat) : Int) := of_decide_eq_true h2
        rw [decide_eq_false (by omega), Bool.false_and] at hQ
        exact hQ
      · have h2 : ¬ (255 : Int) < ((NumText.digitsVal (tl x) : Nat) : Int) := of_decide_eq_false h2
        rw [decide_eq_true (by omega), Bool.true_and] at hQ
        refine ⟨_, rfl, rfl, _, rfl, ?_⟩
        rw [str_zero]
        cases h3 : decide (tl x = [48]) with
        | true =>
          rw [h3, Bool.true_or] at hQ
          exact iteT hQ
        | false =>
          rw [h3, Bool.false_or] at hQ
          obtain ⟨a, r2, ea⟩ : ∃ a r2, tl x = a :: r2 := List.exists_cons_of_ne_nil (digB_iff.mp h1).2
          have h0 : atI x.cps.toList 0 = some a := by show atI (tl x) ((0 : Nat) : Int) = _; rw [ea]; exact atI_nat rfl
          refine iteF ⟨_, rfl, x, _, a, rfl, rfl, Nat.le_trans hx (by decide), h0, rfl, ?_⟩
          rw [one_zero]
          have e3 : decide ((tl x).head? ≠ some 48) = !decide (a = 48) := by rw [ea, Bool.eq_iff_iff]; simp
          rw [e3] at hQ
          exact hQ
theorem ok__are_four_numbers (T : Txt K mg) : Cal P w K mg base CX0 4 "_are_four_numbers" ["labels"] (sp__are_four_numbers K) := by
  refine T.d__are_four_numbers.ok0 sc__are_four_numbers (fun vs H Q E h => ?_) (fun f cdv A outer s H vs Q E hr h => ?_)
  · first | (obtain ⟨_, rfl, _⟩ := h; rfl) | (obtain ⟨_, _, rfl, _⟩ := h; rfl) | (obtain ⟨_, _, _, rfl, _⟩ := h; rfl) | (obtain ⟨_, _, _, _, rfl, _⟩ := h; rfl) | (obtain ⟨_, _, _, _, _, rfl, _⟩ := h; rfl)
  · refine ⟨_, (pss_cons (ps_for PassesOwn.never rfl (pi_list (pv 0)) (pg_name (i := 1) sc__are_four_numbers.nd rfl (by first | exact Or.inl rfl | exact Or.inr rfl))
      (pss_one (ps_if (pt_not (pt_val (pe_c (ok__is_number T) hr (by decide) (by rfl) pass0 (pa_cons (pv 1) pa_nil))))
      (pss_one (ps_ret pe_bl))
      pss_nil)))
      (pss_one (ps_ret (pe_cmpR (op_eq) (pe_callB call_len_seq (by rfl) T.b_len (by decide +kernel) (pa_cons (pv 0) pa_nil)) pe_int (nomark _))))), ?_⟩
    obtain ⟨p, xs, rfl, hp, hx, hQ⟩ := h
    refine ⟨_, rfl, p, rfl, ⟨_, hp⟩, for_list (K := K) (a := p) (xs := xs.map V.str) (fun i σ H1 => ∃ sv, σ = [some (.ref p), sv] ∧ H1 = H ∧ ((xs.take i).map tl).all numB = true) ⟨none, rfl, rfl, by simp⟩ (fun i σ H1 _ ⟨_, _, e, _⟩ => by rw [e]; exact hp) ?_ ?_⟩
    · rintro i v σ H1 hi ⟨sv, rfl, rfl, ha⟩
      obtain ⟨x, hxi, rfl⟩ := strAt hi
      refine ⟨_, rfl, x, rfl, hx x (List.mem_of_getElem? hxi), _, rfl, ?_⟩
      cases hl : numB (tl x) with
      | true => exact iteF ⟨_, rfl, rfl, by rw [allS_at hxi, ha, hl]; rfl⟩
      | false =>
        have e : (xs.map tl).all numB = false := by
          rw [List.all_eq_false]
          exact ⟨tl x, List.mem_map.mpr ⟨x, List.mem_of_getElem? hxi, rfl⟩, by rw [hl]; exact Bool.false_ne_true⟩
        rw [e, Bool.false_and] at hQ
        exact iteT hQ
    · rintro σ H1 ⟨sv, rfl, rfl, ha⟩
      rw [List.length_map, List.take_length] at ha
      rw [ha, Bool.true_and] at hQ
      refine ⟨_, rfl, p, _, rfl, .inl hp, rfl, ?_⟩
      have e : decide (V.int ((xs.map V.str).length : Nat) = V.int 4) = decide (xs.length = 4) := by
        rw [dec_int, Bool.eq_iff_iff, beq_iff_eq, decide_eq_true_eq, List.length_map]; omega
      rw [e]
      exact hQ
theorem ok_is_host (T : Txt K mg) : Cal P w K mg base CX0 5 "is_host" ["value"] (sp_is_host K) := by
  refine T.d_is_host.ok0 sc_is_host (fun vs H Q E h => ?_) (fun f cdv A outer s H vs Q E hr h => ?_)
  · first | (obtain ⟨_, rfl, _⟩ := h; rfl) | (obtain ⟨_, _, rfl, _⟩ := h; rfl) | (obtain ⟨_, _, _, rfl, _⟩ := h; rfl) | (obtain ⟨_, _, _, _, rfl, _⟩ := h; rfl) | (obtain ⟨_, _, _, _, _, rfl, _⟩ := h; rfl)
  · refine ⟨_, (pss_cons (ps_if (PW.pt (pw_or (pt_not (pt_val (pe_callB call_isi (by rfl) T.b_isinstance (by decide +kernel) (pa_cons (pv 0) (pa_cons (pe_bltn (v := .ty "str") (by rfl) T.b_str (by decide +kernel) rfl) pa_nil))))) (pw_or1 (pt_cmpR (op_gt) (pe_callB call_len_str (by rfl) T.b_len (by decide +kernel) (pa_cons (pv 0) pa_nil)) (pe_gc (by rfl) T.c_MOST_OF_HOST) (nomark _)))))
      (pss_one (ps_ret pe_bl))
      pss_nil)
      (pss_cons (ps_set (i := 1) sc_is_host.nd rfl (by first | exact Or.inl rfl | exact Or.inr rfl) (pe_split (pv 0) pe_str))
      (pss_cons (ps_if (PW.pt (pw_or (pt_cmpR (op_gt) (pe_callB call_len_seq (by rfl) T.b_len (by decide +kernel) (pa_cons (pv 1) pa_nil)) (pe_gc (by rfl) T.c_MOST_LABELS) (nomark _)) (pw_or1 (pt_not (pt_val (pe_c (ok_are_labels T) hr (by decide) (by rfl) pass0 (pa_cons (pv 1) pa_nil)))))))
      (pss_one (ps_ret pe_bl))
      pss_nil)
      (pss_one (ps_ret (pe_or (pe_not (pe_c (ok_is_digits T) hr (by decide) (by rfl) pass0 (pa_cons (pe_ix ix_list (pv 1) (pe_un un_neg pe_int) (fun _ _ => rfl)) pa_nil))) (pe_one (pe_c (ok__are_four_numbers T) hr (by decide) (by rfl) pass0 (pa_cons (pv 1) pa_nil))))))))), ?_⟩
    obtain ⟨v, b, rfl, hv, hQ⟩ := h
    rcases hv with ⟨x, rfl, hx, rfl⟩ | ⟨t, ht, hk, rfl⟩
    · refine ⟨_, rfl, _, _, _, _, true, rfl, .ty _, .base (.str x), kit_str K, _, rfl, iteF ?_⟩
      refine ⟨_, rfl, x, rfl, Nat.le_trans hx (by decide), _, _, rfl, rfl, _, rfl, iteB (fun h1 => ?_) (fun h1 => ?_)⟩
      · have h1 : (100 : Int) < (x.length : Int) := of_decide_eq_true h1
        have e : hostB (tl x) = false := by
          unfold hostB
          rw [decide_eq_false (by rw [len_tl] at h1; omega), Bool.false_and]
        rw [e] at hQ
        exact hQ _ (Same.refl _)
      have h1 : ¬ (100 : Int) < (x.length : Int) := of_decide_eq_false h1
      have hl : (tl x).length ≤ 100 := by rw [len_tl] at h1; omega
      have hl2 : x.length ≤ 100 := by rw [len_tl]; exact hl
      unfold hostB at hQ
      rw [decide_eq_true hl, Bool.true_and] at hQ
      refine ⟨_, rfl, ⟨_, rfl⟩, _, _, rfl, rfl, by decide +kernel, Nat.le_trans (by omega : _ ≤ 10000) (by decide), fun p hp => ?_⟩
      have e1 := split_sp1 x (c := 46) (by decide)
      have ml : ∀ p ∈ Txt.split x ⟨#[46]⟩, p.length ≤ x.length := fun p hp => split_mem_len (c := 46) (by decide) hp
      rw [← dot_eq] at e1 ml
      rw [← e1] at hQ
      have hne : Txt.split x ("." : Str) ≠ [] := fun e => by rw [e] at e1; exact sp1_ne _ _ e1.symm
      generalize Txt.split x ("." : Str) = P at *
      obtain ⟨P0, z, eP⟩ : ∃ P0 z, P = P0 ++ [z] := ⟨P.dropLast, P.getLast hne, (List.dropLast_concat_getLast hne).symm⟩
      have s1 := Same.new (o := HO.lst (P.map V.str)) hp
      have m1 : (upd H p (.lst (P.map V.str))) p = some (.lst (P.map V.str)) := upd_same
      generalize upd H p (.lst (P.map V.str)) = H1 at s1 m1 ⊢
      unfold hostL at hQ
      refine ⟨_, rfl, p, _, rfl, .inl (SqL.of m1), _, _, rfl, rfl, _, rfl, iteB (fun h2 => ?_) (fun h2 => ?_)⟩
      · have h2 : (10 : Int) < ((P.map V.str).length : Int) := of_decide_eq_true h2
        rw [List.length_map] at h2
        rw [decide_eq_false (by rw [List.length_map]; omega), Bool.false_and] at hQ
        exact hQ _ s1
      have h2 : ¬ (10 : Int) < ((P.map V.str).length : Int) := of_decide_eq_false h2
      rw [List.length_map] at h2
      rw [decide_eq_true (by rw [List.length_map]; omega), Bool.true_and] at hQ
      refine ⟨_, rfl, p, P, rfl, SqL.of m1, fun y hy => Nat.le_trans (ml y hy) (by omega), _, rfl, ?_⟩
      cases h3 : (P.map tl).all labB with
      | false =>
        rw [h3, Bool.false_and] at hQ
        exact iteT (hQ _ s1)
      | true =>
        rw [h3, Bool.true_and, lastL_map eP] at hQ
        refine iteF ?_
        have ha : atI (P.map V.str) (-1) = some (.str z) := by rw [eP, List.map_append]; exact atI_last _ _
        refine ⟨_, rfl, _, rfl, p, _, _, _, rfl, rfl, SqL.of m1, ha, z, rfl, Nat.le_trans (ml z (by rw [eP]; simp)) (by omega), _, rfl, _, rfl, ?_⟩
        cases h4 : digB (tl z) with
        | false =>
          rw [h4] at hQ
          exact iteT (hQ _ s1)
        | true =>
          rw [h4] at hQ
          refine iteF ⟨_, rfl, p, P, rfl, SqL.of m1, fun y hy => Nat.le_trans (ml y hy) (by omega), ?_⟩
          rw [List.length_map] at hQ
          exact hQ _ s1
    · refine ⟨_, rfl, _, _, _, _, false, rfl, .ty _, ht, hk, _, rfl, iteT ?_⟩
      exact hQ _ (Same.refl _)
theorem ok__is_path_sign (T : Txt K mg) : Cal P w K mg base CX0 1 "_is_path_sign" ["sign"] sp__is_path_sign := by
  refine T.d__is_path_sign.ok0 sc__is_path_sign (fun vs H Q E h => ?_) (fun f cdv A outer s H vs Q E hr h => ?_)
  · first | (obtain ⟨_, rfl, _⟩ := h; rfl) | (obtain ⟨_, _, rfl, _⟩ := h; rfl) | (obtain ⟨_, _, _, rfl, _⟩ := h; rfl) | (obtain ⟨_, _, _, _, rfl, _⟩ := h; rfl) | (obtain ⟨_, _, _, _, _, rfl, _⟩ := h; rfl)
  · refine ⟨_, (pss_one (ps_ret (pe_and (pe_chain (op_le_str) (op_le_str) pe_str (pv 0) pe_str) (pe_and (pe_cmpR (op_notIn_sign) (pv 0) (pe_gc (by rfl) T.c_BARRED) rfl) (pe_one (pe_cmpR (op_ne) (pe_callB call_ord (by rfl) T.b_ord (by decide +kernel) (pa_cons (pv 0) pa_nil)) (pe_gc (by rfl) T.c_PERCENT) (nomark _))))))), ?_⟩
    obtain ⟨c, rfl, hQ⟩ := h
    rw [psign_eq] at hQ
    refine ⟨_, rfl, _, _, rfl, rfl, _, rfl, ?_⟩
    refine iteB (fun h1 => ?_) (fun h1 => ?_)
    · rw [if_pos h1] at hQ
      refine ⟨_, _, rfl, rfl, _, rfl, ?_⟩
      refine iteB (fun h2 => ?_) (fun h2 => ?_)
      · rw [if_pos h2] at hQ
        refine ⟨_, rfl, _, _, rfl, rfl, _, rfl, ?_⟩
        refine iteB (fun h3 => ?_) (fun h3 => ?_)
        · rw [if_pos h3] at hQ
          refine ⟨_, rfl, _, rfl, rfl, rfl, ?_⟩
          have e : decide (V.int (((⟨#[c]⟩ : Str).cps.getD 0 0 : Nat) : Int) = V.int 37) = decide ((c : Int) = 37) := by
            rw [show ((⟨#[c]⟩ : Str).cps.getD 0 0) = c from rfl, dec_int]; rfl
          rw [e]
          exact hQ
        · rw [if_neg (by rw [h3]; exact Bool.false_ne_true)] at hQ
          exact hQ
      · rw [if_neg (by rw [h2]; exact Bool.false_ne_true)] at hQ
        exact hQ
    · rw [if_neg (by rw [h1]; exact Bool.false_ne_true)] at hQ
      exact ⟨_, rfl, iteF hQ⟩
theorem ok_is_path (T : Txt K mg) : Cal P w K mg base CX0 2 "is_path" ["value"] (sp_is_path K) := by
  refine T.d_is_path.ok0 sc_is_path (fun vs H Q E h => ?_) (fun f cdv A outer s H vs Q E hr h => ?_)
  · first | (obtain ⟨_, rfl, _⟩ := h; rfl) | (obtain ⟨_, _, rfl, _⟩ := h; rfl) | (obtain ⟨_, _, _, rfl, _⟩ := h; rfl) | (obtain ⟨_, _, _, _, rfl, _⟩ := h; rfl) | (obtain ⟨_, _, _, _, _, rfl, _⟩ := h; rfl)
  · refine ⟨_, (pss_cons (ps_if (PW.pt (pw_or (pt_not (pt_val (pe_callB call_isi (by rfl) T.b_isinstance (by decide +kernel) (pa_cons (pv 0) (pa_cons (pe_bltn (v := .ty "str") (by rfl) T.b_str (by decide +kernel) rfl) pa_nil))))) (pw_or (pt_cmpR (op_gt) (pe_callB call_len_str (by rfl) T.b_len (by decide +kernel) (pa_cons (pv 0) pa_nil)) (pe_gc (by rfl) T.c_MOST_OF_PATH) (nomark _)) (pw_or1 (pt_not (pt_val (pe_m1 PySem.F.slot_str_startswith PySem.F.type_str_startswith mt_startswith (pv 0) pe_str)))))))
      (pss_one (ps_ret pe_bl))
      pss_nil)
      (pss_cons (ps_for PassesOwn.never rfl (pi_str (pv 0)) (pg_name (i := 1) sc_is_path.nd rfl (by first | exact Or.inl rfl | exact Or.inr rfl))
      (pss_one (ps_if (pt_not (pt_val (pe_c (ok__is_path_sign T) hr (by decide) (by rfl) pass0 (pa_cons (pv 1) pa_nil))))
      (pss_one (ps_ret pe_bl))
      pss_nil)))
      (pss_one (ps_ret pe_bl)))), ?_⟩
    obtain ⟨v, b, rfl, hv, hQ⟩ := h
    rcases hv with ⟨x, rfl, hx, rfl⟩ | ⟨t, ht, hk, rfl⟩
    · refine ⟨_, rfl, _, _, _, _, true, rfl, .ty _, .base (.str x), kit_str K, _, rfl, iteF ?_⟩
      refine ⟨_, rfl, x, rfl, Nat.le_trans hx (by decide), _, _, rfl, rfl, _, rfl, iteB (fun h1 => ?_) (fun h1 => ?_)⟩
      · have h1 : (200 : Int) < (x.length : Int) := of_decide_eq_true h1
        have e : pathB (tl x) = false := by
          unfold pathB
          rw [decide_eq_false (by rw [len_tl] at h1; omega), Bool.false_and]
        rw [e] at hQ
        exact hQ
      · have h1 : ¬ (200 : Int) < (x.length : Int) := of_decide_eq_false h1
        have hl : (tl x).length ≤ 200 := by rw [len_tl] at h1; omega
        refine ⟨_, rfl, ⟨_, rfl⟩, _, _, rfl, rfl, _, rfl, ?_⟩
        rw [startswith_tl]
        have e47 : tl ("/" : Str) = [47] := by decide +kernel
        rw [e47]
        cases h2 : [47].isPrefixOf (tl x) with
        | false =>
          have e : pathB (tl x) = false := by
            unfold pathB
            rw [h2, Bool.false_and, Bool.and_false]
          rw [e] at hQ
          exact iteT hQ
        | true =>
          refine iteF ?_
          refine ⟨_, rfl, x, rfl, for_str (z := x) (fun i σ H1 => ∃ sv, σ = [some (.str x), sv] ∧ H1 = H ∧ ((tl x).take i).all psign = true) ⟨none, rfl, rfl, by simp⟩ ?_ ?_⟩
          · rintro i c σ H1 hc ⟨sv, rfl, rfl, ha⟩
            refine ⟨_, rfl, c, rfl, _, rfl, ?_⟩
            cases hp : psign c with
            | true => exact iteF ⟨_, rfl, rfl, by rw [all_at hc, ha, hp]; rfl⟩
            | false =>
              have e : pathB (tl x) = false := by
                unfold pathB
                have : (tl x).all psign = false := by
                  rw [List.all_eq_false]
                  exact ⟨c, List.mem_of_getElem? hc, by rw [hp]; exact Bool.false_ne_true⟩
                rw [this, Bool.and_false, Bool.and_false]
              rw [e] at hQ
              exact iteT hQ
          · rintro σ H1 ⟨sv, rfl, rfl, ha⟩
            rw [List.take_length] at ha
            have e : pathB (tl x) = true := by
              unfold pathB
              rw [decide_eq_true hl, h2, ha]; rfl
            rw [e] at hQ
            exact hQ
    · refine ⟨_, rfl, _, _, _, _, false, rfl, .ty _, ht, hk, _, rfl, iteT ?_⟩
      exact hQ
theorem ok__is_from_0 (T : Txt K mg) : Cal P w K mg base CX0 2 "_is_from_0" ["value", "most"] (sp__is_from_0 K) := by
  refine T.d__is_from_0.ok0 sc__is_from_0 (fun vs H Q E h => ?_) (fun f cdv A outer s H vs Q E hr h => ?_)
  · first | (obtain ⟨_, rfl, _⟩ := h; rfl) | (obtain ⟨_, _, rfl, _⟩ := h; rfl) | (obtain ⟨_, _, _, rfl, _⟩ := h; rfl) | (obtain ⟨_, _, _, _, rfl, _⟩ := h; rfl) | (obtain ⟨_, _, _, _, _, rfl, _⟩ := h; rfl)
  · refine ⟨_, (pss_one (ps_ret (pe_and (pe_c (ok_is_integer T) hr (by decide) (by rfl) pass0 (pa_cons (pv 0) pa_nil)) (pe_one (pe_chain (op_le) (op_le) pe_int (pv 0) (pv 1)))))), ?_⟩
    obtain ⟨v, m, rfl, h⟩ := h
    rcases h with ⟨i, rfl, hQ⟩ | ⟨h, hQ⟩
    · refine ⟨_, rfl, _, rfl, .inl ⟨i, rfl, _, rfl, iteT ?_⟩⟩
      refine ⟨_, rfl, _, _, rfl, rfl, _, rfl, ?_⟩
      cases h0 : decide ((0 : Int) ≤ i) with
      | false => rw [h0, Bool.false_and] at hQ; exact iteF hQ
      | true => rw [h0, Bool.true_and] at hQ; exact iteT ⟨_, rfl, _, _, rfl, rfl, hQ⟩
    · exact ⟨_, rfl, _, rfl, .inr ⟨h, _, rfl, iteF hQ⟩⟩
theorem ok_is_trimmed (T : Txt K mg) : Cal P w K mg base CX0 1 "is_trimmed" ["text"] sp_is_trimmed := by
  refine T.d_is_trimmed.ok0 sc_is_trimmed (fun vs H Q E h => ?_) (fun f cdv A outer s H vs Q E hr h => ?_)
  · first | (obtain ⟨_, rfl, _⟩ := h; rfl) | (obtain ⟨_, _, rfl, _⟩ := h; rfl) | (obtain ⟨_, _, _, rfl, _⟩ := h; rfl) | (obtain ⟨_, _, _, _, rfl, _⟩ := h; rfl) | (obtain ⟨_, _, _, _, _, rfl, _⟩ := h; rfl)
  · refine ⟨_, (pss_one (ps_ret (pe_cmpR (op_eq) (pv 0) (pe_m1 PySem.F.slot_str_strip PySem.F.type_str_strip mt_stripChars (pv 0) (pe_gc (by rfl) T.c_BLANKS)) (nomark _)))), ?_⟩
    obtain ⟨x, rfl, hx, hQ⟩ := h
    refine ⟨_, rfl, _, rfl, ⟨_, rfl⟩, _, _, rfl, rfl, Nat.le_trans hx (by decide), rfl, ?_⟩
    have e : decide (V.str x = V.str (Txt.stripChars x " \t")) = decide (trimB (tl x) = tl x) := by
      refine decide_eq_decide.mpr ⟨fun h => ?_, fun h => ?_⟩
      · rw [← strip_blanks, ← V.str.inj h]
      · have e : x = Txt.stripChars x " \t" := ext_tl (by rw [strip_blanks, h])
        exact congrArg V.str e
    rw [e]
    exact hQ
theorem ok__has_control (T : Txt K mg) : Cal P w K mg base CX0 1 "_has_control" ["text"] sp__has_control := by
  refine T.d__has_control.ok0 sc__has_control (fun vs H Q E h => ?_) (fun f cdv A outer s H vs Q E hr h => ?_)
  · first | (obtain ⟨_, rfl, _⟩ := h; rfl) | (obtain ⟨_, _, rfl, _⟩ := h; rfl) | (obtain ⟨_, _, _, rfl, _⟩ := h; rfl) | (obtain ⟨_, _, _, _, rfl, _⟩ := h; rfl) | (obtain ⟨_, _, _, _, _, rfl, _⟩ := h; rfl)
  · refine ⟨_, (pss_cons (ps_for PassesOwn.never rfl (pi_str (pv 0)) (pg_name (i := 1) sc__has_control.nd rfl (by first | exact Or.inl rfl | exact Or.inr rfl))
      (pss_one (ps_if (PW.pt (pw_and (pt_cmpR (op_lt_str) (pv 1) pe_str (nomark _)) (pw_and1 (pt_cmpR (op_ne) (pv 1) pe_str (nomark _)))))
      (pss_one (ps_ret pe_bl))
      pss_nil)))
      (pss_one (ps_ret pe_bl))), ?_⟩
    obtain ⟨x, rfl, hx, hQ⟩ := h
    refine ⟨_, rfl, x, rfl, for_str (fun i σ H2 => (∃ v, σ = [some (.str x), v]) ∧ H2 = H ∧ ((tl x).take i).any (fun c => decide (c < 32) && !decide (c = 9)) = false) ⟨⟨none, rfl⟩, rfl, rfl⟩ ?_ ?_⟩
    · rintro i c σ H2 hi ⟨⟨v, rfl⟩, rfl, hn⟩
      have step : ((tl x).take (i + 1)).any (fun c => decide (c < 32) && !decide (c = 9)) = (decide (c < 32) && !decide (c = 9)) := by
        rw [List.take_add_one, hi, List.any_append, hn]
        simp
      refine ⟨_, rfl, _, _, rfl, rfl, _, rfl, ?_⟩
      rw [lt_one]
      have e9 : (!decide (V.str (⟨#[c]⟩ : Str) = V.str ("\t" : Str))) = !decide (c = 9) := by
        refine congrArg (! ·) (decide_eq_decide.mpr ⟨fun h => ?_, fun h => by rw [h]; decide +kernel⟩)
        have h2 := congrArg tl (V.str.inj h)
        rw [show tl ("\t" : Str) = [9] by decide +kernel] at h2
        simpa [tl] using h2
      cases h32 : decide (c < 32) with
      | false =>
        rw [h32, Bool.false_and] at step
        exact iteF (iteF ⟨⟨_, rfl⟩, rfl, step⟩)
      | true =>
        rw [h32, Bool.true_and] at step
        refine iteT ⟨_, rfl, rfl, _, rfl, ?_⟩
        rw [e9]
        cases h9 : (!decide (c = 9)) with
        | false => rw [h9] at step; exact iteF ⟨⟨_, rfl⟩, rfl, step⟩
        | true =>
          have e : ctlB (tl x) = true := by
            unfold ctlB
            exact List.any_eq_true.mpr ⟨c, List.mem_of_getElem? hi, by rw [h32, h9]; rfl⟩
          rw [e] at hQ
          exact iteT hQ
    · rintro σ H2 ⟨⟨v, rfl⟩, rfl, hn⟩
      rw [List.take_of_length_le (Nat.le_refl _)] at hn
      unfold ctlB at hQ
      rw [hn] at hQ
      exact hQ
theorem ok__is_part (T : Txt K mg) : Cal P w K mg base CX0 2 "_is_part" ["value"] (sp__is_part K) := by
  refine T.d__is_part.ok0 sc__is_part (fun vs H Q E h => ?_) (fun f cdv A outer s H vs Q E hr h => ?_)
  · first | (obtain ⟨_, rfl, _⟩ := h; rfl) | (obtain ⟨_, _, rfl, _⟩ := h; rfl) | (obtain ⟨_, _, _, rfl, _⟩ := h; rfl) | (obtain ⟨_, _, _, _, rfl, _⟩ := h; rfl) | (obtain ⟨_, _, _, _, _, rfl, _⟩ := h; rfl)
  · refine ⟨_, (pss_cons (ps_if (PW.pt (pw_or (pt_not (pt_val (pe_callB call_isi (by rfl) T.b_isinstance (by decide +kernel) (pa_cons (pv 0) (pa_cons (pe_bltn (v := .ty "str") (by rfl) T.b_str (by decide +kernel) rfl) pa_nil))))) (pw_or (pt_cmpR (op_in_sign) pe_str (pv 0) rfl) (pw_or1 (pt_not (pt_val (pe_c (ok_is_trimmed T) hr (by decide) (by rfl) pass0 (pa_cons (pv 0) pa_nil))))))))
      (pss_one (ps_ret pe_bl))
      pss_nil)
      (pss_one (ps_ret (pe_not (pe_c (ok__has_control T) hr (by decide) (by rfl) pass0 (pa_cons (pv 0) pa_nil)))))), ?_⟩
    obtain ⟨v, b, rfl, hv, hQ⟩ := h
    rcases hv with ⟨x, rfl, hx, rfl⟩ | ⟨t, ht, hk, rfl⟩
    rotate_left
    · exact ⟨_, rfl, _, _, _, _, false, rfl, .ty _, ht, hk, _, rfl, iteT (iteT hQ)⟩
    unfold partB at hQ
    refine ⟨_, rfl, _, _, _, _, true, rfl, .ty _, .base (.str x), kit_str K, _, rfl, iteF ?_⟩
    refine ⟨_, rfl, 59, x, rfl, rfl, _, rfl, ?_⟩
    have hQ : Q (.bl (decide (59 ∉ x.cps.toList) && (decide (trimB (tl x) = tl x) && !ctlB (tl x)))) H := hQ
    by_cases h59 : 59 ∈ x.cps.toList
    · rw [decide_eq_false (not_not_intro h59), Bool.false_and] at hQ
      rw [decide_eq_true h59]
      exact iteT (iteT hQ)
    rw [decide_eq_true h59, Bool.true_and] at hQ
    rw [decide_eq_false h59]
    refine iteF ⟨_, rfl, x, rfl, hx, _, rfl, ?_⟩
    cases ht : decide (trimB (tl x) = tl x) with
    | false => rw [ht, Bool.false_and] at hQ; exact iteT hQ
    | true =>
      rw [ht, Bool.true_and] at hQ
      exact iteF ⟨_, rfl, x, rfl, hx, _, rfl, hQ⟩
theorem ok__is_name (T : Txt K mg) : Cal P w K mg base CX0 3 "_is_name" ["value"] (sp__is_name K) := by
  refine T.d__is_name.ok0 sc__is_name (fun vs H Q E h => ?_) (fun f cdv A outer s H vs Q E hr h => ?_)
  · first | (obtain ⟨_, rfl, _⟩ := h; rfl) | (obtain ⟨_, _, rfl, _⟩ := h; rfl) | (obtain ⟨_, _, _, rfl, _⟩ := h; rfl) | (obtain ⟨_, _, _, _, rfl, _⟩ := h; rfl) | (obtain ⟨_, _, _, _, _, rfl, _⟩ := h; rfl)
  · refine ⟨_, (pss_one (ps_ret (pe_and (pe_c (ok__is_part T) hr (by decide) (by rfl) pass0 (pa_cons (pv 0) pa_nil)) (pe_and (pe_cmpR (op_notIn_sign) pe_str (pv 0) rfl) (pe_one (pe_cmpR (op_le) (pe_callB call_len_str (by rfl) T.b_len (by decide +kernel) (pa_cons (pv 0) pa_nil)) (pe_gc (by rfl) T.c_MOST_OF_LINE) (nomark _))))))), ?_⟩
    obtain ⟨v, b, rfl, hv, hQ⟩ := h
    rcases hv with ⟨x, rfl, hx, rfl⟩ | ⟨t, ht, hk, rfl⟩
    rotate_left
    · exact ⟨_, rfl, _, false, rfl, .inr ⟨t, ht, hk, rfl⟩, _, rfl, iteF hQ⟩
    unfold nameL at hQ
    refine ⟨_, rfl, _, _, rfl, .of hx, _, rfl, ?_⟩
    cases h1 : partB (tl x) with
    | false => rw [h1] at hQ; exact iteF hQ
    | true =>
      rw [h1, Bool.true_and] at hQ
      refine iteT ⟨_, rfl, 61, x, rfl, rfl, _, rfl, ?_⟩
      have hQ : Q (.bl (decide (61 ∉ x.cps.toList) && decide ((tl x).length ≤ 4096))) H := hQ
      by_cases h61 : 61 ∈ x.cps.toList
      · rw [decide_eq_false (not_not_intro h61), Bool.false_and] at hQ
        rw [decide_eq_true h61]
        exact iteF hQ
      rw [decide_eq_true h61, Bool.true_and] at hQ
      rw [decide_eq_false h61]
      refine iteT ⟨_, rfl, x, rfl, Nat.le_trans hx (by decide), _, _, rfl, rfl, ?_⟩
      have e : decide ((x.length : Int) ≤ 4096) = decide ((tl x).length ≤ 4096) := decide_eq_decide.mpr (by rw [len_tl]; omega)
      show Q (.bl (decide ((x.length : Int) ≤ 4096))) H
      rw [e]
      exact hQ
theorem ok__is_value (T : Txt K mg) : Cal P w K mg base CX0 4 "_is_value" ["value", "name"] (sp__is_value K) := by
  refine T.d__is_value.ok0 sc__is_value (fun vs H Q E h => ?_) (fun f cdv A outer s H vs Q E hr h => ?_)
  · first | (obtain ⟨_, rfl, _⟩ := h; rfl) | (obtain ⟨_, _, rfl, _⟩ := h; rfl) | (obtain ⟨_, _, _, rfl, _⟩ := h; rfl) | (obtain ⟨_, _, _, _, rfl, _⟩ := h; rfl) | (obtain ⟨_, _, _, _, _, rfl, _⟩ := h; rfl)
  · refine ⟨_, (pss_one (ps_ret (pe_and (pe_c (ok__is_name T) hr (by decide) (by rfl) pass0 (pa_cons (pv 1) pa_nil)) (pe_and (pe_c (ok__is_part T) hr (by decide) (by rfl) pass0 (pa_cons (pv 0) pa_nil)) (pe_one (pe_chain (op_lt) (op_le) pe_int (pe_callB call_len_str (by rfl) T.b_len (by decide +kernel) (pa_cons (pe_op op_add_str (pv 1) (pv 0)) pa_nil)) (pe_gc (by rfl) T.c_MOST_OF_LINE))))))), ?_⟩
    obtain ⟨v, u, b, c, rfl, hu, hv, hQ⟩ := h
    refine ⟨_, rfl, _, _, rfl, hu, _, rfl, ?_⟩
    rcases hu with ⟨y, rfl, hy, rfl⟩ | ⟨t, ht, hk, rfl⟩
    rotate_left
    · exact iteF hQ
    cases hc : nameL (tl y) with
    | false => rw [hc] at hQ; exact iteF hQ
    | true =>
      rw [hc, Bool.true_and] at hQ
      refine iteT ⟨_, rfl, _, _, rfl, hv, _, rfl, ?_⟩
      rcases hv with ⟨x, rfl, hx, rfl⟩ | ⟨t, ht, hk, rfl⟩
      rotate_left
      · exact iteF hQ
      cases hb : partB (tl x) with
      | false => rw [hb] at hQ; exact iteF hQ
      | true =>
        rw [hb, Bool.true_and] at hQ
        have hQ : Q (.bl (decide (0 < (tl y).length + (tl x).length) && decide ((tl y).length + (tl x).length ≤ 4096))) H := hQ
        have el : (((y ++ x).length : Nat) : Int) = (tl y).length + (tl x).length := by rw [Str.length_append, len_tl, len_tl]; simp
        refine iteT ⟨_, rfl, _, rfl, _, _, rfl, rfl, Nat.le_trans (by omega : _ ≤ 2000000) (by decide), _, rfl, Nat.le_trans (by rw [Str.length_append]; omega : _ ≤ 2000000) (by decide), _, _, rfl, rfl, _, rfl, ?_⟩
        have e1 : decide ((0 : Int) < ((y ++ x).length : Nat)) = decide (0 < (tl y).length + (tl x).length) := decide_eq_decide.mpr (by omega)
        have e2 : decide ((((y ++ x).length : Nat) : Int) ≤ 4096) = decide ((tl y).length + (tl x).length ≤ 4096) := decide_eq_decide.mpr (by omega)
        rw [e1]
        cases h0 : decide (0 < (tl y).length + (tl x).length) with
        | false => rw [h0, Bool.false_and] at hQ; exact iteF hQ
        | true =>
          rw [h0, Bool.true_and, ← e2] at hQ
          exact iteT ⟨_, _, rfl, rfl, hQ⟩
theorem ok_Line__init (T : Txt K mg) : CalK P w K mg base (L2.CX P w) 6 "Line" "__init__" 3 ["self", "name", "value", "expires", "age", "domain", "path", "is_secure", "is_hidden", "same", "is_partitioned", "priority"] [("expires", .non), ("age", .non), ("domain", .non), ("path", .non), ("is_secure", (.bl false)), ("is_hidden", (.bl false)), ("same", .non), ("is_partitioned", (.bl false)), ("priority", .non)] (sp_Line__init K mg) := by
  refine T.m_Line__init.okX sc_Line__init (fun vs H Q E h => ?_) (fun f cdv A outer s H vs Q E hr h => ?_)
  · obtain ⟨_, _, _, _, _, _, _, _, _, _, _, _, _, _, rfl, _⟩ := h; rfl
  · obtain ⟨a_SAMES, hm_SAMES, sq_SAMES⟩ := T.c_SAMES
    obtain ⟨a_PRIORITIES, hm_PRIORITIES, sq_PRIORITIES⟩ := T.c_PRIORITIES
    obtain ⟨C_BadLine, e_BadLine⟩ := T.e_BadLine
    obtain ⟨C_Line, o_Line⟩ := T.o_Line
    refine ⟨_, (pss_cons (ps_for (passes_of rfl) rfl (pi_tup (pe_tup (pa_cons (pe_tup (pa_cons pe_str (pa_cons (pe_c (ok__is_name T) hr (by decide) (by rfl) pass0 (pa_cons (pv 1) pa_nil)) pa_nil))) (pa_cons (pe_tup (pa_cons pe_str (pa_cons (pe_c (ok__is_value T) hr (by decide) (by rfl) pass0 (pa_cons (pv 2) (pa_cons (pv 1) pa_nil))) pa_nil))) (pa_cons (pe_tup (pa_cons pe_str (pa_cons (pe_or (pe_cmpR (op_isN) (pv 3) pe_non (nomark _)) (pe_one (pe_c (ok_is_tick T) hr (by decide) (by rfl) pass0 (pa_cons (pv 3) pa_nil)))) pa_nil))) (pa_cons (pe_tup (pa_cons pe_str (pa_cons (pe_or (pe_cmpR (op_isN) (pv 4) pe_non (nomark _)) (pe_one (pe_c (ok__is_from_0 T) hr (by decide) (by rfl) pass0 (pa_cons (pv 4) (pa_cons (pe_gc (by rfl) T.c_MOST_AGE) pa_nil))))) pa_nil))) (pa_cons (pe_tup (pa_cons pe_str (pa_cons (pe_or (pe_cmpR (op_isN) (pv 5) pe_non (nomark _)) (pe_one (pe_c (ok_is_host T) hr (by decide) (by rfl) pass0 (pa_cons (pv 5) pa_nil)))) pa_nil))) (pa_cons (pe_tup (pa_cons pe_str (pa_cons (pe_or (pe_cmpR (op_isN) (pv 6) pe_non (nomark _)) (pe_one (pe_c (ok_is_path T) hr (by decide) (by rfl) pass0 (pa_cons (pv 6) pa_nil)))) pa_nil))) (pa_cons (pe_tup (pa_cons pe_str (pa_cons (pe_callB call_isi (by rfl) T.b_isinstance (by decide +kernel) (pa_cons (pv 7) (pa_cons (pe_bltn (v := .ty "bool") (by rfl) T.b_bool (by decide +kernel) rfl) pa_nil))) pa_nil))) (pa_cons (pe_tup (pa_cons pe_str (pa_cons (pe_callB call_isi (by rfl) T.b_isinstance (by decide +kernel) (pa_cons (pv 8) (pa_cons (pe_bltn (v := .ty "bool") (by rfl) T.b_bool (by decide +kernel) rfl) pa_nil))) pa_nil))) (pa_cons (pe_tup (pa_cons pe_str (pa_cons (pe_or (pe_cmpR (op_isN) (pv 9) pe_non (nomark _)) (pe_one (pe_and (pe_callB call_isi (by rfl) T.b_isinstance (by decide +kernel) (pa_cons (pv 9) (pa_cons (pe_bltn (v := .ty "str") (by rfl) T.b_str (by decide +kernel) rfl) pa_nil))) (pe_one (pe_cmpR (op_in_seq) (pv 9) (pe_gt (by rfl) hm_SAMES) (by with_unfolding_all rfl)))))) pa_nil))) (pa_cons (pe_tup (pa_cons pe_str (pa_cons (pe_callB call_isi (by rfl) T.b_isinstance (by decide +kernel) (pa_cons (pv 10) (pa_cons (pe_bltn (v := .ty "bool") (by rfl) T.b_bool (by decide +kernel) rfl) pa_nil))) pa_nil))) (pa_cons (pe_tup (pa_cons pe_str (pa_cons (pe_or (pe_cmpR (op_isN) (pv 11) pe_non (nomark _)) (pe_one (pe_c (ok__is_from_0 T) hr (by decide) (by rfl) pass0 (pa_cons (pv 11) (pa_cons (pe_op op_sub (pe_callB call_len_seq (by rfl) T.b_len (by decide +kernel) (pa_cons (pe_gt (by rfl) hm_PRIORITIES) pa_nil)) pe_int) pa_nil))))) pa_nil))) pa_nil))))))))))))) (pg_tup rfl (pgs_cons (pg_name (i := 12) sc_Line__init.nd rfl (by first | exact Or.inl rfl | exact Or.inr rfl)) (pgs_cons (pg_name (i := 13) sc_Line__init.nd rfl (by first | exact Or.inl rfl | exact Or.inr rfl)) pgs_nil)))
      (pss_one (ps_if (pt_not (pt_val (pv 13)))
      (pss_one (ps_raiseE rfl e_BadLine hr (by decide) pass0 (takes_of rfl rfl rfl rfl) (pa_cons (pv 12) pa_nil) (by rfl)))
      pss_nil)))
      (pss_cons (ps_fld (pv 0) (pv 1) rfl)
      (pss_cons (ps_fld (pv 0) (pv 2) rfl)
      (pss_cons (ps_fld (pv 0) (pv 3) rfl)
      (pss_cons (ps_fld (pv 0) (pv 4) rfl)
      (pss_cons (ps_fld (pv 0) (pv 5) rfl)
      (pss_cons (ps_fld (pv 0) (pv 6) rfl)
      (pss_cons (ps_fld (pv 0) (pv 7) rfl)
      (pss_cons (ps_fld (pv 0) (pv 8) rfl)
      (pss_cons (ps_fld (pv 0) (pv 9) rfl)
      (pss_cons (ps_fld (pv 0) (pv 10) rfl)
      (pss_one (ps_fld (pv 0) (pv 11) rfl))))))))))))), ?_⟩
    obtain ⟨a, C, dx, n, v, ex, ag, dm, pt, se, hi, sm, pa, pr, rfl, hg, ha, F, hQ⟩ := h
    obtain rfl : C_Line = C := by have := o_Line.g.symm.trans hg; cases this; rfl
    have Fn := F n (by simp)
    have Fw := F v (by simp)
    have Fex := F ex (by simp)
    have Fag := F ag (by simp)
    have Fdm := F dm (by simp)
    have Fpt := F pt (by simp)
    have Fse := F se (by simp)
    have Fhi := F hi (by simp)
    have Fsm := F sm (by simp)
    have Fpa := F pa (by simp)
    have Fpr := F pr (by simp)
    have o1 : ∀ {f : V → Bool} {v : V}, decide (v = .non) = true → orN f v = true := fun {f v} h => by unfold orN; rw [← isN_eq, h]; rfl
    have o2 : ∀ {f : V → Bool} {v : V}, decide (v = .non) = false → orN f v = f v := fun {f v} h => by unfold orN; rw [← isN_eq, h]; rfl
    refine seq_for_rowsS (L := rowP (namesF.zip (jud [n, v, ex, ag, dm, pt, se, hi, sm, pa, pr]))) ?_ (show 11 ≤ 1000 by decide) (fun P qs H1 s1 t1 m1 => ?_)
    · refine rowsS_cons ?_ (rowsS_cons ?_ (rowsS_cons ?_ (rowsS_cons ?_ (rowsS_cons ?_ (rowsS_cons ?_ (rowsS_cons ?_ (rowsS_cons ?_ (rowsS_cons ?_ (rowsS_cons ?_ (rowsS_cons ?_ rowsS_nil))))))))))
      · exact fun H1 Q1 s1 q1 => ⟨_, rfl, _, _, rfl, (Fn.same s1).tx _, q1 _ (Same.refl _)⟩
      · exact fun H1 Q1 s1 q1 => ⟨_, rfl, _, rfl, _, _, _, _, rfl, (Fn.same s1).tx _, (Fw.same s1).tx _, q1 _ (Same.refl _)⟩
      · refine fun H1 Q1 s1 q1 => ⟨_, rfl, rfl, _, rfl, iteB (fun e => ?_) (fun e => ?_)⟩
        · rw [o1 e] at q1; exact q1 _ (Same.refl _)
        · rw [o2 e] at q1
          rcases (Fex.same s1).int (K := K) with ⟨i, rfl⟩ | ⟨hN, hf⟩
          · exact ⟨_, rfl, _, rfl, .inl ⟨i, rfl, q1 _ (Same.refl _)⟩⟩
          · rw [hf] at q1; exact ⟨_, rfl, _, rfl, .inr ⟨hN, q1 _ (Same.refl _)⟩⟩
      · refine fun H1 Q1 s1 q1 => ⟨_, rfl, rfl, _, rfl, iteB (fun e => ?_) (fun e => ?_)⟩
        · rw [o1 e] at q1; exact q1 _ (Same.refl _)
        · rw [o2 e] at q1
          rcases (Fag.same s1).int (K := K) with ⟨i, rfl⟩ | ⟨hN, hf⟩
          · exact ⟨_, rfl, _, _, rfl, .inl ⟨i, rfl, q1 _ (Same.refl _)⟩⟩
          · rw [hf] at q1; exact ⟨_, rfl, _, _, rfl, .inr ⟨hN, q1 _ (Same.refl _)⟩⟩
      · refine fun H1 Q1 s1 q1 => ⟨_, rfl, rfl, _, rfl, iteB (fun e => ?_) (fun e => ?_)⟩
        · rw [o1 e] at q1; exact q1 _ (Same.refl _)
        · rw [o2 e] at q1
          exact ⟨_, rfl, _, _, rfl, (Fdm.same s1).tx _, fun H2 s2 => q1 _ s2⟩
      · refine fun H1 Q1 s1 q1 => ⟨_, rfl, rfl, _, rfl, iteB (fun e => ?_) (fun e => ?_)⟩
        · rw [o1 e] at q1; exact q1 _ (Same.refl _)
        · rw [o2 e] at q1
          exact ⟨_, rfl, _, _, rfl, (Fpt.same s1).tx _, q1 _ (Same.refl _)⟩
      · exact fun H1 Q1 s1 q1 => let ⟨t, h1, h2⟩ := (Fse.same s1).bool; ⟨_, rfl, _, _, _, _, _, rfl, .ty _, h1, h2, q1 _ (Same.refl _)⟩
      · exact fun H1 Q1 s1 q1 => let ⟨t, h1, h2⟩ := (Fhi.same s1).bool; ⟨_, rfl, _, _, _, _, _, rfl, .ty _, h1, h2, q1 _ (Same.refl _)⟩
      · refine fun H1 Q1 s1 q1 => ⟨_, rfl, rfl, _, rfl, iteB (fun e => ?_) (fun e => ?_)⟩
        · rw [o1 e] at q1; exact q1 _ (Same.refl _)
        · rw [o2 e] at q1
          rcases (Fsm.same s1).text (K := K) with ⟨z, rfl⟩ | ⟨⟨t, h1, h2⟩, hf⟩
          · refine ⟨_, rfl, _, _, _, _, true, rfl, .ty _, .base (.str z), kit_str K, _, rfl, iteT ⟨_, rfl, a_SAMES, _, rfl, .inr (sq_SAMES H1), rfl, rfl, ?_⟩⟩
            rw [if_neg Bool.false_ne_true]
            exact q1 _ (Same.refl _)
          · rw [hf] at q1
            exact ⟨_, rfl, _, _, _, _, false, rfl, .ty _, h1, h2, _, rfl, iteF (q1 _ (Same.refl _))⟩
      · exact fun H1 Q1 s1 q1 => let ⟨t, h1, h2⟩ := (Fpa.same s1).bool; ⟨_, rfl, _, _, _, _, _, rfl, .ty _, h1, h2, q1 _ (Same.refl _)⟩
      · refine fun H1 Q1 s1 q1 => ⟨_, rfl, rfl, _, rfl, iteB (fun e => ?_) (fun e => ?_)⟩
        · rw [o1 e] at q1; exact q1 _ (Same.refl _)
        · rw [o2 e] at q1
          refine ⟨_, rfl, a_PRIORITIES, _, rfl, .inr (sq_PRIORITIES H1), _, _, rfl, rfl, ?_⟩
          rcases (Fpr.same s1).int (K := K) with ⟨i, rfl⟩ | ⟨hN, hf⟩
          · exact ⟨_, _, rfl, .inl ⟨i, rfl, q1 _ (Same.refl _)⟩⟩
          · rw [hf] at q1; exact ⟨_, _, rfl, .inr ⟨hN, q1 _ (Same.refl _)⟩⟩
    have ha1 := s1 _ _ ha
    unfold badF at hQ
    generalize hps : namesF.zip (jud [n, v, ex, ag, dm, pt, se, hi, sm, pa, pr]) = ps at *
    refine ⟨fun i σ H2 => (∃ v12 v13, σ = [some (.ref a), some n, some v, some ex, some ag, some dm, some pt, some se, some hi, some sm, some pa, some pr, v12, v13]) ∧ H2 = H1 ∧ (ps.take i).all (·.2) = true, ⟨⟨none, none, rfl⟩, rfl, rfl⟩, fun i σ H2 _ h => h.2.1 ▸ SqT.of m1, ?_, ?_⟩
    · rintro i v σ H2 hi2 ⟨⟨v12, v13, rfl⟩, rfl, hall⟩
      obtain ⟨q, c, rfl, hci, mq⟩ := t1.get hi2
      obtain ⟨f, b, hp, rfl⟩ : ∃ f b, ps[i]? = some (f, b) ∧ c = [.str f, .bl b] := by
        unfold rowP at hci
        rw [List.getElem?_map] at hci
        cases hx : ps[i]? with
        | none => rw [hx] at hci; cases hci
        | some p => rw [hx] at hci; cases hci; exact ⟨p.1, p.2, rfl, rfl⟩
      refine ⟨q, _, rfl, SqT.of mq, rfl, _, _, rfl, _, _, rfl, rfl, _, rfl, _, rfl, iteB (fun e => ?_) (fun e => ?_)⟩
      · obtain rfl : b = false := by cases b <;> first | rfl | cases e
        rw [find_first hall hp] at hQ
        exact ⟨_, rfl, _, rfl, fun d hd => hQ C_BadLine d _ e_BadLine.g s1 hd⟩
      · obtain rfl : b = true := by cases b <;> first | rfl | cases e
        exact ⟨⟨_, _, rfl⟩, rfl, by rw [List.take_add_one, hp, List.all_append, hall]; rfl⟩
    rintro σ H2 ⟨⟨v12, v13, rfl⟩, rfl, hall⟩
    have lps : (qs.map V.ref).length = ps.length := by rw [List.length_map, t1.len]; unfold rowP; rw [List.length_map]
    rw [lps, List.take_length] at hall
    rw [find_none hall] at hQ
    have hQ : ∀ H', Same H H' → Q .non (upd H' a (.ins C_Line dx (zipF [n, v, ex, ag, dm, pt, se, hi, sm, pa, pr]))) := hQ
    refine ⟨_, rfl, _, rfl, a, C_Line, dx, _, rfl, ha1, o_Line.o.cl, o_Line.na.get (by simp), by simp, ?_⟩
    rw [show putF "name" n [] = [(("name" : Str), n)] from rfl]
    refine ⟨_, rfl, _, rfl, a, C_Line, dx, _, rfl, upd_same, o_Line.o.cl, o_Line.na.get (by simp), by simp, ?_⟩
    rw [upd_upd, putF_app ["name"] rfl (by decide +kernel)]
    refine ⟨_, rfl, _, rfl, a, C_Line, dx, _, rfl, upd_same, o_Line.o.cl, o_Line.na.get (by simp), by simp, ?_⟩
    rw [upd_upd, putF_app ["name", "value"] rfl (by decide +kernel)]
    refine ⟨_, rfl, _, rfl, a, C_Line, dx, _, rfl, upd_same, o_Line.o.cl, o_Line.na.get (by simp), by simp, ?_⟩
    rw [upd_upd, putF_app ["name", "value", "expires"] rfl (by decide +kernel)]
    refine ⟨_, rfl, _, rfl, a, C_Line, dx, _, rfl, upd_same, o_Line.o.cl, o_Line.na.get (by simp), by simp, ?_⟩
    rw [upd_upd, putF_app ["name", "value", "expires", "age"] rfl (by decide +kernel)]
    refine ⟨_, rfl, _, rfl, a, C_Line, dx, _, rfl, upd_same, o_Line.o.cl, o_Line.na.get (by simp), by simp, ?_⟩
    rw [upd_upd, putF_app ["name", "value", "expires", "age", "domain"] rfl (by decide +kernel)]
    refine ⟨_, rfl, _, rfl, a, C_Line, dx, _, rfl, upd_same, o_Line.o.cl, o_Line.na.get (by simp), by simp, ?_⟩
    rw [upd_upd, putF_app ["name", "value", "expires", "age", "domain", "path"] rfl (by decide +kernel)]
    refine ⟨_, rfl, _, rfl, a, C_Line, dx, _, rfl, upd_same, o_Line.o.cl, o_Line.na.get (by simp), by simp, ?_⟩
    rw [upd_upd, putF_app ["name", "value", "expires", "age", "domain", "path", "is_secure"] rfl (by decide +kernel)]
    refine ⟨_, rfl, _, rfl, a, C_Line, dx, _, rfl, upd_same, o_Line.o.cl, o_Line.na.get (by simp), by simp, ?_⟩
    rw [upd_upd, putF_app ["name", "value", "expires", "age", "domain", "path", "is_secure", "is_hidden"] rfl (by decide +kernel)]
    refine ⟨_, rfl, _, rfl, a, C_Line, dx, _, rfl, upd_same, o_Line.o.cl, o_Line.na.get (by simp), by simp, ?_⟩
    rw [upd_upd, putF_app ["name", "value", "expires", "age", "domain", "path", "is_secure", "is_hidden", "same"] rfl (by decide +kernel)]
    refine ⟨_, rfl, _, rfl, a, C_Line, dx, _, rfl, upd_same, o_Line.o.cl, o_Line.na.get (by simp), by simp, ?_⟩
    rw [upd_upd, putF_app ["name", "value", "expires", "age", "domain", "path", "is_secure", "is_hidden", "same", "is_partitioned"] rfl (by decide +kernel)]
    exact hQ _ s1
theorem ok__parts_of (T : Txt K mg) : Cal P w K mg base CX0 1 "_parts_of" ["line"] (sp__parts_of mg) := by
  refine T.d__parts_of.ok0 sc__parts_of (fun vs H Q E h => ?_) (fun f cdv A outer s H vs Q E hr h => ?_)
  · obtain ⟨_, _, _, _, _, _, _, _, _, _, _, _, _, _, rfl, _⟩ := h; rfl
  · obtain ⟨C_Line, o_Line⟩ := T.o_Line
    refine ⟨_, (pss_one (ps_ret (pe_tup (pa_cons (pe_fld (pv 0) rfl) (pa_cons (pe_fld (pv 0) rfl) (pa_cons (pe_fld (pv 0) rfl) (pa_cons (pe_fld (pv 0) rfl) (pa_cons (pe_fld (pv 0) rfl) (pa_cons (pe_fld (pv 0) rfl) (pa_cons (pe_fld (pv 0) rfl) (pa_cons (pe_fld (pv 0) rfl) (pa_cons (pe_fld (pv 0) rfl) (pa_cons (pe_fld (pv 0) rfl) (pa_cons (pe_fld (pv 0) rfl) pa_nil)))))))))))))), ?_⟩
    obtain ⟨a, C, dx, x, y, ex, ag, dm, pt, se, hi, sm, pa, pr, rfl, hg, ha, hQ⟩ := h
    obtain rfl : C = C_Line := by have := hg.symm.trans o_Line.g; cases this; rfl
    refine ⟨_, rfl, a, C, dx, _, _, rfl, ha, o_Line.o.cl, o_Line.na.get (by simp), rfl, ?_⟩
    refine ⟨_, rfl, a, C, dx, _, _, rfl, ha, o_Line.o.cl, o_Line.na.get (by simp), rfl, ?_⟩
    refine ⟨_, rfl, a, C, dx, _, _, rfl, ha, o_Line.o.cl, o_Line.na.get (by simp), rfl, ?_⟩
    refine ⟨_, rfl, a, C, dx, _, _, rfl, ha, o_Line.o.cl, o_Line.na.get (by simp), rfl, ?_⟩
    refine ⟨_, rfl, a, C, dx, _, _, rfl, ha, o_Line.o.cl, o_Line.na.get (by simp), rfl, ?_⟩
    refine ⟨_, rfl, a, C, dx, _, _, rfl, ha, o_Line.o.cl, o_Line.na.get (by simp), rfl, ?_⟩
    refine ⟨_, rfl, a, C, dx, _, _, rfl, ha, o_Line.o.cl, o_Line.na.get (by simp), rfl, ?_⟩
    refine ⟨_, rfl, a, C, dx, _, _, rfl, ha, o_Line.o.cl, o_Line.na.get (by simp), rfl, ?_⟩
    refine ⟨_, rfl, a, C, dx, _, _, rfl, ha, o_Line.o.cl, o_Line.na.get (by simp), rfl, ?_⟩
    refine ⟨_, rfl, a, C, dx, _, _, rfl, ha, o_Line.o.cl, o_Line.na.get (by simp), rfl, ?_⟩
    refine ⟨_, rfl, a, C, dx, _, _, rfl, ha, o_Line.o.cl, o_Line.na.get (by simp), rfl, ?_⟩
    exact ⟨by show 11 ≤ sizeLine; decide, fun p hp => hQ p _ (Same.new hp) upd_same⟩
theorem ok_Line__eq (T : Txt K mg) : CalM P w K mg base CX0 2 "Line" "__eq__" ["self", "other"] (sp_Line__eq K mg) := by
  refine T.m_Line__eq.ok0 sc_Line__eq (fun vs H Q E h => ?_) (fun f cdv A outer s H vs Q E hr h => ?_)
  · obtain ⟨_, _, _, _, _, rfl, _⟩ := h; rfl
  · obtain ⟨C_Line, o_Line⟩ := T.o_Line
    refine ⟨_, (pss_one (ps_ret (pe_and (pe_callB call_isi (by rfl) T.b_isinstance (by decide +kernel) (pa_cons (pv 1) (pa_cons (pe_gt (by rfl) o_Line.g) pa_nil))) (pe_one (pe_cmpR (op_eqD hr.units) (pe_c (ok__parts_of T) hr (by decide) (by rfl) pass0 (pa_cons (pv 0) pa_nil)) (pe_c (ok__parts_of T) hr (by decide) (by rfl) pass0 (pa_cons (pv 1) pa_nil)) (nomark _)))))), ?_⟩
    obtain ⟨a, C, dx, fs, y, rfl, hg, ha, hv, hQ⟩ := h
    obtain rfl : C = C_Line := by have := hg.symm.trans o_Line.g; cases this; rfl
    rcases hQ with ⟨b, dy, gs, rfl, hb, hw, q⟩ | ⟨t, ht, hk, q⟩
    · obtain ⟨x1, y1, ex1, ag1, dm1, pt1, se1, hi1, sm1, pa1, pr1, rfl, pv⟩ := hv
      obtain ⟨x2, y2, ex2, ag2, dm2, pt2, se2, hi2, sm2, pa2, pr2, rfl, pw⟩ := hw
      refine ⟨_, rfl, _, _, _, _, true, rfl, .own C, o_Line.o.ty hb, kit_self K C, _, rfl, iteT ?_⟩
      refine ⟨_, rfl, a, C, dx, x1, y1, ex1, ag1, dm1, pt1, se1, hi1, sm1, pa1, pr1, rfl, hg, ha, fun p H1 s1 m1 => ?_⟩
      refine ⟨_, rfl, b, C, dy, x2, y2, ex2, ag2, dm2, pt2, se2, hi2, sm2, pa2, pr2, rfl, hg, s1 _ _ hb, fun p2 H2 s2 m2 => ?_⟩
      exact ⟨_, _, .tup (SqT.of (s2 _ _ m1)) (dp_plVs pv), .tup (SqT.of m2) (dp_plVs pw), shaped_plVs pv, shaped_plVs pw, q _ (s1.trans s2)⟩
    · exact ⟨_, rfl, _, _, _, _, false, rfl, .own C, ht, hk, _, rfl, iteF q⟩
theorem ok__law_mixed (T : Txt K mg) : Cal P w K mg base CX0 1 "_law_mixed" ["cell", "k"] sp__law_mixed := by
  refine T.d__law_mixed.ok0 sc__law_mixed (fun vs H Q E h => ?_) (fun f cdv A outer s H vs Q E hr h => ?_)
  · first | (obtain ⟨_, rfl, _⟩ := h; rfl) | (obtain ⟨_, _, rfl, _⟩ := h; rfl) | (obtain ⟨_, _, _, rfl, _⟩ := h; rfl) | (obtain ⟨_, _, _, _, rfl, _⟩ := h; rfl) | (obtain ⟨_, _, _, _, _, rfl, _⟩ := h; rfl)
  · refine ⟨_, (pss_cons (ps_set (i := 2) sc__law_mixed.nd rfl (by first | exact Or.inl rfl | exact Or.inr rfl) (pe_op op_add (pe_op op_add (pe_op op_mod (pe_callTy call_int1 (by rfl) T.b_int (by decide +kernel) (pa_cons (pv 0) pa_nil)) (pe_ix ix_list (pe_lst (pa_cons pe_int (pa_cons pe_int (pa_cons pe_int (pa_cons pe_int pa_nil))))) (pe_op op_mod (pe_callTy call_int1 (by rfl) T.b_int (by decide +kernel) (pa_cons (pv 1) pa_nil)) pe_int) (fun _ _ => rfl))) (pe_op op_mul pe_int (pv 1))) pe_int))
      (pss_cons (ps_set (i := 3) sc__law_mixed.nd rfl (by first | exact Or.inl rfl | exact Or.inr rfl) (pe_op op_mod (pe_callTy call_int1 (by rfl) T.b_int (by decide +kernel) (pa_cons (pe_op op_mul (pv 2) (pv 2)) pa_nil)) pe_int))
      (pss_one (ps_ret (pe_op op_mod (pe_callTy call_int1 (by rfl) T.b_int (by decide +kernel) (pa_cons (pe_op op_mul (pv 3) pe_int) pa_nil)) pe_int))))), ?_⟩
    obtain ⟨c, k, rfl, hk0, hk1, hQ⟩ := h
    refine ⟨_, rfl, .inl ⟨_, rfl, ?_⟩⟩
    refine ⟨by show 4 ≤ sizeLine; decide, fun p hp => ?_⟩
    refine ⟨_, rfl, .inl ⟨_, rfl, ?_⟩⟩
    refine ⟨_, _, rfl, rfl, by show (0 : Int) < 4; decide, ?_⟩
    obtain ⟨v, hv, ha⟩ := menu (xs := [V.int 1000000007, V.int 998244353, V.int 2147483629, V.int 1000000009]) (i := k % 4) (by omega) (by show k % 4 < 4; omega)
    obtain ⟨m, rfl, hm0, hm1⟩ : ∃ m : Int, v = .int m ∧ 0 < m ∧ m < 2147483647 := by
      simp only [List.mem_cons, List.not_mem_nil, or_false] at hv
      rcases hv with rfl | rfl | rfl | rfl <;> exact ⟨_, rfl, by decide, by decide⟩
    refine ⟨p, _, _, _, rfl, rfl, SqL.of upd_same, ha, ?_⟩
    refine ⟨_, _, rfl, rfl, hm0, ?_⟩
    refine ⟨_, rfl, _, _, rfl, rfl, .inl ⟨by decide, by decide⟩, ?_⟩
    refine ⟨_, _, rfl, rfl, ?_⟩
    refine ⟨_, _, rfl, rfl, ?_⟩
    have h1 : 0 ≤ c % m := Int.emod_nonneg _ (by omega)
    have h2 : c % m < m := Int.emod_lt_of_pos _ hm0
    generalize c % m = q at h1 h2 ⊢
    refine ⟨_, rfl, _, rfl, _, _, rfl, rfl, .inl ⟨by show (-(2 ^ 64) : Int) < q + 7919 * k + 13; omega, by show q + 7919 * k + 13 < (2 ^ 64 : Int); omega⟩, ?_⟩
    refine .inl ⟨_, rfl, ?_⟩
    refine ⟨_, _, rfl, rfl, by show (0 : Int) < 2147483647; decide, ?_⟩
    refine ⟨_, rfl, _, _, rfl, rfl, .inr ⟨by decide, by decide⟩, ?_⟩
    refine .inl ⟨_, rfl, ?_⟩
    refine ⟨_, _, rfl, rfl, by show (0 : Int) < 2147483647; decide, ?_⟩
    exact hQ _ _ (Same.new hp) (Int.emod_nonneg _ (by decide)) (Int.emod_lt_of_pos _ (by decide))
theorem ok__law_digit (T : Txt K mg) : Cal P w K mg base CX0 2 "_law_digit" ["draw", "span"] sp__law_digit := by
  refine T.d__law_digit.ok0 sc__law_digit (fun vs H Q E h => ?_) (fun f cdv A outer s H vs Q E hr h => ?_)
  · first | (obtain ⟨_, rfl, _⟩ := h; rfl) | (obtain ⟨_, _, rfl, _⟩ := h; rfl) | (obtain ⟨_, _, _, rfl, _⟩ := h; rfl) | (obtain ⟨_, _, _, _, rfl, _⟩ := h; rfl) | (obtain ⟨_, _, _, _, _, rfl, _⟩ := h; rfl)
  · have hu := hu_of hr
    refine ⟨_, (Evl.pss_cut (ps_if (pt_cmpR (op_eq) (pe_dget hu (pv 0) pe_str (fun _ _ => rfl)) pe_int (nomark _))
      (pss_one (ps_for PassesOwn.never rfl (pi_range1 (by rfl) T.b_range (pa_cons pe_int pa_nil)) (pg_name (i := 2) sc__law_digit.nd rfl (by first | exact Or.inl rfl | exact Or.inr rfl))
      (pss_cons (ps_dput hu (pv 0) pe_str (pe_op op_add (pe_dget hu (pv 0) pe_str (fun _ _ => rfl)) pe_int) rfl)
      (pss_one (ps_dput hu (pv 0) pe_str (pe_op op_add (pe_op op_mul (pe_dget hu (pv 0) pe_str (fun _ _ => rfl)) pe_int) (pe_c (ok__law_mixed T) hr (by decide) (by rfl) pass0 (pa_cons (pe_dget hu (pv 0) pe_str (fun _ _ => rfl)) (pa_cons (pe_dget hu (pv 0) pe_str (fun _ _ => rfl)) pa_nil)))) rfl)))))
      pss_nil)
      (pss_cons (ps_set (i := 3) sc__law_digit.nd rfl (by first | exact Or.inl rfl | exact Or.inr rfl) (pe_op op_mod (pe_callTy call_int1 (by rfl) T.b_int (by decide +kernel) (pa_cons (pe_dget hu (pv 0) pe_str (fun _ _ => rfl)) pa_nil)) (pv 1)))
      (pss_cons (ps_dput hu (pv 0) pe_str (pe_op op_fdivW (pe_dget hu (pv 0) pe_str (fun _ _ => rfl)) (pv 1)) rfl)
      (pss_one (ps_ret (pv 3)))))), ?_⟩
    obtain ⟨d, sp, n, rfl, hs0, hs1, ⟨l, c, t, hd, hl, ht, hn⟩, hQ⟩ := h
    refine ⟨fun σ' H' => ∃ (j : Option V) (l1 t1 : Int), σ' = [some (.ref d), some (.int sp), j, none] ∧ Keep d H H' ∧ H' d = some (.dK (dkv l1 c t1)) ∧ 0 ≤ l1 ∧ 0 ≤ t1 ∧ t1 + 4 * (n : Int) ≤ 1000000000, ?_, ?_⟩
    · refine ⟨_, rfl, d, _, rfl, dget_left hd, rfl, _, rfl, ?_⟩
      refine iteB (fun hb => ?_) (fun hb => ?_)
      · refine ⟨4, rfl, by decide, by decide, for_range (n := 4) (fun i σ H1 => ∃ (j : Option V) (l1 t1 : Int), σ = [some (.ref d), some (.int sp), j, none] ∧ Keep d H H1 ∧ H1 d = some (.dK (dkv l1 c t1)) ∧ 0 ≤ l1 ∧ 0 ≤ t1 ∧ t1 = t + i) ⟨none, l, t, rfl, Keep.refl, hd, hl, ht, by simp⟩ ?_ ?_⟩
        · rintro i σ H1 hi ⟨j, l1, t1, rfl, k1, h1, hl1, ht1, et⟩
          refine ⟨_, rfl, d, _, rfl, dget_turns h1, _, _, rfl, rfl, _, rfl, d, _, rfl, dput_turns _ h1, ?_⟩
          have h2 : (upd H1 d (.dK (dkv l1 c (t1 + 1)))) d = some (.dK (dkv l1 c (t1 + 1))) := upd_same
          refine ⟨_, rfl, d, _, rfl, dget_left h2, _, _, rfl, rfl, .inr ⟨by decide, by decide⟩, _, rfl, d, _, rfl, dget_cell h2, _, rfl, d, _, rfl, dget_turns h2, ?_⟩
          refine ⟨_, _, rfl, by omega, by omega, fun r H3 s3 hr0 hr1 => ?_⟩
          refine ⟨_, _, rfl, rfl, _, rfl, d, _, rfl, dput_left _ (s3 _ _ h2), ?_⟩
          exact ⟨_, _, _, rfl, ((k1.upd).same s3).upd, upd_same, by omega, by omega, by omega⟩
        · rintro σ H1 ⟨j, l1, t1, rfl, k1, h1, hl1, ht1, et⟩
          exact ⟨j, l1, t1, rfl, k1, h1, hl1, ht1, by omega⟩
      · exact ⟨none, l, t, rfl, Keep.refl, hd, hl, ht, by omega⟩
    · rintro σ' H1 ⟨j, l1, t1, rfl, k1, h1, hl1, ht1, ht2⟩
      refine ⟨_, rfl, d, _, rfl, dget_left h1, .inl ⟨_, rfl, _, rfl, _, _, rfl, rfl, hs0, ?_⟩⟩
      refine ⟨_, rfl, d, _, rfl, dget_left h1, _, rfl, _, _, rfl, rfl, ?_, _, rfl, d, _, rfl, dput_left _ h1, ?_⟩
      · exact wide_div (b := 40) hs0 (by omega) (by decide) (by decide)
      · exact ⟨_, rfl, hQ _ _ (Int.emod_nonneg _ (by omega)) (Int.emod_lt_of_pos _ hs0) k1.upd ⟨_, _, _, upd_same, Int.ediv_nonneg hl1 (by omega), ht1, ht2⟩⟩
theorem ok__law_draw (T : Txt K mg) : Cal P w K mg base CX0 1 "_law_draw" ["cell", "k"] sp__law_draw := by
  refine T.d__law_draw.ok0 sc__law_draw (fun vs H Q E h => ?_) (fun f cdv A outer s H vs Q E hr h => ?_)
  · first | (obtain ⟨_, rfl, _⟩ := h; rfl) | (obtain ⟨_, _, rfl, _⟩ := h; rfl) | (obtain ⟨_, _, _, rfl, _⟩ := h; rfl) | (obtain ⟨_, _, _, _, rfl, _⟩ := h; rfl) | (obtain ⟨_, _, _, _, _, rfl, _⟩ := h; rfl)
  · refine ⟨_, (pss_one (ps_ret (pe_disp (pps_cons pe_str (pe_ifExp (pt_cmpR (op_ge) (pv 0) (pe_op op_pow pe_int pe_int) (nomark _)) (pv 0) pe_int) (pps_cons pe_str (pv 0) (pps_cons pe_str (pe_op op_mul pe_int (pv 1)) pps_nil))) rfl rfl (by simp) (by decide)))), ?_⟩
    obtain ⟨c, k, rfl, hk0, hk1, hQ⟩ := h
    have fin : ∀ l : Int, 0 ≤ l → ∀ p, H p = none → Q (.ref p) (upd (upd H p (.dK [])) p (.dK (mergeK [] (dkv l c (1000 * k))))) := fun l hl p hp =>
      hQ _ _ (fun b o e => by rw [upd_ne (ne_of_none e hp), upd_ne (ne_of_none e hp)]; exact e) hp ⟨l, c, 1000 * k, by rw [upd_same, dkv_merge], hl, by omega, by omega⟩
    intro p hp
    refine ⟨_, rfl, _, _, rfl, rfl, ⟨by decide, by decide, by decide⟩, _, _, rfl, rfl, _, rfl, ?_⟩
    refine iteB (fun hb => ?_) (fun hb => ?_)
    · have hc : (10 : Int) ^ (18 : Int).toNat ≤ c := of_decide_eq_true hb
      have h0 : (0 : Int) ≤ (10 : Int) ^ (18 : Int).toNat := by decide
      refine ⟨_, rfl, _, rfl, _, rfl, _, _, rfl, rfl, .inl ⟨by decide, by decide⟩, upd_same, dkv c c (1000 * k), rfl, by show 3 ≤ 15; decide, fin c (by omega) p hp⟩
    · refine ⟨_, rfl, _, rfl, _, _, rfl, rfl, .inl ⟨by decide, by decide⟩, upd_same, dkv 0 c (1000 * k), rfl, by show 3 ≤ 15; decide, fin 0 (by omega) p hp⟩
theorem ok__law_draws (T : Txt K mg) : Cal P w K mg base CX0 2 "_law_draws" ["script"] (sp__law_draws K) := by
  refine T.d__law_draws.ok0 sc__law_draws (fun vs H Q E h => ?_) (fun f cdv A outer s H vs Q E hr h => ?_)
  · first | (obtain ⟨_, rfl, _⟩ := h; rfl) | (obtain ⟨_, _, rfl, _⟩ := h; rfl) | (obtain ⟨_, _, _, rfl, _⟩ := h; rfl) | (obtain ⟨_, _, _, _, rfl, _⟩ := h; rfl) | (obtain ⟨_, _, _, _, _, rfl, _⟩ := h; rfl)
  · refine ⟨_, (pss_one (ps_ret (pe_op op_cat (pe_lc (own := [(("k" : Str), 1), (("cell" : Str), 2)]) rfl sc__law_draws.nd (pi_enum (by rfl) T.b_enumerate (pa_cons (pe_slice sl_list (pv 0) po_none (po_some pe_int)) pa_nil)) (blkOk_by (N := ["script", "k", "cell"]) (sc := defScope s__law_draws) (by decide +kernel)) (fun _ _ _ _ _ => (pg_tupB (n := 2) K rfl rfl (pgs_cons (pg_name (i := 1) sc__law_draws.nd rfl (by first | exact Or.inl rfl | exact Or.inr rfl)) (pgs_cons (pg_name (i := 2) sc__law_draws.nd rfl (by first | exact Or.inl rfl | exact Or.inr rfl)) pgs_nil)))) (fun _ _ _ _ _ => pts_nil) (fun _ _ _ _ _ => (pe_c (ok__law_draw T) hr (by decide) (by rfl) pass0 (pa_cons (pv 2) (pa_cons (pv 1) pa_nil))))) (pe_lst (pa_cons (pe_c (ok__law_draw T) hr (by decide) (by rfl) pass0 (pa_cons (pe_callB call_len_seq (by rfl) T.b_len (by decide +kernel) (pa_cons (pv 0) pa_nil)) (pa_cons pe_int pa_nil))) pa_nil))))), ?_⟩
    obtain ⟨a, ns, rfl, hp, hl, hQ⟩ := h
    refine ⟨_, rfl, _, rfl, a, _, rfl, hp, fun p1 hp1 => ?_⟩
    have c1 : cutV (ns.map V.int) none (some (3 : Int)) = (ns.take 3).map V.int := by rw [cutV_to _ (by decide), List.map_take]; rfl
    rw [c1]
    have s1 := Same.new (o := HO.lst ((ns.take 3).map V.int)) hp1
    have m1 : (upd H p1 (.lst ((ns.take 3).map V.int))) p1 = some (.lst ((ns.take 3).map V.int)) := upd_same
    generalize upd H p1 (.lst ((ns.take 3).map V.int)) = H1 at s1 m1 ⊢
    refine ⟨p1, _, rfl, SqL.of m1, fun D hD => ?_⟩
    have hD0 : H D = none := s1.free hD
    refine lc_enum (K := K) (a := p1) (xs := (ns.take 3).map V.int) (fun i H' => ∃ ds : List Addr, ds.length = i ∧ ds.Nodup ∧ Same H1 H' ∧ H' D = some (.lst (ds.map V.ref)) ∧ ∀ d ∈ ds, DrawAt H' d 200000000 ∧ H1 d = none ∧ d ≠ D)
      ⟨[], rfl, List.nodup_nil, Same.new hD, upd_same, fun d hd => by cases hd⟩ (fun i H' _ ⟨_, _, _, q, _⟩ => SqL.of (q _ _ m1)) ?_ ?_
    · rintro i x T H2 hi ⟨ds, hlen, hnd, sm, mD, hds⟩ hT
      obtain ⟨z, hz, rfl⟩ := List.mem_map.mp (List.mem_of_getElem? hi)
      have hi3 : i < 3 := by
        have := (List.getElem?_eq_some_iff.mp hi).1
        rw [List.length_map, List.length_take] at this
        omega
      refine ⟨T, _, rfl, SqT.of upd_same, rfl, _, _, rfl, _, _, rfl, rfl, rfl, ?_⟩
      have sT := Same.new (o := HO.tup [V.int (i : Nat), V.int z]) hT
      generalize upd H2 T (.tup [V.int (i : Nat), V.int z]) = H3 at sT ⊢
      refine ⟨_, rfl, _, rfl, z, i, rfl, by omega, by omega, fun d H4 sd hd Dd => ?_⟩
      have s24 := sT.trans sd
      have s14 := sm.trans s24
      have hd2 : H2 d = none := sT.free hd
      have dD : d ≠ D := fun e => by rw [e, mD] at hd2; cases hd2
      refine ⟨_, s24 _ _ mD, Nat.lt_of_le_of_lt (by rw [List.length_map]; omega : _ ≤ 1000) (by decide), ds ++ [d], by rw [List.length_append, hlen]; rfl, ?_, Same.put s14 hD, by rw [upd_same, List.map_append]; rfl, fun e he => ?_⟩
      · rw [List.nodup_append]
        refine ⟨hnd, by simp, fun e he e2 he2 => ?_⟩
        rw [List.mem_singleton.mp he2]
        rintro rfl
        obtain ⟨⟨l, c, t, hm, _⟩, _⟩ := hds e he
        rw [hm] at hd2; cases hd2
      · rcases List.mem_append.mp he with q | q
        · obtain ⟨q1, q2, q3⟩ := hds e q
          exact ⟨(q1.same s24).upd q3, q2, q3⟩
        · rw [List.mem_singleton.mp q]
          exact ⟨Dd.upd dD, sm.free hd2, dD⟩
    · rintro H2 ⟨ds, hlen, hnd, sm, mD, hds⟩
      have hl3 : ds.length ≤ 3 := by rw [hlen, List.length_map, List.length_take]; omega
      refine ⟨_, rfl, a, _, rfl, .inl (Same.seq (s1.trans sm) hp), _, 3, rfl, by decide, by decide, fun d H4 s24 hd2 Dd => ?_⟩
      refine ⟨by show 1 ≤ sizeLine; decide, fun p2 hp2 => ?_⟩
      have s4 := Same.new (o := HO.lst [V.ref d]) hp2
      have s25 := s24.trans s4
      refine ⟨D, p2, _, _, rfl, rfl, s25 _ _ mD, upd_same, Nat.le_trans (by rw [List.length_map]; show _ + 1 ≤ 100; omega) (by decide : 100 ≤ sizeLine), fun p3 hp3 => ?_⟩
      have s5 := Same.new (o := HO.lst (ds.map V.ref ++ [V.ref d])) hp3
      have s26 := s25.trans s5
      have s06 := (s1.trans sm).trans s26
      refine hQ p3 (ds ++ [d]) _ s06 (Same.newer ((s1.trans sm).trans s25) hp3) (by rw [upd_same, List.map_append]; rfl) (by rw [List.length_append]; show _ + 1 ≤ 4; omega) ?_ fun e he => ?_
      · rw [List.nodup_append]
        refine ⟨hnd, by simp, fun e he e2 he2 => ?_⟩
        rw [List.mem_singleton.mp he2]
        rintro rfl
        obtain ⟨⟨l, c, t, hm, _⟩, _⟩ := hds e he
        rw [hm] at hd2; cases hd2
      · rcases List.mem_append.mp he with q | q
        · obtain ⟨q1, q2, q3⟩ := hds e q
          exact ⟨q1.same s26, s1.free q2⟩
        · rw [List.mem_singleton.mp q]
          exact ⟨Dd.same (s4.trans s5), (s1.trans sm).free hd2⟩
theorem ok__law_pick (T : Txt K mg) : Cal P w K mg base CX0 3 "_law_pick" ["draw", "items"] (sp__law_pick K) := by
  refine T.d__law_pick.ok0 sc__law_pick (fun vs H Q E h => ?_) (fun f cdv A outer s H vs Q E hr h => ?_)
  · first | (obtain ⟨_, rfl, _⟩ := h; rfl) | (obtain ⟨_, _, rfl, _⟩ := h; rfl) | (obtain ⟨_, _, _, rfl, _⟩ := h; rfl) | (obtain ⟨_, _, _, _, rfl, _⟩ := h; rfl) | (obtain ⟨_, _, _, _, _, rfl, _⟩ := h; rfl)
  · refine ⟨_, (pss_one (ps_ret (pe_ix ix_list (pv 1) (pe_c (ok__law_digit T) hr (by decide) (by rfl) pass0 (pa_cons (pv 0) (pa_cons (pe_callB call_len_seq (by rfl) T.b_len (by decide +kernel) (pa_cons (pv 1) pa_nil)) pa_nil))) (fun _ _ => rfl)))), ?_⟩
    obtain ⟨d, p, n, xs, rfl, D, hp, hne, h0, h1, hQ⟩ := h
    refine ⟨_, rfl, _, rfl, _, rfl, p, xs, rfl, .inl hp, d, (xs.length : Int), n, rfl, by omega, by omega, D, fun r H1 hr0 hr1 k1 D1 => ?_⟩
    obtain ⟨v, hv, ha⟩ := menu (xs := xs) (i := r) hr0 hr1
    exact ⟨p, _, _, _, rfl, rfl, Keep.seqL k1 hne hp, ha, hQ v _ hv k1 D1⟩
theorem ok__law_right (T : Txt K mg) : Cal P w K mg base CX0 4 "_law_right" ["draw"] (sp__law_right K) := by
  refine T.d__law_right.ok0 sc__law_right (fun vs H Q E h => ?_) (fun f cdv A outer s H vs Q E hr h => ?_)
  · first | (obtain ⟨_, rfl, _⟩ := h; rfl) | (obtain ⟨_, _, rfl, _⟩ := h; rfl) | (obtain ⟨_, _, _, rfl, _⟩ := h; rfl) | (obtain ⟨_, _, _, _, rfl, _⟩ := h; rfl) | (obtain ⟨_, _, _, _, _, rfl, _⟩ := h; rfl)
  · have hu := hu_of hr
    refine ⟨_, (pss_cons (ps_set (i := 1) sc__law_right.nd rfl (by first | exact Or.inl rfl | exact Or.inr rfl) (pe_c (ok__law_pick T) hr (by decide) (by rfl) pass0 (pa_cons (pv 0) (pa_cons (pe_lst (pa_cons pe_str (pa_cons pe_str (pa_cons pe_str (pa_cons pe_str (pa_cons pe_str (pa_cons (pe_op op_mulL pe_str pe_int) pa_nil))))))) pa_nil))))
      (pss_cons (ps_set (i := 2) sc__law_right.nd rfl (by first | exact Or.inl rfl | exact Or.inr rfl) (pe_c (ok__law_pick T) hr (by decide) (by rfl) pass0 (pa_cons (pv 0) (pa_cons (pe_op op_cat (pe_lst (pa_cons pe_str (pa_cons pe_str (pa_cons pe_str (pa_cons pe_str (pa_cons (pe_op op_mulL pe_str pe_int) pa_nil)))))) (pe_ifExp (pt_cmpR (op_ne) (pv 1) pe_str (nomark _)) (pe_lst (pa_cons pe_str pa_nil)) (pe_lst pa_nil))) pa_nil))))
      (pss_cons (ps_set (i := 3) sc__law_right.nd rfl (by first | exact Or.inl rfl | exact Or.inr rfl) (pe_disp (pps_cons pe_str (pv 1) (pps_cons pe_str (pv 2) (pps_cons pe_str (pe_c (ok__law_pick T) hr (by decide) (by rfl) pass0 (pa_cons (pv 0) (pa_cons (pe_lst (pa_cons pe_non (pa_cons pe_int (pa_cons pe_int (pa_cons pe_int pa_nil))))) pa_nil))) pps_nil))) rfl rfl (by simp) (by decide)))
      (pss_cons (ps_dput hu (pv 3) pe_str (pe_c (ok__law_pick T) hr (by decide) (by rfl) pass0 (pa_cons (pv 0) (pa_cons (pe_lst (pa_cons pe_non (pa_cons pe_int (pa_cons pe_int (pa_cons pe_int pa_nil))))) pa_nil))) rfl)
      (pss_cons (ps_dput hu (pv 3) pe_str (pe_c (ok__law_pick T) hr (by decide) (by rfl) pass0 (pa_cons (pv 0) (pa_cons (pe_lst (pa_cons pe_non (pa_cons pe_str (pa_cons pe_str (pa_cons pe_str (pa_cons (pe_op op_mulL pe_str pe_int) pa_nil)))))) pa_nil))) rfl)
      (pss_cons (ps_dput hu (pv 3) pe_str (pe_c (ok__law_pick T) hr (by decide) (by rfl) pass0 (pa_cons (pv 0) (pa_cons (pe_lst (pa_cons pe_non (pa_cons pe_str (pa_cons pe_str (pa_cons (pe_op op_add_str pe_str (pe_op op_mulL pe_str pe_int)) pa_nil))))) pa_nil))) rfl)
      (pss_cons (ps_asg (pe_tup (pa_cons (pe_cmpR (op_eq) (pe_c (ok__law_digit T) hr (by decide) (by rfl) pass0 (pa_cons (pv 0) (pa_cons pe_int pa_nil))) pe_int (nomark _)) (pa_cons (pe_cmpR (op_eq) (pe_c (ok__law_digit T) hr (by decide) (by rfl) pass0 (pa_cons (pv 0) (pa_cons pe_int pa_nil))) pe_int (nomark _)) pa_nil))) (pg_tup rfl (pgs_cons (pg_sub (pv 3) pe_str (set_dict hu )) (pgs_cons (pg_sub (pv 3) pe_str (set_dict hu )) pgs_nil))))
      (pss_cons (ps_dput hu (pv 3) pe_str (pe_c (ok__law_pick T) hr (by decide) (by rfl) pass0 (pa_cons (pv 0) (pa_cons (pe_lst (pa_cons pe_non (pa_cons pe_str (pa_cons pe_str (pa_cons pe_str pa_nil))))) pa_nil))) rfl)
      (pss_cons (ps_dput hu (pv 3) pe_str (pe_cmpR (op_eq) (pe_c (ok__law_digit T) hr (by decide) (by rfl) pass0 (pa_cons (pv 0) (pa_cons pe_int pa_nil))) pe_int (nomark _)) rfl)
      (pss_cons (ps_dput hu (pv 3) pe_str (pe_c (ok__law_pick T) hr (by decide) (by rfl) pass0 (pa_cons (pv 0) (pa_cons (pe_lst (pa_cons pe_non (pa_cons pe_int (pa_cons pe_int (pa_cons pe_int pa_nil))))) pa_nil))) rfl)
      (pss_one (ps_ret (pv 3))))))))))))), ?_⟩
    obtain ⟨d, n, rfl, D, hQ⟩ := h
    refine pick_of (L := nm21) (giv_cons giv_c (giv_cons giv_c (giv_cons giv_c (giv_cons giv_c (giv_cons giv_c (giv_cons (giv_mulL (a := "n") (n := 96)) giv_nil)))))) D (by decide) (by decide) fun v H1 hv k1 D1 => ?_
    obtain ⟨x, rfl, hx⟩ : ∃ x, v = .str x ∧ nmB (.str x) = true := by
      have := List.all_eq_true.mp nm21_ok v hv
      cases v with
      | str x => exact ⟨x, rfl, this⟩
      | _ => cases this
    refine ⟨_, rfl, ?_⟩
    refine cons_in (op_in (giv_lst (vs := vl21) (giv_cons giv_c (giv_cons giv_c (giv_cons giv_c (giv_cons giv_c (giv_cons (giv_mulL (a := "v") (n := 4000)) giv_nil))))) (by decide) fun p2 hp2 => ?_))
    have z2 := Same.new (o := HO.lst vl21) hp2
    have m2 : (upd H1 p2 (HO.lst vl21)) p2 = some (HO.lst vl21) := upd_same
    refine ⟨_, rfl, rfl, _, rfl, ite_lst fun L hL p3 hp3 => ?_⟩
    have z3 := Same.new (o := HO.lst L) hp3
    have lL : L.length ≤ 1 := by rw [hL]; split <;> simp
    refine ⟨p2, p3, _, _, rfl, rfl, z3 _ _ m2, upd_same, Nat.le_trans (by show 5 + _ ≤ 10; omega : _ ≤ 10) (by decide), fun p4 hp4 => ?_⟩
    have z4 := Same.new (o := HO.lst (vl21 ++ L)) hp4
    have D4 := D1.same ((z2.trans z3).trans z4)
    refine ⟨d, p4, n + 10, _, rfl, D4, SqL.of upd_same, (D1.same (z2.trans z3)).ne hp4, by rw [List.length_append]; show 0 < 5 + _; omega, by rw [List.length_append]; show 5 + _ ≤ 1000; omega, fun v H5 hv k5 D5 => ?_⟩
    obtain ⟨y, rfl, hy⟩ : ∃ y, v = .str y ∧ (vlB (.str y) = true ∨ (y = "" ∧ x ≠ "")) := by
      rcases List.mem_append.mp hv with h | h
      · have := List.all_eq_true.mp vl21_ok v h
        cases v with
        | str y => exact ⟨y, rfl, .inl this⟩
        | _ => cases this
      · rw [hL] at h
        split at h
        · next e => rw [List.mem_singleton] at h; exact ⟨_, h, .inr ⟨rfl, by intro z; rw [z] at e; simp at e⟩⟩
        · cases h
    have k05 : Keep d H H5 := k1.trans ((Same.keep (z2.trans z3)).trans (keep_new hp4 k5))
    clear z2 z3 z4 m2 hv hL lL D4 D1
    simp only [nmB, asc, Bool.and_eq_true, decide_eq_true_eq] at hx
    have ax : ascii x := ascii_lit hx.2.1
    have hy : partB (tl y) = true ∧ (tl y).all (fun s => decide (s < 128)) = true ∧ y.length ≤ 4000 ∧ 0 < (tl x).length + (tl y).length := by
      rcases hy with h | ⟨rfl, h⟩
      · simp only [vlB, asc, Bool.and_eq_true, decide_eq_true_eq] at h
        exact ⟨h.1, h.2.1, h.2.2.1, by have := h.2.2.2; rw [len_tl] at this; omega⟩
      · refine ⟨by decide +kernel, by decide +kernel, by decide +kernel, ?_⟩
        have : 0 < (tl x).length := by
          rcases Nat.eq_zero_or_pos (tl x).length with z | z
          · exact absurd (ext_tl (List.length_eq_zero_iff.mp z) : x = "") h
          · exact z
        omega
    have ay : ascii y := ascii_lit hy.2.1
    have l2 : (tl x).length + (tl y).length ≤ 4096 := by have := hx.2.2; have := hy.2.2.1; rw [len_tl] at *; omega
    refine fun f hf => ⟨_, rfl, _, rfl, ?_⟩
    have fd : f ≠ d := D5.ne hf
    have sf := Same.new (o := HO.dK []) hf
    have hf0 : H f = none := by
      cases hq : H f with
      | none => rfl
      | some o => have := k05 _ _ hq fd; rw [hf] at this; cases this
    refine pick_of (L := [.non, .int 0, .int 5, .int 253402300799]) (giv_cons giv_c (giv_cons giv_c (giv_cons giv_c (giv_cons giv_c giv_nil)))) (D5.same sf) (by decide) (by decide) fun ex H6 hvx k6 D6 => ?_
    refine ⟨k6 _ _ upd_same fd, [(Sum.inr "name", .str x), (Sum.inr "value", .str y), (Sum.inr "expires", ex)], rfl, by show 3 ≤ 15; decide, ?_⟩
    have eM : mergeK [] [((Sum.inr "name" : L2.Key), V.str x), (Sum.inr "value", .str y), (Sum.inr "expires", ex)] = [((Sum.inr "name" : L2.Key), V.str x), (Sum.inr "value", .str y), (Sum.inr "expires", ex)] := by
      simp [mergeK, putK, show ¬ (("name" : Str) = "value") by decide +kernel, show ¬ (("name" : Str) = "expires") by decide +kernel, show ¬ (("value" : Str) = "expires") by decide +kernel]
    rw [eM]
    have A0 : DictAt d f (n + 9) H (upd H6 f (HO.dK [((Sum.inr "name" : L2.Key), V.str x), (Sum.inr "value", .str y), (Sum.inr "expires", ex)])) [((Sum.inr "name" : L2.Key), V.str x), (Sum.inr "value", .str y), (Sum.inr "expires", ex)] :=
      ⟨upd_same, fd, hf0, Keep.updN (k05.trans (keep_new hf k6)) hf0, D6.upd fd.symm⟩
    generalize upd H6 f (HO.dK [((Sum.inr "name" : L2.Key), V.str x), (Sum.inr "value", .str y), (Sum.inr "expires", ex)]) = H7 at *
    refine DictAt.pick (L := [.non, .int 0, .int 60, .int 34560000]) [.inr "name", .inr "value", .inr "expires"] A0 (giv_cons giv_c (giv_cons giv_c (giv_cons giv_c (giv_cons giv_c giv_nil)))) (by decide) (by decide) rfl (by decide +kernel) (by show 3 ≤ 1000; decide) fun ag H8 hva A1 => ?_
    refine DictAt.pick (L := [.non, .str "a", .str "shop.example", .str "1.2.3.4", .str (repS 20 "x")]) [.inr "name", .inr "value", .inr "expires", .inr "age"] A1 (giv_cons giv_c (giv_cons giv_c (giv_cons giv_c (giv_cons giv_c (giv_cons (giv_mulL (a := "x") (n := 20)) giv_nil))))) (by decide) (by decide) rfl (by decide +kernel) (by show 4 ≤ 1000; decide) fun dm H9 hvd A2 => ?_
    refine DictAt.pick (L := [.non, .str "/", .str "/a=b", .str (catS "/" (repS 199 "p"))]) [.inr "name", .inr "value", .inr "expires", .inr "age", .inr "domain"] A2 (giv_cons giv_c (giv_cons giv_c (giv_cons giv_c (giv_cons (giv_add (a := "/") (b := repS 199 "p") giv_c (giv_mulL (a := "p") (n := 199))) giv_nil)))) (by decide) (by decide) rfl (by decide +kernel) (by show 5 ≤ 1000; decide) fun pt H10 hvp A3 => ?_
    refine ⟨_, rfl, d, 2, n + 5, rfl, by decide, by decide, A3.D, fun r1 H11 r10 r11 k11 D11 => ⟨rfl, ?_⟩⟩
    refine ⟨_, rfl, d, 2, n + 4, rfl, by decide, by decide, D11, fun r2 H12 r20 r21 k12 D12 => ⟨rfl, ?_⟩⟩
    have A5 := (A3.keep k11 D11).keep k12 D12
    generalize decide (V.int r1 = V.int 1) = se at *
    generalize decide (V.int r2 = V.int 1) = hi at *
    refine ⟨by show 2 ≤ sizeLine; decide, fun q hq => ?_⟩
    have sq := Same.new (o := HO.tup [V.bl se, V.bl hi]) hq
    have mq := upd_same (H := H12) (a := q) (o := HO.tup [V.bl se, V.bl hi])
    have A6 := A5.keep (Same.keep sq) (D12.same sq)
    generalize upd H12 q (HO.tup [V.bl se, V.bl hi]) = H13 at *
    refine ⟨q, _, rfl, SqT.of mq, rfl, _, _, rfl, _, rfl, f, _, rfl, DPut.k (k := .inr "is_secure") A6.m (Nat.lt_of_lt_of_le (by show 6 < 20; decide) (by decide)), ?_⟩
    have A7 := A6.put (k := .inr "is_secure") (v := .bl se) [.inr "name", .inr "value", .inr "expires", .inr "age", .inr "domain", .inr "path"] rfl (by decide +kernel)
    refine ⟨_, _, rfl, _, rfl, f, _, rfl, DPut.k (k := .inr "is_hidden") A7.m (Nat.lt_of_lt_of_le (by show 7 < 20; decide) (by decide)), rfl, ?_⟩
    have A8 := A7.put (k := .inr "is_hidden") (v := .bl hi) [.inr "name", .inr "value", .inr "expires", .inr "age", .inr "domain", .inr "path", .inr "is_secure"] rfl (by decide +kernel)
    refine DictAt.pick (L := [.non, .str "strict", .str "lax", .str "none"]) [.inr "name", .inr "value", .inr "expires", .inr "age", .inr "domain", .inr "path", .inr "is_secure", .inr "is_hidden"] A8 (giv_cons giv_c (giv_cons giv_c (giv_cons giv_c (giv_cons giv_c giv_nil)))) (by decide) (by decide) rfl (by decide +kernel) (by show 8 ≤ 1000; decide) fun sm H14 hvs A9 => ?_
    refine ⟨_, rfl, d, 2, n + 2, rfl, by decide, by decide, A9.D, fun r3 H15 r30 r31 k15 D15 => ⟨rfl, ?_⟩⟩
    have A10 := A9.keep k15 D15
    generalize decide (V.int r3 = V.int 1) = pa at *
    refine ⟨_, rfl, f, _, rfl, DPut.k (k := .inr "is_partitioned") A10.m (Nat.lt_of_lt_of_le (by show 9 < 20; decide) (by decide)), ?_⟩
    have A11 := A10.put (k := .inr "is_partitioned") (v := .bl pa) [.inr "name", .inr "value", .inr "expires", .inr "age", .inr "domain", .inr "path", .inr "is_secure", .inr "is_hidden", .inr "same"] rfl (by decide +kernel)
    refine DictAt.pick (L := [.non, .int 0, .int 1, .int 2]) [.inr "name", .inr "value", .inr "expires", .inr "age", .inr "domain", .inr "path", .inr "is_secure", .inr "is_hidden", .inr "same", .inr "is_partitioned"] A11 (giv_cons giv_c (giv_cons giv_c (giv_cons giv_c (giv_cons giv_c giv_nil)))) (by decide) (by decide) rfl (by decide +kernel) (by show 10 ≤ 1000; decide) fun pr H16 hvr A12 => ?_
    refine ⟨_, rfl, hQ f x y ex ag dm pt se hi sm pa pr H16 ⟨hx.1, hy.1, hy.2.2.2, l2, ?_, ?_, ?_, ?_, ?_, ?_⟩ ax ay ⟨A12.m, A12.fd, A12.f0, A12.k, A12.D.less (by omega)⟩⟩
    · exact optR (List.all_eq_true.mp mex21 _ hvx)
    · exact optR (List.all_eq_true.mp mag21 _ hva)
    · exact optT (List.all_eq_true.mp mdm21 _ hvd)
    · exact optT (List.all_eq_true.mp mpt21 _ hvp)
    · exact optM (List.all_eq_true.mp msm21 _ hvs)
    · exact optR (List.all_eq_true.mp mpr21 _ hvr)
theorem ok__law_wrong (T : Txt K mg) : Cal P w K mg base CX0 4 "_law_wrong" ["draw", "field"] (sp__law_wrong K) := by
  refine T.d__law_wrong.ok0 sc__law_wrong (fun vs H Q E h => ?_) (fun f cdv A outer s H vs Q E hr h => ?_)
  · first | (obtain ⟨_, rfl, _⟩ := h; rfl) | (obtain ⟨_, _, rfl, _⟩ := h; rfl) | (obtain ⟨_, _, _, rfl, _⟩ := h; rfl) | (obtain ⟨_, _, _, _, rfl, _⟩ := h; rfl) | (obtain ⟨_, _, _, _, _, rfl, _⟩ := h; rfl)
  · refine ⟨_, (pss_cons (ps_if (pt_cmpR (op_eq) (pv 1) pe_str (nomark _))
      (pss_cons (ps_set (i := 2) sc__law_wrong.nd rfl (by first | exact Or.inl rfl | exact Or.inr rfl) (pe_lst (pa_cons pe_non (pa_cons pe_int (pa_cons pe_str (pa_cons pe_str (pa_cons pe_str (pa_cons pe_str (pa_cons pe_str (pa_cons pe_str (pa_cons (pe_tup (pa_cons pe_str pa_nil)) (pa_cons (pe_lst (pa_cons pe_str pa_nil)) (pa_cons pe_bl (pa_cons (pe_op op_mulL pe_str pe_int) pa_nil))))))))))))))
      (pss_one (ps_ret (pe_c (ok__law_pick T) hr (by decide) (by rfl) pass0 (pa_cons (pv 0) (pa_cons (pv 2) pa_nil))))))
      pss_nil)
      (pss_cons (ps_if (pt_cmpR (op_eq) (pv 1) pe_str (nomark _))
      (pss_one (ps_ret (pe_c (ok__law_pick T) hr (by decide) (by rfl) pass0 (pa_cons (pv 0) (pa_cons (pe_lst (pa_cons pe_non (pa_cons pe_int (pa_cons pe_str (pa_cons pe_str (pa_cons pe_str (pa_cons pe_str (pa_cons (pe_lst (pa_cons pe_str pa_nil)) (pa_cons (pe_tup (pa_cons pe_str pa_nil)) (pa_cons pe_bl (pa_cons (pe_op op_mulL pe_str pe_int) pa_nil))))))))))) pa_nil)))))
      pss_nil)
      (pss_cons (ps_if (pt_cmpR (op_eq) (pv 1) pe_str (nomark _))
      (pss_one (ps_ret (pe_c (ok__law_pick T) hr (by decide) (by rfl) pass0 (pa_cons (pv 0) (pa_cons (pe_lst (pa_cons (pe_un un_neg pe_int) (pa_cons pe_int (pa_cons pe_bl (pa_cons pe_str (pa_cons (pe_tup (pa_cons pe_int pa_nil)) (pa_cons (pe_lst pa_nil) (pa_cons (pe_op op_pow pe_int pe_int) pa_nil)))))))) pa_nil)))))
      pss_nil)
      (pss_cons (ps_if (pt_cmpR (op_eq) (pv 1) pe_str (nomark _))
      (pss_one (ps_ret (pe_c (ok__law_pick T) hr (by decide) (by rfl) pass0 (pa_cons (pv 0) (pa_cons (pe_lst (pa_cons (pe_un un_neg pe_int) (pa_cons pe_int (pa_cons pe_bl (pa_cons pe_str (pa_cons (pe_tup (pa_cons pe_int pa_nil)) (pa_cons pe_dnewK (pa_cons (pe_op op_pow pe_int pe_int) pa_nil)))))))) pa_nil)))))
      pss_nil)
      (pss_cons (ps_if (pt_cmpR (op_eq) (pv 1) pe_str (nomark _))
      (pss_one (ps_ret (pe_c (ok__law_pick T) hr (by decide) (by rfl) pass0 (pa_cons (pv 0) (pa_cons (pe_lst (pa_cons pe_str (pa_cons pe_str (pa_cons pe_str (pa_cons pe_str (pa_cons pe_str (pa_cons pe_str (pa_cons (pe_op op_mulL pe_str pe_int) (pa_cons pe_str (pa_cons pe_int (pa_cons (pe_lst (pa_cons pe_str pa_nil)) (pa_cons pe_bl pa_nil)))))))))))) pa_nil)))))
      pss_nil)
      (pss_cons (ps_if (pt_cmpR (op_eq) (pv 1) pe_str (nomark _))
      (pss_one (ps_ret (pe_c (ok__law_pick T) hr (by decide) (by rfl) pass0 (pa_cons (pv 0) (pa_cons (pe_lst (pa_cons pe_str (pa_cons pe_str (pa_cons pe_str (pa_cons pe_str (pa_cons pe_str (pa_cons (pe_op op_add_str pe_str (pe_op op_mulL pe_str pe_int)) (pa_cons pe_int (pa_cons (pe_tup (pa_cons pe_str pa_nil)) (pa_cons pe_bl pa_nil)))))))))) pa_nil)))))
      pss_nil)
      (pss_cons (ps_if (pt_cmpR (op_eq) (pv 1) pe_str (nomark _))
      (pss_one (ps_ret (pe_c (ok__law_pick T) hr (by decide) (by rfl) pass0 (pa_cons (pv 0) (pa_cons (pe_lst (pa_cons pe_str (pa_cons pe_str (pa_cons pe_str (pa_cons pe_int (pa_cons pe_bl (pa_cons (pe_tup (pa_cons pe_str pa_nil)) (pa_cons (pe_lst (pa_cons pe_str pa_nil)) (pa_cons pe_dnewK pa_nil))))))))) pa_nil)))))
      pss_nil)
      (pss_cons (ps_if (pt_cmpR (op_eq) (pv 1) pe_str (nomark _))
      (pss_one (ps_ret (pe_c (ok__law_pick T) hr (by decide) (by rfl) pass0 (pa_cons (pv 0) (pa_cons (pe_lst (pa_cons pe_int (pa_cons (pe_un un_neg pe_int) (pa_cons pe_bl (pa_cons pe_bl (pa_cons pe_str (pa_cons (pe_tup (pa_cons pe_int pa_nil)) (pa_cons (pe_lst (pa_cons pe_int pa_nil)) pa_nil)))))))) pa_nil)))))
      pss_nil)
      (pss_one (ps_ret (pe_c (ok__law_pick T) hr (by decide) (by rfl) pass0 (pa_cons (pv 0) (pa_cons (pe_lst (pa_cons pe_non (pa_cons pe_int (pa_cons pe_int (pa_cons pe_str (pa_cons pe_str (pa_cons (pe_lst (pa_cons pe_bl pa_nil)) (pa_cons (pe_tup (pa_cons pe_bl pa_nil)) pa_nil)))))))) pa_nil))))))))))))), ?_⟩
    obtain ⟨d, n, j, f, rfl, hj, D, hQ⟩ := h
    by_cases e0 : j = 0
    · subst e0
      obtain rfl : ("name" : Str) = f := by injection hj
      refine ⟨_, rfl, rfl, _, rfl, iteB (fun _ => ?_) (fun e => absurd e (by decide +kernel))⟩
      refine seq_asg (men_lst (W := ownAt 0) (m := 12) (men_cons (men_g giv_c) (men_cons (men_g giv_c) (men_cons (men_g giv_c) (men_cons (men_g giv_c) (men_cons (men_g giv_c) (men_cons (men_g giv_c) (men_cons (men_g giv_c) (men_cons (men_g giv_c) (men_cons (men_t (giv_cons giv_c giv_nil) (by decide) (fun _ => rfl)) (men_cons (men_l (giv_cons giv_c giv_nil) (by decide) (fun _ => rfl)) (men_cons (men_g giv_c) (men_cons (men_g (giv_mulL (a := "x") (n := 4097))) men_nil)))))))))))) (draw_some D) (by decide) fun vs p H1 hl hv s1 hp => ?_)
      have s2 := Same.new (o := HO.lst vs) hp
      refine ⟨_, rfl, _, rfl, d, p, n, _, rfl, (D.same s1).same s2, SqL.of upd_same, (D.same s1).ne hp, by omega, by omega, fun v H3 hm k3 D3 => ?_⟩
      obtain ⟨f, ne, w⟩ := hv v hm
      exact hQ v H3 ((Same.keep s1).trans (keep_new hp k3)) D3 ((f.same s2).keep k3 ne) ne w
    by_cases e1 : j = 1
    · subst e1
      obtain rfl : ("value" : Str) = f := by injection hj
      refine ⟨_, rfl, rfl, _, rfl, iteB (fun e => absurd e (by decide +kernel)) fun _ => ?_⟩
      refine ⟨_, rfl, rfl, _, rfl, iteB (fun _ => ?_) (fun e => absurd e (by decide +kernel))⟩
      exact men_pick (W := ownAt 1) (m := 10) (men_cons (men_g giv_c) (men_cons (men_g giv_c) (men_cons (men_g giv_c) (men_cons (men_g giv_c) (men_cons (men_g giv_c) (men_cons (men_g giv_c) (men_cons (men_l (giv_cons giv_c giv_nil) (by decide) (fun _ => rfl)) (men_cons (men_t (giv_cons giv_c giv_nil) (by decide) (fun _ => rfl)) (men_cons (men_g giv_c) (men_cons (men_g (giv_mulL (a := "x") (n := 4097))) men_nil)))))))))) D (by decide) (by decide) hQ
    by_cases e2 : j = 2
    · subst e2
      obtain rfl : ("expires" : Str) = f := by injection hj
      refine ⟨_, rfl, rfl, _, rfl, iteB (fun e => absurd e (by decide +kernel)) fun _ => ?_⟩
      refine ⟨_, rfl, rfl, _, rfl, iteB (fun e => absurd e (by decide +kernel)) fun _ => ?_⟩
      refine ⟨_, rfl, rfl, _, rfl, iteB (fun _ => ?_) (fun e => absurd e (by decide +kernel))⟩
      exact men_pick (W := ownAt 2) (m := 7) (men_cons (men_g giv_neg1) (men_cons (men_g giv_c) (men_cons (men_g giv_c) (men_cons (men_g giv_c) (men_cons (men_t (giv_cons giv_c giv_nil) (by decide) (fun _ => rfl)) (men_cons (men_l giv_nil (by decide) (fun _ => rfl)) (men_cons (men_g giv_pow20) men_nil))))))) D (by decide) (by decide) hQ
    by_cases e3 : j = 3
    · subst e3
      obtain rfl : ("age" : Str) = f := by injection hj
      refine ⟨_, rfl, rfl, _, rfl, iteB (fun e => absurd e (by decide +kernel)) fun _ => ?_⟩
      refine ⟨_, rfl, rfl, _, rfl, iteB (fun e => absurd e (by decide +kernel)) fun _ => ?_⟩
      refine ⟨_, rfl, rfl, _, rfl, iteB (fun e => absurd e (by decide +kernel)) fun _ => ?_⟩
      refine ⟨_, rfl, rfl, _, rfl, iteB (fun _ => ?_) (fun e => absurd e (by decide +kernel))⟩
      exact men_pick (W := ownAt 3) (m := 7) (men_cons (men_g giv_neg1) (men_cons (men_g giv_c) (men_cons (men_g giv_c) (men_cons (men_g giv_c) (men_cons (men_t (giv_cons giv_c giv_nil) (by decide) (fun _ => rfl)) (men_cons (men_d (fun _ => rfl)) (men_cons (men_g giv_pow20) men_nil))))))) D (by decide) (by decide) hQ
    by_cases e4 : j = 4
    · subst e4
      obtain rfl : ("domain" : Str) = f := by injection hj
      refine ⟨_, rfl, rfl, _, rfl, iteB (fun e => absurd e (by decide +kernel)) fun _ => ?_⟩
      refine ⟨_, rfl, rfl, _, rfl, iteB (fun e => absurd e (by decide +kernel)) fun _ => ?_⟩
      refine ⟨_, rfl, rfl, _, rfl, iteB (fun e => absurd e (by decide +kernel)) fun _ => ?_⟩
      refine ⟨_, rfl, rfl, _, rfl, iteB (fun e => absurd e (by decide +kernel)) fun _ => ?_⟩
      refine ⟨_, rfl, rfl, _, rfl, iteB (fun _ => ?_) (fun e => absurd e (by decide +kernel))⟩
      exact men_pick (W := ownAt 4) (m := 11) (men_cons (men_g giv_c) (men_cons (men_g giv_c) (men_cons (men_g giv_c) (men_cons (men_g giv_c) (men_cons (men_g giv_c) (men_cons (men_g giv_c) (men_cons (men_g (giv_mulL (a := "x") (n := 21))) (men_cons (men_g giv_c) (men_cons (men_g giv_c) (men_cons (men_l (giv_cons giv_c giv_nil) (by decide) (fun _ => rfl)) (men_cons (men_g giv_c) men_nil))))))))))) D (by decide) (by decide) hQ
    by_cases e5 : j = 5
    · subst e5
      obtain rfl : ("path" : Str) = f := by injection hj
      refine ⟨_, rfl, rfl, _, rfl, iteB (fun e => absurd e (by decide +kernel)) fun _ => ?_⟩
      refine ⟨_, rfl, rfl, _, rfl, iteB (fun e => absurd e (by decide +kernel)) fun _ => ?_⟩
      refine ⟨_, rfl, rfl, _, rfl, iteB (fun e => absurd e (by decide +kernel)) fun _ => ?_⟩
      refine ⟨_, rfl, rfl, _, rfl, iteB (fun e => absurd e (by decide +kernel)) fun _ => ?_⟩
      refine ⟨_, rfl, rfl, _, rfl, iteB (fun e => absurd e (by decide +kernel)) fun _ => ?_⟩
      refine ⟨_, rfl, rfl, _, rfl, iteB (fun _ => ?_) (fun e => absurd e (by decide +kernel))⟩
      exact men_pick (W := ownAt 5) (m := 9) (men_cons (men_g giv_c) (men_cons (men_g giv_c) (men_cons (men_g giv_c) (men_cons (men_g giv_c) (men_cons (men_g giv_c) (men_cons (men_g (giv_add (a := "/") (b := repS 200 "p") giv_c (giv_mulL (a := "p") (n := 200)))) (men_cons (men_g giv_c) (men_cons (men_t (giv_cons giv_c giv_nil) (by decide) (fun _ => rfl)) (men_cons (men_g giv_c) men_nil))))))))) D (by decide) (by decide) hQ
    by_cases e6 : j = 6
    · subst e6
      obtain rfl : ("is_secure" : Str) = f := by injection hj
      refine ⟨_, rfl, rfl, _, rfl, iteB (fun e => absurd e (by decide +kernel)) fun _ => ?_⟩
      refine ⟨_, rfl, rfl, _, rfl, iteB (fun e => absurd e (by decide +kernel)) fun _ => ?_⟩
      refine ⟨_, rfl, rfl, _, rfl, iteB (fun e => absurd e (by decide +kernel)) fun _ => ?_⟩
      refine ⟨_, rfl, rfl, _, rfl, iteB (fun e => absurd e (by decide +kernel)) fun _ => ?_⟩
      refine ⟨_, rfl, rfl, _, rfl, iteB (fun e => absurd e (by decide +kernel)) fun _ => ?_⟩
      refine ⟨_, rfl, rfl, _, rfl, iteB (fun e => absurd e (by decide +kernel)) fun _ => ?_⟩
      refine ⟨_, rfl, rfl, _, rfl, iteB (fun e => absurd e (by decide +kernel)) fun _ => ?_⟩
      refine ⟨_, rfl, rfl, _, rfl, iteB (fun e => absurd e (by decide +kernel)) fun _ => ?_⟩
      exact men_pick (W := ownAt 6) (m := 7) (men_cons (men_g giv_c) (men_cons (men_g giv_c) (men_cons (men_g giv_c) (men_cons (men_g giv_c) (men_cons (men_g giv_c) (men_cons (men_l (giv_cons giv_c giv_nil) (by decide) (fun _ => rfl)) (men_cons (men_t (giv_cons giv_c giv_nil) (by decide) (fun _ => rfl)) men_nil))))))) D (by decide) (by decide) hQ
    by_cases e7 : j = 7
    · subst e7
      obtain rfl : ("is_hidden" : Str) = f := by injection hj
      refine ⟨_, rfl, rfl, _, rfl, iteB (fun e => absurd e (by decide +kernel)) fun _ => ?_⟩
      refine ⟨_, rfl, rfl, _, rfl, iteB (fun e => absurd e (by decide +kernel)) fun _ => ?_⟩
      refine ⟨_, rfl, rfl, _, rfl, iteB (fun e => absurd e (by decide +kernel)) fun _ => ?_⟩
      refine ⟨_, rfl, rfl, _, rfl, iteB (fun e => absurd e (by decide +kernel)) fun _ => ?_⟩
      refine ⟨_, rfl, rfl, _, rfl, iteB (fun e => absurd e (by decide +kernel)) fun _ => ?_⟩
      refine ⟨_, rfl, rfl, _, rfl, iteB (fun e => absurd e (by decide +kernel)) fun _ => ?_⟩
      refine ⟨_, rfl, rfl, _, rfl, iteB (fun e => absurd e (by decide +kernel)) fun _ => ?_⟩
      refine ⟨_, rfl, rfl, _, rfl, iteB (fun e => absurd e (by decide +kernel)) fun _ => ?_⟩
      exact men_pick (W := ownAt 7) (m := 7) (men_cons (men_g giv_c) (men_cons (men_g giv_c) (men_cons (men_g giv_c) (men_cons (men_g giv_c) (men_cons (men_g giv_c) (men_cons (men_l (giv_cons giv_c giv_nil) (by decide) (fun _ => rfl)) (men_cons (men_t (giv_cons giv_c giv_nil) (by decide) (fun _ => rfl)) men_nil))))))) D (by decide) (by decide) hQ
    by_cases e8 : j = 8
    · subst e8
      obtain rfl : ("same" : Str) = f := by injection hj
      refine ⟨_, rfl, rfl, _, rfl, iteB (fun e => absurd e (by decide +kernel)) fun _ => ?_⟩
      refine ⟨_, rfl, rfl, _, rfl, iteB (fun e => absurd e (by decide +kernel)) fun _ => ?_⟩
      refine ⟨_, rfl, rfl, _, rfl, iteB (fun e => absurd e (by decide +kernel)) fun _ => ?_⟩
      refine ⟨_, rfl, rfl, _, rfl, iteB (fun e => absurd e (by decide +kernel)) fun _ => ?_⟩
      refine ⟨_, rfl, rfl, _, rfl, iteB (fun e => absurd e (by decide +kernel)) fun _ => ?_⟩
      refine ⟨_, rfl, rfl, _, rfl, iteB (fun e => absurd e (by decide +kernel)) fun _ => ?_⟩
      refine ⟨_, rfl, rfl, _, rfl, iteB (fun _ => ?_) (fun e => absurd e (by decide +kernel))⟩
      exact men_pick (W := ownAt 8) (m := 8) (men_cons (men_g giv_c) (men_cons (men_g giv_c) (men_cons (men_g giv_c) (men_cons (men_g giv_c) (men_cons (men_g giv_c) (men_cons (men_t (giv_cons giv_c giv_nil) (by decide) (fun _ => rfl)) (men_cons (men_l (giv_cons giv_c giv_nil) (by decide) (fun _ => rfl)) (men_cons (men_d (fun _ => rfl)) men_nil)))))))) D (by decide) (by decide) hQ
    by_cases e9 : j = 9
    · subst e9
      obtain rfl : ("is_partitioned" : Str) = f := by injection hj
      refine ⟨_, rfl, rfl, _, rfl, iteB (fun e => absurd e (by decide +kernel)) fun _ => ?_⟩
      refine ⟨_, rfl, rfl, _, rfl, iteB (fun e => absurd e (by decide +kernel)) fun _ => ?_⟩
      refine ⟨_, rfl, rfl, _, rfl, iteB (fun e => absurd e (by decide +kernel)) fun _ => ?_⟩
      refine ⟨_, rfl, rfl, _, rfl, iteB (fun e => absurd e (by decide +kernel)) fun _ => ?_⟩
      refine ⟨_, rfl, rfl, _, rfl, iteB (fun e => absurd e (by decide +kernel)) fun _ => ?_⟩
      refine ⟨_, rfl, rfl, _, rfl, iteB (fun e => absurd e (by decide +kernel)) fun _ => ?_⟩
      refine ⟨_, rfl, rfl, _, rfl, iteB (fun e => absurd e (by decide +kernel)) fun _ => ?_⟩
      refine ⟨_, rfl, rfl, _, rfl, iteB (fun e => absurd e (by decide +kernel)) fun _ => ?_⟩
      exact men_pick (W := ownAt 9) (m := 7) (men_cons (men_g giv_c) (men_cons (men_g giv_c) (men_cons (men_g giv_c) (men_cons (men_g giv_c) (men_cons (men_g giv_c) (men_cons (men_l (giv_cons giv_c giv_nil) (by decide) (fun _ => rfl)) (men_cons (men_t (giv_cons giv_c giv_nil) (by decide) (fun _ => rfl)) men_nil))))))) D (by decide) (by decide) hQ
    by_cases e10 : j = 10
    · subst e10
      obtain rfl : ("priority" : Str) = f := by injection hj
      refine ⟨_, rfl, rfl, _, rfl, iteB (fun e => absurd e (by decide +kernel)) fun _ => ?_⟩
      refine ⟨_, rfl, rfl, _, rfl, iteB (fun e => absurd e (by decide +kernel)) fun _ => ?_⟩
      refine ⟨_, rfl, rfl, _, rfl, iteB (fun e => absurd e (by decide +kernel)) fun _ => ?_⟩
      refine ⟨_, rfl, rfl, _, rfl, iteB (fun e => absurd e (by decide +kernel)) fun _ => ?_⟩
      refine ⟨_, rfl, rfl, _, rfl, iteB (fun e => absurd e (by decide +kernel)) fun _ => ?_⟩
      refine ⟨_, rfl, rfl, _, rfl, iteB (fun e => absurd e (by decide +kernel)) fun _ => ?_⟩
      refine ⟨_, rfl, rfl, _, rfl, iteB (fun e => absurd e (by decide +kernel)) fun _ => ?_⟩
      refine ⟨_, rfl, rfl, _, rfl, iteB (fun _ => ?_) (fun e => absurd e (by decide +kernel))⟩
      exact men_pick (W := ownAt 10) (m := 7) (men_cons (men_g giv_c) (men_cons (men_g giv_neg1) (men_cons (men_g giv_c) (men_cons (men_g giv_c) (men_cons (men_g giv_c) (men_cons (men_t (giv_cons giv_c giv_nil) (by decide) (fun _ => rfl)) (men_cons (men_l (giv_cons giv_c giv_nil) (by decide) (fun _ => rfl)) men_nil))))))) D (by decide) (by decide) hQ
    exfalso
    have : j < namesF.length := (List.getElem?_eq_some_iff.mp hj).1
    have : j < 11 := this
    omega
theorem ok__law_made (T : Txt K mg) : Cal P w K mg base (L2.CX P w) 8 "_law_made" ["s"] (sp__law_made K mg) := by
  refine T.d__law_made.okX sc__law_made (fun vs H Q E h => ?_) (fun f cdv A outer s H vs Q E hr h => ?_)
  · exact len__law_made h
  · have hu := hu_of hr
    obtain ⟨C_Line, o_Line⟩ := T.o_Line
    refine ⟨_, (pss_one (ps_ret (pe_mkKX o_Line (ok_Line__init T) hr (by decide) (by rfl) (takes_of rfl rfl rfl rfl) (pa_cons (pe_dget hu (pv 0) pe_str (fun _ _ => rfl)) (pa_cons (pe_dget hu (pv 0) pe_str (fun _ _ => rfl)) pa_nil)) (pk_cons (pe_dget hu (pv 0) pe_str (fun _ _ => rfl)) (pk_cons (pe_dget hu (pv 0) pe_str (fun _ _ => rfl)) (pk_cons (pe_dget hu (pv 0) pe_str (fun _ _ => rfl)) (pk_cons (pe_dget hu (pv 0) pe_str (fun _ _ => rfl)) (pk_cons (pe_dget hu (pv 0) pe_str (fun _ _ => rfl)) (pk_cons (pe_dget hu (pv 0) pe_str (fun _ _ => rfl)) (pk_cons (pe_dget hu (pv 0) pe_str (fun _ _ => rfl)) (pk_cons (pe_dget hu (pv 0) pe_str (fun _ _ => rfl)) (pk_cons (pe_dget hu (pv 0) pe_str (fun _ _ => rfl)) pk_nil)))))))))))), ?_⟩
    obtain ⟨s, n, v, ex, ag, dm, pt, se, hi, sm, pa, pr, rfl, ms, F, hQ⟩ := h
    have g : ∀ {z : Str} {u : V}, valV (setL [n, v, ex, ag, dm, pt, se, hi, sm, pa, pr]) (.inr z) = some u → DGet H s (.str z) (some u) := fun {z u} e => by rw [← e]; exact DGet.k (k := .inr z) ms
    refine ⟨_, rfl, s, _, rfl, g (z := "name") rfl, _, rfl, s, _, rfl, g (z := "value") rfl, ?_⟩
    refine ⟨_, rfl, s, _, rfl, g (z := "expires") rfl, _, rfl, s, _, rfl, g (z := "age") rfl, _, rfl, s, _, rfl, g (z := "domain") rfl, _, rfl, s, _, rfl, g (z := "path") rfl, ?_⟩
    refine ⟨_, rfl, s, _, rfl, g (z := "is_secure") rfl, _, rfl, s, _, rfl, g (z := "is_hidden") rfl, _, rfl, s, _, rfl, g (z := "same") rfl, _, rfl, s, _, rfl, g (z := "is_partitioned") rfl, _, rfl, s, _, rfl, g (z := "priority") rfl, rfl, rfl, fun a dx hy hd hne => ?_⟩
    have sx : Same H (upd (upd H dx (.own a)) a (.ins C_Line dx [])) := (Same.new hd).trans (Same.new (by rw [upd_ne hne.symm]; exact hy))
    refine ⟨a, C_Line, dx, n, v, ex, ag, dm, pt, se, hi, sm, pa, pr, rfl, o_Line.g, upd_same, fun z hz => (F z hz).same sx, ?_⟩
    cases hb : badF [n, v, ex, ag, dm, pt, se, hi, sm, pa, pr] with
    | some f => rw [hb] at hQ; exact fun C d H' hC s2 hd2 => hQ C d H' hC (sx.trans s2) hd2
    | none =>
      rw [hb] at hQ
      have hQ : ∀ (a C dx : Addr) (H' : Hp), Same H H' → mg "Line" = some (.ref C) → H' a = some (.ins C dx (zipF [n, v, ex, ag, dm, pt, se, hi, sm, pa, pr])) → Q (.ref a) H' := hQ
      refine fun H3 s3 => ⟨rfl, hQ a C_Line dx _ (fun b o e => ?_) o_Line.g upd_same⟩
      rw [upd_ne (ne_of_none e hy)]
      refine s3 _ _ ?_
      rw [upd_ne (ne_of_none e hy), upd_ne (ne_of_none e hd)]
      exact e
theorem ok__law_fields (T : Txt K mg) : Cal P w K mg base CX0 1 "_law_fields" ["line"] (sp__law_fields mg) := by
  refine T.d__law_fields.ok0 sc__law_fields (fun vs H Q E h => ?_) (fun f cdv A outer s H vs Q E hr h => ?_)
  · obtain ⟨_, _, _, _, _, _, _, _, _, _, _, _, _, _, rfl, _⟩ := h; rfl
  · obtain ⟨C_Line, o_Line⟩ := T.o_Line
    refine ⟨_, (pss_cons (ps_set (i := 1) sc__law_fields.nd rfl (by first | exact Or.inl rfl | exact Or.inr rfl) (pe_lst (pa_cons (pe_fld (pv 0) rfl) (pa_cons (pe_fld (pv 0) rfl) (pa_cons (pe_fld (pv 0) rfl) (pa_cons (pe_fld (pv 0) rfl) (pa_cons (pe_fld (pv 0) rfl) (pa_cons (pe_fld (pv 0) rfl) pa_nil))))))))
      (pss_one (ps_ret (pe_op op_cat (pv 1) (pe_lst (pa_cons (pe_fld (pv 0) rfl) (pa_cons (pe_fld (pv 0) rfl) (pa_cons (pe_fld (pv 0) rfl) (pa_cons (pe_fld (pv 0) rfl) (pa_cons (pe_fld (pv 0) rfl) pa_nil)))))))))), ?_⟩
    obtain ⟨a, C, dx, x, y, ex, ag, dm, pt, se, hi, sm, pa, pr, rfl, hg, ha, hQ⟩ := h
    obtain rfl : C = C_Line := by have := hg.symm.trans o_Line.g; cases this; rfl
    refine ⟨_, rfl, a, C, dx, _, _, rfl, ha, o_Line.o.cl, o_Line.na.get (by simp), rfl, ?_⟩
    refine ⟨_, rfl, a, C, dx, _, _, rfl, ha, o_Line.o.cl, o_Line.na.get (by simp), rfl, ?_⟩
    refine ⟨_, rfl, a, C, dx, _, _, rfl, ha, o_Line.o.cl, o_Line.na.get (by simp), rfl, ?_⟩
    refine ⟨_, rfl, a, C, dx, _, _, rfl, ha, o_Line.o.cl, o_Line.na.get (by simp), rfl, ?_⟩
    refine ⟨_, rfl, a, C, dx, _, _, rfl, ha, o_Line.o.cl, o_Line.na.get (by simp), rfl, ?_⟩
    refine ⟨_, rfl, a, C, dx, _, _, rfl, ha, o_Line.o.cl, o_Line.na.get (by simp), rfl, by show 6 ≤ sizeLine; decide, fun p1 hp1 => ?_⟩
    have z1 := Same.new (o := HO.lst [V.str x, V.str y, ex, ag, dm, pt]) hp1
    have m1 : (upd H p1 (.lst [V.str x, V.str y, ex, ag, dm, pt])) p1 = some (.lst [V.str x, V.str y, ex, ag, dm, pt]) := upd_same
    have ha1 := z1 _ _ ha
    refine ⟨_, rfl, ?_⟩
    refine ⟨_, rfl, a, C, dx, _, _, rfl, ha1, o_Line.o.cl, o_Line.na.get (by simp), rfl, ?_⟩
    refine ⟨_, rfl, a, C, dx, _, _, rfl, ha1, o_Line.o.cl, o_Line.na.get (by simp), rfl, ?_⟩
    refine ⟨_, rfl, a, C, dx, _, _, rfl, ha1, o_Line.o.cl, o_Line.na.get (by simp), rfl, ?_⟩
    refine ⟨_, rfl, a, C, dx, _, _, rfl, ha1, o_Line.o.cl, o_Line.na.get (by simp), rfl, ?_⟩
    refine ⟨_, rfl, a, C, dx, _, _, rfl, ha1, o_Line.o.cl, o_Line.na.get (by simp), rfl, by show 5 ≤ sizeLine; decide, fun p2 hp2 => ?_⟩
    have z2 := Same.new (o := HO.lst [V.bl se, V.bl hi, sm, V.bl pa, pr]) hp2
    exact ⟨p1, p2, _, _, rfl, rfl, z2 _ _ m1, upd_same, by show 11 ≤ sizeLine; decide, fun p3 hp3 => hQ p3 _ ((z1.trans z2).trans (Same.new hp3)) upd_same⟩
theorem ok__law_refused (T : Txt K mg) : Cal P w K mg base CX0 9 "_law_refused" ["s"] (sp__law_refused K) := by
  refine T.d__law_refused.ok0 sc__law_refused (fun vs H Q E h => ?_) (fun f cdv A outer s H vs Q E hr h => ?_)
  · exact len__law_refused h
  · obtain ⟨C_BadLine, e_BadLine⟩ := T.e_BadLine
    obtain ⟨C_CrumbError, g_CrumbError, m_CrumbError, x_BadLine⟩ : ∃ C0 : Addr, mg "CrumbError" = some (.ref C0) ∧ PySem.W.exmOne K (.ref C_BadLine) (.ref C0) = some true ∧ ExcC K C_BadLine := by obtain ⟨C0, C1, h1, h2, h3, h4⟩ := T.x_CrumbError_BadLine; cases h2.symm.trans e_BadLine.g; exact ⟨C0, h1, h3, h4⟩
    refine ⟨_, (pss_cons (ps_set (i := 1) sc__law_refused.nd rfl (by first | exact Or.inl rfl | exact Or.inr rfl) pe_non)
      (pss_cons (ps_try_as (i := 2) rfl rfl sc__law_refused.nd rfl rfl ⟨rfl, by decide, Or.inl g_CrumbError⟩ takes0
      (fun W pn xe tk po => (pss_one (ps_expr (pe_cX (ok__law_made T) hr (by decide) (by rfl) tk (pa_cons (pv 0) pa_nil)))))
      (fun a oe cls d pn hz hf => (pss_one (ps_set (i := 1) sc__law_refused.nd rfl (by first | exact Or.inl rfl | exact Or.inr rfl) (pe_ifExp (pt_val (pe_callB (show CallR _ (.builtin "isinstance") (rIsX K a cls d) from (call_isX hz hf)) (by rfl) T.b_isinstance (by decide +kernel) (pa_cons (pv 2) (pa_cons (pe_gt (by rfl) e_BadLine.g) pa_nil)))) (pe_lst (pa_cons (pe_xf e_BadLine.X e_BadLine.no hz hf (pv 2)) pa_nil)) (pe_lst pa_nil))))))
      (pss_one (ps_ret (pv 1))))), ?_⟩
    obtain ⟨s, n, v, ex, ag, dm, pt, se, hi, sm, pa, pr, rfl, ms, F, hQ⟩ := h
    cases hb : badF [n, v, ex, ag, dm, pt, se, hi, sm, pa, pr] with
    | none =>
      have hQ : ∀ H', Same H H' → Q .non H' := by
        rcases hQ with ⟨_, q⟩ | ⟨f, e, _⟩
        · exact q
        · rw [hb] at e; cases e
      refine ⟨_, rfl, s, n, v, ex, ag, dm, pt, se, hi, sm, pa, pr, rfl, ms, F, ?_⟩
      rw [hb]
      exact fun a C dx H' s1 _ _ => ⟨_, rfl, hQ H' s1⟩
    | some f =>
      have hQ : ∀ (p : Addr) (H' : Hp), Same H H' → H' p = some (.lst [.str f]) → Q (.ref p) H' := by
        rcases hQ with ⟨e, _⟩ | ⟨g, e, q⟩
        · rw [hb] at e; cases e
        · rw [hb] at e; cases e; exact q
      refine ⟨_, rfl, s, n, v, ex, ag, dm, pt, se, hi, sm, pa, pr, rfl, ms, F, ?_⟩
      rw [hb]
      intro C d H' hC s1 hd
      obtain rfl : C = C_BadLine := by have := hC.symm.trans e_BadLine.g; cases this; rfl
      have s2 := s1.trans (Same.new (o := HO.xd [(("field" : Str), V.str f)]) hd)
      refine ⟨true, m_CrumbError, fun _ a0 _ => ?_, fun g => Bool.noConfusion g⟩
      refine ⟨_, rfl, C, d, _, _, .ref C, true, rfl, rfl, rfl, upd_same, fun _ r => r, x_BadLine, by unfold PySem.W.kitOne; simp, ?_⟩
      refine ⟨_, rfl, iteT ⟨_, rfl, rfl, rfl, d, _, _, rfl, upd_same, by rw [List.lookup_cons_self], by show 1 ≤ sizeLine; decide, fun p hp => ?_⟩⟩
      exact ⟨_, rfl, hQ p _ (s2.trans (Same.new hp)) upd_same⟩
theorem ok__law_changed (T : Txt K mg) : Cal P w K mg base CX0 1 "_law_changed" ["s", "field", "value"] sp__law_changed := by
  refine T.d__law_changed.ok0 sc__law_changed (fun vs H Q E h => ?_) (fun f cdv A outer s H vs Q E hr h => ?_)
  · first | (obtain ⟨_, rfl, _⟩ := h; rfl) | (obtain ⟨_, _, rfl, _⟩ := h; rfl) | (obtain ⟨_, _, _, rfl, _⟩ := h; rfl) | (obtain ⟨_, _, _, _, rfl, _⟩ := h; rfl) | (obtain ⟨_, _, _, _, _, rfl, _⟩ := h; rfl)
  · have hu := hu_of hr
    refine ⟨_, (pss_cons (ps_set (i := 3) sc__law_changed.nd rfl (by first | exact Or.inl rfl | exact Or.inr rfl) (pe_callTy call_dictD (by rfl) T.b_dict (by decide +kernel) (pa_cons (pv 0) pa_nil)))
      (pss_cons (ps_dput hu (pv 3) (pv 1) (pv 2) rfl)
      (pss_one (ps_ret (pv 3))))), ?_⟩
    obtain ⟨s, kvs, f, v, rfl, ms, hl, hQ⟩ := h
    refine ⟨_, rfl, s, kvs, rfl, .inl ms, fun p hp => ?_⟩
    have m1 := upd_same (H := H) (a := p) (o := HO.dK kvs)
    have s1 := Same.new (o := HO.dK kvs) hp
    refine ⟨_, rfl, _, rfl, _, rfl, p, _, rfl, DPut.k (k := .inr f) m1 (Nat.lt_of_le_of_lt hl (by decide)), _, rfl, ?_⟩
    rw [upd_upd]
    exact hQ p _ (Same.new hp) hp upd_same
theorem ok_law {f : Addr} {fd : FuncData} (F : Fun K "law" "law" s_law f fd) (T : Txt K mg) : FnG P w K mg base CX0 10 f fd ["script"] (sp_law K) := by
  refine Kb.Fun.okG F sc_law (fun vs H Q E h => ?_) (fun cdv A outer s H vs Q E hgd hr h => ?_)
  · first | (obtain ⟨_, rfl, _⟩ := h; rfl) | (obtain ⟨_, _, rfl, _⟩ := h; rfl) | (obtain ⟨_, _, _, rfl, _⟩ := h; rfl) | (obtain ⟨_, _, _, _, rfl, _⟩ := h; rfl) | (obtain ⟨_, _, _, _, _, rfl, _⟩ := h; rfl)
  · have hu := hu_of hr
    obtain ⟨C_Line, o_Line⟩ := T.o_Line
    refine ⟨_, (pss_cons (ps_for PassesOwn.never rfl (pi_list (pe_c (ok__law_draws T) hr (by decide) (by rfl) pass0 (pa_cons (pv 0) pa_nil))) (pg_name (i := 1) sc_law.nd rfl (by first | exact Or.inl rfl | exact Or.inr rfl))
      (pss_cons (ps_for PassesOwn.never rfl (pi_range1 (by rfl) T.b_range (pa_cons pe_int pa_nil)) (pg_name (i := 2) sc_law.nd rfl (by first | exact Or.inl rfl | exact Or.inr rfl))
      (pss_cons (ps_par (i := 3) (j := 4) rfl sc_law.nd rfl rfl (by decide) rfl rfl (pa_cons (pe_c (ok__law_right T) hr (by decide) (by rfl) pass0 (pa_cons (pv 1) pa_nil)) (pa_cons (pe_c (ok__law_right T) hr (by decide) (by rfl) pass0 (pa_cons (pv 1) pa_nil)) pa_nil)) (by rfl))
      (pss_cons (ps_set (i := 5) sc_law.nd rfl (by first | exact Or.inl rfl | exact Or.inr rfl) (pe_c (CX := L2.CX _ _) (E := fun _ _ _ => False) (ok__law_made T) hr (by decide) (by rfl) passF (pa_cons (pv 3) pa_nil)))
      (pss_cons (ps_if (PW.pt (pw_or (pt_cmpR (op_ne) (pe_callB (call_reprD (repr_u hr) hgd) (by rfl) T.b_repr (by decide +kernel) (pa_cons (pe_c (ok__law_fields T) hr (by decide) (by rfl) pass0 (pa_cons (pv 5) pa_nil)) pa_nil)) (pe_callB (call_reprD (repr_u hr) hgd) (by rfl) T.b_repr (by decide +kernel) (pa_cons (pe_callTy (call_listV rfl) (by rfl) T.b_list (by decide +kernel) (pa_cons (pe_vals (pv 3)) pa_nil)) pa_nil)) (nomark _)) (pw_or1 (pt_not (pt_cmpR (op_eqM o_Line (ok_Line__eq T) hr (by decide) pass0 (fun vs H Q E h => len_Line__eq h)) (pv 5) (pe_c (CX := L2.CX _ _) (E := fun _ _ _ => False) (ok__law_made T) hr (by decide) (by rfl) passF (pa_cons (pe_callTy call_dictD (by rfl) T.b_dict (by decide +kernel) (pa_cons (pv 3) pa_nil)) pa_nil)) (nomark _))))))
      (pss_one (ps_ret pe_bl))
      pss_nil)
      (pss_cons (ps_if (PW.pt (pw_or (pt_cmpR (op_ne) (pe_cmpR (op_eqM o_Line (ok_Line__eq T) hr (by decide) pass0 (fun vs H Q E h => len_Line__eq h)) (pv 5) (pe_c (CX := L2.CX _ _) (E := fun _ _ _ => False) (ok__law_made T) hr (by decide) (by rfl) passF (pa_cons (pv 4) pa_nil)) (nomark _)) (pe_cmpR (op_eqDK (Nat.lt_of_succ_lt hu )) (pv 3) (pv 4) (nomark _)) (nomark _)) (pw_or (pt_cmpR (op_eqM o_Line (ok_Line__eq T) hr (by decide) pass0 (fun vs H Q E h => len_Line__eq h)) (pv 5) (pe_dget hu (pv 3) pe_str (fun _ _ => rfl)) (nomark _)) (pw_or1 (pt_cmpR (op_eqM o_Line (ok_Line__eq T) hr (by decide) pass0 (fun vs H Q E h => len_Line__eq h)) (pv 5) (pe_callTy (call_tupV rfl) (by rfl) T.b_tuple (by decide +kernel) (pa_cons (pe_vals (pv 3)) pa_nil)) (nomark _))))))
      (pss_one (ps_ret pe_bl))
      pss_nil)
      (pss_cons (ps_set (i := 6) sc_law.nd rfl (by first | exact Or.inl rfl | exact Or.inr rfl) (pe_callTy (call_listD rfl) (by rfl) T.b_list (by decide +kernel) (pa_cons (pv 3) pa_nil)))
      (pss_cons (ps_par (i := 7) (j := 8) rfl sc_law.nd rfl rfl (by decide) rfl rfl (pa_cons (pe_c (ok__law_digit T) hr (by decide) (by rfl) pass0 (pa_cons (pv 1) (pa_cons pe_int pa_nil))) (pa_cons (pe_c (ok__law_digit T) hr (by decide) (by rfl) pass0 (pa_cons (pv 1) (pa_cons pe_int pa_nil))) pa_nil)) (by rfl))
      (pss_cons (ps_set (i := 9) sc_law.nd rfl (by first | exact Or.inl rfl | exact Or.inr rfl) (pe_c (ok__law_changed T) hr (by decide) (by rfl) pass0 (pa_cons (pv 3) (pa_cons (pe_ix ix_list (pv 6) (pv 7) (fun _ _ => rfl)) (pa_cons (pe_c (ok__law_wrong T) hr (by decide) (by rfl) pass0 (pa_cons (pv 1) (pa_cons (pe_ix ix_list (pv 6) (pv 7) (fun _ _ => rfl)) pa_nil))) pa_nil)))))
      (pss_cons (ps_if (pt_cmpR (op_neD hr.units) (pe_c (ok__law_refused T) hr (by decide) (by rfl) pass0 (pa_cons (pv 9) pa_nil)) (pe_lst (pa_cons (pe_ix ix_list (pv 6) (pv 7) (fun _ _ => rfl)) pa_nil)) (nomark _))
      (pss_one (ps_ret pe_bl))
      pss_nil)
      (pss_cons (ps_set (i := 9) sc_law.nd rfl (by first | exact Or.inl rfl | exact Or.inr rfl) (pe_c (ok__law_changed T) hr (by decide) (by rfl) pass0 (pa_cons (pv 9) (pa_cons (pe_ix ix_list (pv 6) (pv 8) (fun _ _ => rfl)) (pa_cons (pe_c (ok__law_wrong T) hr (by decide) (by rfl) pass0 (pa_cons (pv 1) (pa_cons (pe_ix ix_list (pv 6) (pv 8) (fun _ _ => rfl)) pa_nil))) pa_nil)))))
      (pss_cons (ps_if (pt_cmpR (op_neD hr.units) (pe_c (ok__law_refused T) hr (by decide) (by rfl) pass0 (pa_cons (pv 9) pa_nil)) (pe_lst (pa_cons (pe_ix ix_list (pv 6) (pe_callB (call_min2 rfl) (by rfl) T.b_min (by decide +kernel) (pa_cons (pv 7) (pa_cons (pv 8) pa_nil))) (fun _ _ => rfl)) pa_nil)) (nomark _))
      (pss_one (ps_ret pe_bl))
      pss_nil)
      (pss_cons (ps_set (i := 9) sc_law.nd rfl (by first | exact Or.inl rfl | exact Or.inr rfl) (pe_c (ok__law_changed T) hr (by decide) (by rfl) pass0 (pa_cons (pe_c (ok__law_changed T) hr (by decide) (by rfl) pass0 (pa_cons (pv 3) (pa_cons pe_str (pa_cons pe_str pa_nil)))) (pa_cons pe_str (pa_cons pe_str pa_nil)))))
      (pss_one (ps_if (PW.pt (pw_or (pt_cmpR (op_neD hr.units) (pe_c (ok__law_refused T) hr (by decide) (by rfl) pass0 (pa_cons (pv 9) pa_nil)) (pe_lst (pa_cons pe_str pa_nil)) (nomark _)) (pw_or1 (pt_cmpR (op_neD hr.units) (pe_c (ok__law_refused T) hr (by decide) (by rfl) pass0 (pa_cons (pe_c (ok__law_changed T) hr (by decide) (by rfl) pass0 (pa_cons (pv 9) (pa_cons pe_str (pa_cons (pe_un un_neg pe_int) pa_nil)))) pa_nil)) (pe_lst (pa_cons pe_str pa_nil)) (nomark _)))))
      (pss_one (ps_ret pe_bl))
      pss_nil))))))))))))))
      (pss_cons (ps_set (i := 10) sc_law.nd rfl (by first | exact Or.inl rfl | exact Or.inr rfl) (pe_c (ok__law_changed T) hr (by decide) (by rfl) pass0 (pa_cons (pe_c (ok__law_changed T) hr (by decide) (by rfl) pass0 (pa_cons (pe_c (ok__law_right T) hr (by decide) (by rfl) pass0 (pa_cons (pv 1) pa_nil)) (pa_cons pe_str (pa_cons (pe_op op_mulL pe_str pe_int) pa_nil)))) (pa_cons pe_str (pa_cons (pe_op op_mulL pe_str pe_int) pa_nil)))))
      (pss_one (ps_if (PW.pt (pw_or (pt_cmpR (op_neD hr.units) (pe_c (ok__law_refused T) hr (by decide) (by rfl) pass0 (pa_cons (pv 10) pa_nil)) (pe_lst (pa_cons pe_str pa_nil)) (nomark _)) (pw_or1 (pt_cmpR (op_notN) (pe_c (ok__law_refused T) hr (by decide) (by rfl) pass0 (pa_cons (pe_c (ok__law_changed T) hr (by decide) (by rfl) pass0 (pa_cons (pv 10) (pa_cons pe_str (pa_cons (pe_op op_mulL pe_str pe_int) pa_nil)))) pa_nil)) pe_non (nomark _)))))
      (pss_one (ps_ret pe_bl))
      pss_nil)))))
      (pss_cons (ps_set (i := 11) sc_law.nd rfl (by first | exact Or.inl rfl | exact Or.inr rfl) (pe_c (ok__law_fields T) hr (by decide) (by rfl) pass0 (pa_cons (pe_mkK0 (CX := L2.CX _ _) (E := fun _ _ _ => False) o_Line (ok_Line__init T) hr (by decide) (by rfl) passF (pa_cons pe_str (pa_cons pe_str pa_nil))) pa_nil)))
      (pss_one (ps_ret (pe_cmpR (op_eq) (pe_callB (call_reprD (repr_u hr) hgd) (by rfl) T.b_repr (by decide +kernel) (pa_cons (pv 11) pa_nil)) (pe_callB (call_reprD (repr_u hr) hgd) (by rfl) T.b_repr (by decide +kernel) (pa_cons (pe_lst (pa_cons pe_str (pa_cons pe_str (pa_cons pe_non (pa_cons pe_non (pa_cons pe_non (pa_cons pe_non (pa_cons pe_bl (pa_cons pe_bl (pa_cons pe_non (pa_cons pe_bl (pa_cons pe_non pa_nil)))))))))))) pa_nil)) (nomark _)))))), ?_⟩
    obtain ⟨a0, ns, rfl, hS, hlen, hQ⟩ := h
    refine ⟨_, rfl, a0, ns, rfl, hS, hlen, fun p ds H1 s1 hpn m1 dl nd hds => ?_⟩
    refine ⟨p, rfl, ⟨_, SqL.of m1⟩, for_draws (fun σ => ∃ v1 v2 v3 v4 v5 v6 v7 v8 v9 v10 v11, σ = [some (.ref a0), v1, v2, v3, v4, v5, v6, v7, v8, v9, v10, v11]) (fun _ => True) (fun _ _ _ _ _ _ => trivial) ⟨_, _, _, _, _, _, _, _, _, _, _, rfl⟩ trivial m1 nd (fun d hd => (hds d hd).1) ?_ ?_⟩
    · rintro d σ H2 N hdm ⟨v1, v2, v3, v4, v5, v6, v7, v8, v9, v10, v11, rfl⟩ _ D2 hN
      refine ⟨5, rfl, by decide, by decide, for_turns (n := 5) (r := 1000) (B := 30) (fun σ => ∃ v2 v3 v4 v5 v6 v7 v8 v9 v10 v11, σ = [some (.ref a0), some (.ref d), v2, v3, v4, v5, v6, v7, v8, v9, v10, v11]) ⟨_, _, _, _, _, _, _, _, _, _, rfl⟩ (D2.less (by decide)) ?_ ?_⟩
      · rintro i σ H3 m N2 ⟨v2, v3, v4, v5, v6, v7, v8, v9, v10, v11, rfl⟩ k3 D3 hN2
        refine ⟨_, rfl, d, m + 18, rfl, D3, fun s x y ex ag dm pt se hi sm pa pr H4 L ax ay A4 => ?_⟩
        refine ⟨_, rfl, d, m + 6, rfl, A4.D, fun o x2 y2 ex2 ag2 dm2 pt2 se2 hi2 sm2 pa2 pr2 H5 L2 ax2 ay2 A5 => ?_⟩
        have R := L.right se hi pa
        have R2 := L2.right se2 hi2 pa2
        have V1 := L.pl ax ay se hi pa
        have V2 := L2.pl ax2 ay2 se2 hi2 pa2
        have ms := A5.k _ _ A4.m A4.fd
        have mo := A5.m
        have k5 := A4.k.trans A5.k
        have D5 := A5.D
        have sd := A4.fd
        refine ⟨_, _, rfl, _, rfl, s, .str x, .str y, ex, ag, dm, pt, .bl se, .bl hi, sm, .bl pa, pr, rfl, ms, R.fv _, ?_⟩
        rw [R.bad]
        intro a C dx H6 s6 hg ma
        obtain rfl : C = C_Line := by have := hg.symm.trans o_Line.g; cases this; rfl
        have ms := s6 _ _ ms
        have mo := s6 _ _ mo
        have RP := L.rp ax ay se hi pa
        have pvs : ((lineF x y ex ag dm pt se hi sm pa pr).map (·.2)).all plV = true := by
          obtain ⟨_, _, _, _, _, _, _, _, _, _, _, e, q⟩ := V1; exact q
        refine ⟨_, rfl, a, C, dx, x, y, ex, ag, dm, pt, se, hi, sm, pa, pr, rfl, hg, ma, fun q1 H7 s7 mq1 => ?_⟩
        have ms := s7 _ _ ms
        have mo := s7 _ _ mo
        have ma := s7 _ _ ma
        refine ⟨_, _, rfl, .lst (SqL.of mq1) (dp_plVs pvs), RP.s, RP.n, RP.shown (by decide), Nat.le_trans RP.z (by decide), ?_⟩
        refine ⟨_, rfl, s, _, rfl, ms, fun q2 hq2 => ?_⟩
        have z2 := Same.new (o := viewO "dict_values" q2 s) hq2
        have mq2 := upd_same (H := H7) (a := q2) (o := viewO "dict_values" q2 s)
        refine ⟨q2, s, _, rfl, mq2, z2 _ _ ms, fun q3 hq3 => ?_⟩
        have z3 := z2.trans (Same.new (o := HO.lst ((setL [.str x, .str y, ex, ag, dm, pt, .bl se, .bl hi, sm, .bl pa, pr]).map (·.2))) hq3)
        have mq3 := upd_same (H := upd H7 q2 (viewO "dict_values" q2 s)) (a := q3) (o := HO.lst ((setL [.str x, .str y, ex, ag, dm, pt, .bl se, .bl hi, sm, .bl pa, pr]).map (·.2)))
        generalize upd (upd H7 q2 (viewO "dict_values" q2 s)) q3 (HO.lst ((setL [.str x, .str y, ex, ag, dm, pt, .bl se, .bl hi, sm, .bl pa, pr]).map (·.2))) = H8 at *
        have ms := z3 _ _ ms
        have mo := z3 _ _ mo
        have ma := z3 _ _ ma
        refine ⟨_, _, rfl, .lst (SqL.of mq3) (dp_plVs pvs), RP.s, RP.n, RP.shown (by decide), Nat.le_trans RP.z (by decide), ?_⟩
        refine ⟨rfl, _, rfl, ite_not (neS_self _) ?_⟩
        refine ⟨_, rfl, _, rfl, s, _, rfl, .inl ms, fun q4 hq4 => ?_⟩
        have z4 := Same.new (o := HO.dK (setL [.str x, .str y, ex, ag, dm, pt, .bl se, .bl hi, sm, .bl pa, pr])) hq4
        have ms := z4 _ _ ms
        have mo := z4 _ _ mo
        have ma := z4 _ _ ma
        refine ⟨q4, .str x, .str y, ex, ag, dm, pt, .bl se, .bl hi, sm, .bl pa, pr, rfl, upd_same, R.fv _, ?_⟩
        rw [R.bad]
        intro b Cb db H9 s9 hgb mb
        obtain rfl : Cb = C := by have := hgb.symm.trans hg; cases this; rfl
        have ms := s9 _ _ ms
        have mo := s9 _ _ mo
        have ma := s9 _ _ ma
        refine ⟨a, dx, _, _, rfl, ma, o_Line.o.ty mb, OwnC.first, a, Cb, dx, _, .ref b, rfl, hg, ma, V1, .inl ⟨b, db, _, rfl, mb, V1, fun H10 s10 => ⟨_, rfl, ?_⟩⟩⟩
        have e0 : (!eqF (zipF [.str x, .str y, ex, ag, dm, pt, .bl se, .bl hi, sm, .bl pa, pr]) (zipF [.str x, .str y, ex, ag, dm, pt, .bl se, .bl hi, sm, .bl pa, pr])) = false := by rw [show eqF (zipF [.str x, .str y, ex, ag, dm, pt, .bl se, .bl hi, sm, .bl pa, pr]) (zipF [.str x, .str y, ex, ag, dm, pt, .bl se, .bl hi, sm, .bl pa, pr]) = true from eqF_self V1]; rfl
        refine ite_not e0 ?_
        have ms := s10 _ _ ms
        have mo := s10 _ _ mo
        have ma := s10 _ _ ma
        refine ⟨_, rfl, _, rfl, o, .str x2, .str y2, ex2, ag2, dm2, pt2, .bl se2, .bl hi2, sm2, .bl pa2, pr2, rfl, mo, R2.fv _, ?_⟩
        rw [R2.bad]
        intro b2 Cc db2 H11 s11 hgc mb2
        obtain rfl : Cc = Cb := by have := hgc.symm.trans hg; cases this; rfl
        have ms := s11 _ _ ms
        have mo := s11 _ _ mo
        have ma := s11 _ _ ma
        refine ⟨a, dx, _, _, rfl, ma, o_Line.o.ty mb2, OwnC.first, a, Cc, dx, _, .ref b2, rfl, hg, ma, V1, .inl ⟨b2, db2, _, rfl, mb2, V2, fun H12 s12 => ?_⟩⟩
        have ms := s12 _ _ ms
        have mo := s12 _ _ mo
        have ma := s12 _ _ ma
        refine ⟨_, rfl, _, rfl, s, o, _, _, rfl, rfl, ms, mo, (setL_len R.len).trans (setL_len R2.len).symm, setL_flat R, setL_flat R2, ?_⟩
        have e1 := eqF_KB R R2
        refine ⟨rfl, _, rfl, ite_not (by rw [← e1]; simp) ?_⟩
        have kS := o_Line.kitT (T := "str") (by decide +kernel)
        have kT := o_Line.kitT (T := "tuple") (by decide +kernel)
        refine ⟨_, rfl, _, rfl, s, _, rfl, DGet.k (k := .inr "value") ms, a, dx, _, _, rfl, ma, .base (.str y), kS.2, a, Cc, dx, _, .str y, rfl, hg, ma, V1, .inr ⟨_, .base (.str y), kS.1, ?_⟩⟩
        refine ⟨_, rfl, iteF ?_⟩
        refine ⟨_, rfl, _, rfl, s, _, rfl, ms, fun q5 hq5 => ⟨q5, s, _, rfl, upd_same, (Same.new hq5) _ _ ms, fun q6 hq6 => ?_⟩⟩
        have z6 := (Same.new (o := viewO "dict_values" q5 s) hq5).trans (Same.new (o := HO.tup ((setL [.str x, .str y, ex, ag, dm, pt, .bl se, .bl hi, sm, .bl pa, pr]).map (·.2))) hq6)
        have mq6 := upd_same (H := upd H12 q5 (viewO "dict_values" q5 s)) (a := q6) (o := HO.tup ((setL [.str x, .str y, ex, ag, dm, pt, .bl se, .bl hi, sm, .bl pa, pr]).map (·.2)))
        generalize upd (upd H12 q5 (viewO "dict_values" q5 s)) q6 (HO.tup ((setL [.str x, .str y, ex, ag, dm, pt, .bl se, .bl hi, sm, .bl pa, pr]).map (·.2))) = H13 at *
        have ms := z6 _ _ ms
        have mo := z6 _ _ mo
        have ma := z6 _ _ ma
        refine ⟨a, dx, _, _, rfl, ma, .base (.tup mq6), kT.2, a, Cc, dx, _, .ref q6, rfl, hg, ma, V1, .inr ⟨_, .base (.tup mq6), kT.1, ⟨_, rfl, iteF ?_⟩⟩⟩
        have s513 : Same H5 H13 := ((s6.trans s7).trans (z3.trans z4)).trans ((s9.trans s10).trans ((s11.trans s12).trans z6))
        have k13 := k5.same s513
        have D13 := D5.same s513
        clear mo ma mb mb2 mq1 mq2 mq3 mq6 z3 z4 z6 s6 s7 s9 s10 s11 s12 z2 A4 A5 k5 D5 s513 k3 D3 e0 e1 pvs RP V2 hgb hgc hq2 hq3 hq4 hq5 hq6
        refine ⟨_, rfl, s, _, rfl, .inl ms, fun q7 hq7 => ?_⟩
        have z7 := Same.new (o := HO.lst (namesF.map V.str)) hq7
        have q7d := D13.ne hq7
        have mq7 : (upd H13 q7 (HO.lst (namesF.map V.str))) q7 = some (HO.lst (namesF.map V.str)) := upd_same
        have ms := z7 _ _ ms
        have k14 := k13.same z7
        have D14 := D13.same z7
        rw [show (setL [.str x, .str y, ex, ag, dm, pt, .bl se, .bl hi, sm, .bl pa, pr]).map (fun kv => kV kv.1) = namesF.map V.str from rfl]
        generalize upd H13 q7 (HO.lst (namesF.map V.str)) = H14 at *
        refine ⟨_, rfl, d, 11, m + 5, rfl, by decide, by decide, D14, fun r1 H15 r10 r11 k15 D15 => ?_⟩
        refine ⟨_, rfl, d, 11, m + 4, rfl, by decide, by decide, D15, fun r2 H16 r20 r21 k16 D16 => ?_⟩
        refine ⟨_, _, rfl, ?_⟩
        obtain ⟨i1, rfl⟩ : ∃ i : Nat, r1 = i := ⟨r1.toNat, by omega⟩
        obtain ⟨i2, rfl⟩ : ∃ i : Nat, r2 = i := ⟨r2.toNat, by omega⟩
        obtain ⟨f1, hf1⟩ : ∃ f, namesF[i1]? = some f := ⟨_, List.getElem?_eq_getElem (show i1 < 11 by omega)⟩
        obtain ⟨f2, hf2⟩ : ∃ f, namesF[i2]? = some f := ⟨_, List.getElem?_eq_getElem (show i2 < 11 by omega)⟩
        have at_ : ∀ {i : Nat} {f : Str}, namesF[i]? = some f → atI (namesF.map V.str) (i : Int) = some (.str f) := fun {i f} h => atI_nat (by rw [List.getElem?_map, h]; rfl)
        have ms := k16 _ _ (k15 _ _ ms sd) sd
        have mq7 := k16 _ _ (k15 _ _ mq7 q7d) q7d
        have k16 := (k14.trans k15).trans k16
        refine ⟨_, rfl, _, rfl, _, rfl, q7, _, _, _, rfl, rfl, SqL.of mq7, at_ hf1, _, rfl, _, rfl, _, rfl, q7, _, _, _, rfl, rfl, SqL.of mq7, at_ hf1, d, m + 3, i1, f1, rfl, hf1, D16, fun u1 H17 k17 D17 F17 n17 w17 => ?_⟩
        have ms := k17 _ _ ms sd
        have mq7 := k17 _ _ mq7 q7d
        refine ⟨s, _, f1, u1, rfl, ms, by rw [setL_len R.len]; decide, fun w H18 s18 hw mw => ?_⟩
        rw [put_set R.len hf1] at mw
        have wd := D17.ne hw
        have ms := s18 _ _ ms
        have mq7 := s18 _ _ mq7
        have D18 := D17.same s18
        have F18 := F17.same s18
        have k18 := (k16.trans k17).same s18
        have S1 := sets (by rw [List.length_set]; exact R.len) mw (set_fv (R.fv _) F18) (bad_one R hf1 w17)
        obtain ⟨b0, b1, b2, b3, b4, b5, b6, b7, b8, b9, b10, mB, fB, bB⟩ := S1
        refine ⟨_, rfl, w, b0, b1, b2, b3, b4, b5, b6, b7, b8, b9, b10, rfl, mB, fB, .inr ⟨f1, bB, fun q8 H19 s19 mq8 => ?_⟩⟩
        have ms := s19 _ _ ms
        have mq7 := s19 _ _ mq7
        have mw := s19 _ _ mw
        have D19 := D18.same s19
        have F19 := F18.same s19
        have k19 := k18.same s19
        refine ⟨_, rfl, _, rfl, q7, _, _, _, rfl, rfl, SqL.of mq7, at_ hf1, by show 1 ≤ sizeLine; decide, fun q9 hq9 => ?_⟩
        have z9 := Same.new (o := HO.lst [V.str f1]) hq9
        refine ⟨.list [.str f1], .list [.str f1], .lst (SqL.of (z9 _ _ mq8)) (.cons (.str _) .nil), .lst (SqL.of upd_same) (.cons (.str _) .nil), name_sh hf1, name_sh hf1, _, rfl, ite_not (eqv_one _) ?_⟩
        have ms := z9 _ _ ms
        have mq7 := z9 _ _ mq7
        have mw := z9 _ _ mw
        have D20 := D19.same z9
        have F20 := F19.same z9
        have k20 := k19.same z9
        generalize upd H19 q9 (HO.lst [V.str f1]) = H20 at *
        refine ⟨_, rfl, _, rfl, _, rfl, q7, _, _, _, rfl, rfl, SqL.of mq7, at_ hf2, _, rfl, _, rfl, _, rfl, q7, _, _, _, rfl, rfl, SqL.of mq7, at_ hf2, d, m + 2, i2, f2, rfl, hf2, D20.less (by omega), fun u2 H21 k21 D21 F21 n21 w21 => ?_⟩
        have ms := k21 _ _ ms sd
        have mq7 := k21 _ _ mq7 q7d
        have mw := k21 _ _ mw wd
        have G21 := F20.keep k21 n17
        refine ⟨w, _, f2, u2, rfl, mw, by rw [setL_len (by rw [List.length_set]; exact R.len)]; decide, fun w2 H22 s22 hw2 mw2 => ?_⟩
        rw [put_set (by rw [List.length_set]; exact R.len) hf2] at mw2
        have ms := s22 _ _ ms
        have mq7 := s22 _ _ mq7
        have D22 := D21.same s22
        have k22 := (k20.trans k21).same s22
        have F22 := F21.same s22
        have G22 := G21.same s22
        obtain ⟨b0, b1, b2, b3, b4, b5, b6, b7, b8, b9, b10, mB, fB, bB⟩ := sets (by rw [List.length_set, List.length_set]; exact R.len) mw2 (set_fv (set_fv (R.fv _) G22) F22) (bad_two R hf1 hf2 w17 w21)
        obtain ⟨fm, hfm, atm, shm⟩ : ∃ fm, fm = (if i2 < i1 then f2 else f1) ∧ atI (namesF.map V.str) (if (i2 : Int) < (i1 : Int) then (i2 : Int) else (i1 : Int)) = some (.str fm) ∧ SeqAt.shaped (.list [.str fm]) = true := by
          by_cases q : i2 < i1
          · exact ⟨f2, by rw [if_pos q], by rw [if_pos (by omega)]; exact at_ hf2, name_sh hf2⟩
          · exact ⟨f1, by rw [if_neg q], by rw [if_neg (by omega)]; exact at_ hf1, name_sh hf1⟩
        rw [← hfm] at bB
        refine ⟨_, rfl, w2, b0, b1, b2, b3, b4, b5, b6, b7, b8, b9, b10, rfl, mB, fB, .inr ⟨fm, bB, fun q8 H23 s23 mq8 => ?_⟩⟩
        have ms := s23 _ _ ms
        have mq7 := s23 _ _ mq7
        have D23 := D22.same s23
        have k23 := k22.same s23
        refine ⟨_, rfl, _, rfl, _, rfl, _, _, rfl, q7, _, _, _, rfl, rfl, SqL.of mq7, atm, by show 1 ≤ sizeLine; decide, fun q9 hq9 => ?_⟩
        have z9 := Same.new (o := HO.lst [V.str fm]) hq9
        refine ⟨.list [.str fm], .list [.str fm], .lst (SqL.of (z9 _ _ mq8)) (.cons (.str _) .nil), .lst (SqL.of upd_same) (.cons (.str _) .nil), shm, shm, _, rfl, ite_not (eqv_one _) ?_⟩
        have ms := z9 _ _ ms
        have D24 := D23.same z9
        have k24 := k23.same z9
        generalize upd H23 q9 (HO.lst [V.str fm]) = H24 at *
        refine ⟨_, rfl, s, _, "name", .str "", rfl, ms, by rw [setL_len R.len]; decide, fun w3 H25 s25 hw3 mw3 => ?_⟩
        rw [put_set (i := 0) R.len rfl] at mw3
        refine ⟨w3, _, "value", .str "", rfl, mw3, by rw [setL_len (by rw [List.length_set]; exact R.len)]; decide, fun w4 H26 s26 hw4 mw4 => ?_⟩
        rw [put_set (i := 1) (by rw [List.length_set]; exact R.len) rfl] at mw4
        have f4 : ∀ H z, z ∈ [V.str "", .str "", ex, ag, dm, pt, .bl se, .bl hi, sm, .bl pa, pr] → Fv H z := fun H => set_fv (i := 1) (v := .str "") (fs := [V.str "", .str y, ex, ag, dm, pt, .bl se, .bl hi, sm, .bl pa, pr]) (set_fv (i := 0) (v := .str "") (R.fv H) fv_str) fv_str
        refine ⟨_, rfl, w4, .str "", .str "", ex, ag, dm, pt, .bl se, .bl hi, sm, .bl pa, pr, rfl, mw4, f4 _, .inr ⟨"value", bad_val (by decide +kernel) (by decide +kernel), fun q8 H27 s27 mq8 => ?_⟩⟩
        refine ⟨by show 1 ≤ sizeLine; decide, fun q9 hq9 => ?_⟩
        have z10 := Same.new (o := HO.lst [V.str "value"]) hq9
        refine ⟨.list [.str "value"], .list [.str "value"], .lst (SqL.of (z10 _ _ mq8)) (.cons (.str _) .nil), .lst (SqL.of upd_same) (.cons (.str _) .nil), name_sh (i := 1) rfl, name_sh (i := 1) rfl, _, rfl, ite_not (eqv_one _) ?_⟩
        have mw5 := z10 _ _ (s27 _ _ mw4)
        have k28 := k24.same (((s25.trans s26).trans s27).trans z10)
        have D28 := D24.same (((s25.trans s26).trans s27).trans z10)
        generalize upd H27 q9 (HO.lst [V.str "value"]) = H28 at *
        refine ⟨_, rfl, 1, rfl, w4, _, "age", .int (-1), rfl, mw5, by rw [setL_len rfl]; decide, fun w6 H29 s29 hw6 mw6 => ?_⟩
        rw [put_set (i := 3) rfl rfl] at mw6
        have f6 : ∀ H z, z ∈ [V.str "", .str "", ex, .int (-1), dm, pt, .bl se, .bl hi, sm, .bl pa, pr] → Fv H z := fun H => set_fv (i := 3) (v := .int (-1)) (f4 H) (.inr (.inr (.inl ⟨_, rfl⟩)))
        refine ⟨w6, .str "", .str "", ex, .int (-1), dm, pt, .bl se, .bl hi, sm, .bl pa, pr, rfl, mw6, f6 _, .inr ⟨"value", bad_val (by decide +kernel) (by decide +kernel), fun q8 H30 s30 mq8 => ?_⟩⟩
        refine ⟨by show 1 ≤ sizeLine; decide, fun q9 hq9 => ?_⟩
        have z11 := Same.new (o := HO.lst [V.str "value"]) hq9
        refine ⟨.list [.str "value"], .list [.str "value"], .lst (SqL.of (z11 _ _ mq8)) (.cons (.str _) .nil), .lst (SqL.of upd_same) (.cons (.str _) .nil), name_sh (i := 1) rfl, name_sh (i := 1) rfl, _, rfl, ite_not (eqv_one _) ?_⟩
        exact hN2 _ _ ⟨_, _, _, _, _, _, _, _, _, _, rfl⟩ (k28.same ((s29.trans s30).trans z11)) ((D28.same ((s29.trans s30).trans z11)).less (by omega))
      · rintro σ H3 ⟨v2, v3, v4, v5, v6, v7, v8, v9, v10, v11, rfl⟩ k3 D3
        have g97 : Giv (tOp rMulL (tC (.str "n")) (tC (.int 97))) (.str (repS 97 "n")) := giv_mulL
        have g96 : Giv (tOp rMulL (tC (.str "n")) (tC (.int 96))) (.str (repS 96 "n")) := giv_mulL
        have g40 : Giv (tOp rMulL (tC (.str "v")) (tC (.int 4000))) (.str (repS 4000 "v")) := giv_mulL
        refine ⟨_, rfl, d, 988, rfl, D3, fun s x y ex ag dm pt se hi sm pa pr H4 L ax ay A4 => ?_⟩
        have R := L.right se hi pa
        refine (show GivA (tCons (tC (.str "name")) (tCons (tOp rMulL (tC (.str "n")) (tC (.int 97))) tNil)) [.str "name", .str (repS 97 "n")] from giv_cons giv_c (giv_cons g97 giv_nil)) _ _ _ ?_
        refine ⟨s, _, "name", _, rfl, A4.m, by rw [setL_len R.len]; decide, fun w3 H5 s5 hw3 mw3 => ?_⟩
        rw [put_set (i := 0) R.len rfl] at mw3
        refine (show GivA (tCons (tC (.str "value")) (tCons (tOp rMulL (tC (.str "v")) (tC (.int 4000))) tNil)) [.str "value", .str (repS 4000 "v")] from giv_cons giv_c (giv_cons g40 giv_nil)) _ _ _ ?_
        refine ⟨w3, _, "value", _, rfl, mw3, by rw [setL_len (by rw [List.length_set]; exact R.len)]; decide, fun w4 H6 s6 hw4 mw4 => ?_⟩
        rw [put_set (i := 1) (by rw [List.length_set]; exact R.len) rfl] at mw4
        have f4 : ∀ H z, z ∈ [V.str (repS 97 "n"), .str (repS 4000 "v"), ex, ag, dm, pt, .bl se, .bl hi, sm, .bl pa, pr] → Fv H z := fun H => set_fv (i := 1) (v := .str (repS 4000 "v")) (fs := [V.str (repS 97 "n"), .str y, ex, ag, dm, pt, .bl se, .bl hi, sm, .bl pa, pr]) (set_fv (i := 0) (v := .str (repS 97 "n")) (R.fv H) fv_str) fv_str
        refine ⟨_, rfl, w4, .str (repS 97 "n"), .str (repS 4000 "v"), ex, ag, dm, pt, .bl se, .bl hi, sm, .bl pa, pr, rfl, mw4, f4 _, .inr ⟨"value", bad_val (by decide +kernel) (by decide +kernel), fun q8 H27 s27 mq8 => ?_⟩⟩
        refine ⟨by show 1 ≤ sizeLine; decide, fun q9 hq9 => ?_⟩
        have z10 := Same.new (o := HO.lst [V.str "value"]) hq9
        refine ⟨.list [.str "value"], .list [.str "value"], .lst (SqL.of (z10 _ _ mq8)) (.cons (.str _) .nil), .lst (SqL.of upd_same) (.cons (.str _) .nil), name_sh (i := 1) rfl, name_sh (i := 1) rfl, _, rfl, ite_not (eqv_one _) ?_⟩
        have mw5 := z10 _ _ (s27 _ _ mw4)
        have k28 := A4.k.same (((s5.trans s6).trans s27).trans z10)
        generalize upd H27 q9 (HO.lst [V.str "value"]) = H28 at *
        have L6 : LineOk (repS 96 "n") (repS 4000 "v") ex ag dm pt sm pr := ⟨by decide +kernel, by decide +kernel, by decide +kernel, by decide +kernel, L.ex, L.ag, L.dm, L.pt, L.sm, L.pr⟩
        have R6 := L6.right se hi pa
        refine ⟨_, rfl, ?_⟩
        refine (show GivA (tCons (tC (.str "name")) (tCons (tOp rMulL (tC (.str "n")) (tC (.int 96))) tNil)) [.str "name", .str (repS 96 "n")] from giv_cons giv_c (giv_cons g96 giv_nil)) _ _ _ ?_
        refine ⟨w4, _, "name", _, rfl, mw5, by rw [setL_len rfl]; decide, fun w6 H29 s29 hw6 mw6 => ?_⟩
        rw [put_set (i := 0) rfl rfl] at mw6
        refine ⟨w6, .str (repS 96 "n"), .str (repS 4000 "v"), ex, ag, dm, pt, .bl se, .bl hi, sm, .bl pa, pr, rfl, mw6, R6.fv _, .inl ⟨R6.bad, fun H30 s30 => ?_⟩⟩
        refine ⟨rfl, _, rfl, ite_not (by decide) ?_⟩
        exact hN _ _ ⟨_, _, _, _, _, _, _, _, _, _, _, rfl⟩ (k3.trans (k28.same (s29.trans s30)))
    rintro σ H2 ⟨v1, v2, v3, v4, v5, v6, v7, v8, v9, v10, v11, rfl⟩ _
    have L : LineOk "a" "b" .non .non .non .non .non .non := ⟨by decide +kernel, by decide +kernel, by decide +kernel, by decide +kernel, .inl rfl, .inl rfl, .inl rfl, .inl rfl, .inl rfl, .inl rfl⟩
    have R := L.right false false false
    have aa : ascii "a" := ascii_lit (by decide +kernel)
    have ab : ascii "b" := ascii_lit (by decide +kernel)
    have V1 := L.pl aa ab false false false
    have RP := L.rp aa ab false false false
    have pvs : ((lineF "a" "b" .non .non .non .non false false .non false .non).map (·.2)).all plV = true := by decide +kernel
    refine ⟨rfl, rfl, fun a dx hy hd hne => ⟨a, C_Line, dx, .str "a", .str "b", .non, .non, .non, .non, .bl false, .bl false, .non, .bl false, .non, rfl, o_Line.g, upd_same, R.fv _, ?_⟩⟩
    rw [R.bad]
    refine fun H3 s3 => ⟨rfl, ?_⟩
    refine ⟨a, C_Line, dx, "a", "b", .non, .non, .non, .non, false, false, .non, false, .non, rfl, o_Line.g, upd_same, fun q1 H7 s7 mq1 => ?_⟩
    refine ⟨_, rfl, _, _, rfl, .lst (SqL.of mq1) (dp_plVs pvs), RP.s, RP.n, RP.shown (by decide), Nat.le_trans RP.z (by decide), ?_⟩
    refine ⟨by show 11 ≤ sizeLine; decide, fun q2 hq2 => ?_⟩
    refine ⟨_, _, rfl, .lst (SqL.of upd_same) (dp_plVs pvs), RP.s, RP.n, RP.shown (by decide), Nat.le_trans RP.z (by decide), ?_⟩
    refine ⟨rfl, ?_⟩
    have e : ∀ z : Str, decide (V.str z = V.str z) = true := fun z => by simp
    have fin : ∀ (b : Bool) H, b = true → Q (.bl b) H := fun b H h => by rw [h]; exact hQ H
    exact fin _ _ (e _)
end
theorem bd_is_integer : ∀ (kV doc pm : Value) (an : Option Addr) (cdv ct : Value) (us : List Value), us.length = (["value"] : List Str).length → bindArgs (PySem.W.fnOf "is_integer" "is_integer" (defArgs s_is_integer) (defBody s_is_integer) (defScope s_is_integer) .none kV doc pm an cdv ct) ⟨us, []⟩ = pure ((["value"] : List Str).zip us) :=
  fun _ _ _ _ _ _ us hl => match us, hl with | [_], _ => rfl
theorem bd_is_tick : ∀ (kV doc pm : Value) (an : Option Addr) (cdv ct : Value) (us : List Value), us.length = (["value"] : List Str).length → bindArgs (PySem.W.fnOf "is_tick" "is_tick" (defArgs s_is_tick) (defBody s_is_tick) (defScope s_is_tick) .none kV doc pm an cdv ct) ⟨us, []⟩ = pure ((["value"] : List Str).zip us) :=
  fun _ _ _ _ _ _ us hl => match us, hl with | [_], _ => rfl
theorem bd_has_only : ∀ (kV doc pm : Value) (an : Option Addr) (cdv ct : Value) (us : List Value), us.length = (["text", "signs"] : List Str).length → bindArgs (PySem.W.fnOf "has_only" "has_only" (defArgs s_has_only) (defBody s_has_only) (defScope s_has_only) .none kV doc pm an cdv ct) ⟨us, []⟩ = pure ((["text", "signs"] : List Str).zip us) :=
  fun _ _ _ _ _ _ us hl => match us, hl with | [_, _], _ => rfl
theorem bd_is_digits : ∀ (kV doc pm : Value) (an : Option Addr) (cdv ct : Value) (us : List Value), us.length = (["text"] : List Str).length → bindArgs (PySem.W.fnOf "is_digits" "is_digits" (defArgs s_is_digits) (defBody s_is_digits) (defScope s_is_digits) .none kV doc pm an cdv ct) ⟨us, []⟩ = pure ((["text"] : List Str).zip us) :=
  fun _ _ _ _ _ _ us hl => match us, hl with | [_], _ => rfl
theorem bd__is_label : ∀ (kV doc pm : Value) (an : Option Addr) (cdv ct : Value) (us : List Value), us.length = (["text"] : List Str).length → bindArgs (PySem.W.fnOf "_is_label" "_is_label" (defArgs s__is_label) (defBody s__is_label) (defScope s__is_label) .none kV doc pm an cdv ct) ⟨us, []⟩ = pure ((["text"] : List Str).zip us) :=
  fun _ _ _ _ _ _ us hl => match us, hl with | [_], _ => rfl
theorem bd_are_labels : ∀ (kV doc pm : Value) (an : Option Addr) (cdv ct : Value) (us : List Value), us.length = (["texts"] : List Str).length → bindArgs (PySem.W.fnOf "are_labels" "are_labels" (defArgs s_are_labels) (defBody s_are_labels) (defScope s_are_labels) .none kV doc pm an cdv ct) ⟨us, []⟩ = pure ((["texts"] : List Str).zip us) :=
  fun _ _ _ _ _ _ us hl => match us, hl with | [_], _ => rfl
theorem bd__is_number : ∀ (kV doc pm : Value) (an : Option Addr) (cdv ct : Value) (us : List Value), us.length = (["label"] : List Str).length → bindArgs (PySem.W.fnOf "_is_number" "_is_number" (defArgs s__is_number) (defBody s__is_number) (defScope s__is_number) .none kV doc pm an cdv ct) ⟨us, []⟩ = pure ((["label"] : List Str).zip us) :=
  fun _ _ _ _ _ _ us hl => match us, hl with | [_], _ => rfl
theorem bd__are_four_numbers : ∀ (kV doc pm : Value) (an : Option Addr) (cdv ct : Value) (us : List Value), us.length = (["labels"] : List Str).length → bindArgs (PySem.W.fnOf "_are_four_numbers" "_are_four_numbers" (defArgs s__are_four_numbers) (defBody s__are_four_numbers) (defScope s__are_four_numbers) .none kV doc pm an cdv ct) ⟨us, []⟩ = pure ((["labels"] : List Str).zip us) :=
  fun _ _ _ _ _ _ us hl => match us, hl with | [_], _ => rfl
theorem bd_is_host : ∀ (kV doc pm : Value) (an : Option Addr) (cdv ct : Value) (us : List Value), us.length = (["value"] : List Str).length → bindArgs (PySem.W.fnOf "is_host" "is_host" (defArgs s_is_host) (defBody s_is_host) (defScope s_is_host) .none kV doc pm an cdv ct) ⟨us, []⟩ = pure ((["value"] : List Str).zip us) :=
  fun _ _ _ _ _ _ us hl => match us, hl with | [_], _ => rfl
theorem bd__is_path_sign : ∀ (kV doc pm : Value) (an : Option Addr) (cdv ct : Value) (us : List Value), us.length = (["sign"] : List Str).length → bindArgs (PySem.W.fnOf "_is_path_sign" "_is_path_sign" (defArgs s__is_path_sign) (defBody s__is_path_sign) (defScope s__is_path_sign) .none kV doc pm an cdv ct) ⟨us, []⟩ = pure ((["sign"] : List Str).zip us) :=
  fun _ _ _ _ _ _ us hl => match us, hl with | [_], _ => rfl
theorem bd_is_path : ∀ (kV doc pm : Value) (an : Option Addr) (cdv ct : Value) (us : List Value), us.length = (["value"] : List Str).length → bindArgs (PySem.W.fnOf "is_path" "is_path" (defArgs s_is_path) (defBody s_is_path) (defScope s_is_path) .none kV doc pm an cdv ct) ⟨us, []⟩ = pure ((["value"] : List Str).zip us) :=
  fun _ _ _ _ _ _ us hl => match us, hl with | [_], _ => rfl
theorem bd__is_from_0 : ∀ (kV doc pm : Value) (an : Option Addr) (cdv ct : Value) (us : List Value), us.length = (["value", "most"] : List Str).length → bindArgs (PySem.W.fnOf "_is_from_0" "_is_from_0" (defArgs s__is_from_0) (defBody s__is_from_0) (defScope s__is_from_0) .none kV doc pm an cdv ct) ⟨us, []⟩ = pure ((["value", "most"] : List Str).zip us) :=
  fun _ _ _ _ _ _ us hl => match us, hl with | [_, _], _ => rfl
theorem bd_is_trimmed : ∀ (kV doc pm : Value) (an : Option Addr) (cdv ct : Value) (us : List Value), us.length = (["text"] : List Str).length → bindArgs (PySem.W.fnOf "is_trimmed" "is_trimmed" (defArgs s_is_trimmed) (defBody s_is_trimmed) (defScope s_is_trimmed) .none kV doc pm an cdv ct) ⟨us, []⟩ = pure ((["text"] : List Str).zip us) :=
  fun _ _ _ _ _ _ us hl => match us, hl with | [_], _ => rfl
theorem bd__has_control : ∀ (kV doc pm : Value) (an : Option Addr) (cdv ct : Value) (us : List Value), us.length = (["text"] : List Str).length → bindArgs (PySem.W.fnOf "_has_control" "_has_control" (defArgs s__has_control) (defBody s__has_control) (defScope s__has_control) .none kV doc pm an cdv ct) ⟨us, []⟩ = pure ((["text"] : List Str).zip us) :=
  fun _ _ _ _ _ _ us hl => match us, hl with | [_], _ => rfl
theorem bd__is_part : ∀ (kV doc pm : Value) (an : Option Addr) (cdv ct : Value) (us : List Value), us.length = (["value"] : List Str).length → bindArgs (PySem.W.fnOf "_is_part" "_is_part" (defArgs s__is_part) (defBody s__is_part) (defScope s__is_part) .none kV doc pm an cdv ct) ⟨us, []⟩ = pure ((["value"] : List Str).zip us) :=
  fun _ _ _ _ _ _ us hl => match us, hl with | [_], _ => rfl
theorem bd__is_name : ∀ (kV doc pm : Value) (an : Option Addr) (cdv ct : Value) (us : List Value), us.length = (["value"] : List Str).length → bindArgs (PySem.W.fnOf "_is_name" "_is_name" (defArgs s__is_name) (defBody s__is_name) (defScope s__is_name) .none kV doc pm an cdv ct) ⟨us, []⟩ = pure ((["value"] : List Str).zip us) :=
  fun _ _ _ _ _ _ us hl => match us, hl with | [_], _ => rfl
theorem bd__is_value : ∀ (kV doc pm : Value) (an : Option Addr) (cdv ct : Value) (us : List Value), us.length = (["value", "name"] : List Str).length → bindArgs (PySem.W.fnOf "_is_value" "_is_value" (defArgs s__is_value) (defBody s__is_value) (defScope s__is_value) .none kV doc pm an cdv ct) ⟨us, []⟩ = pure ((["value", "name"] : List Str).zip us) :=
  fun _ _ _ _ _ _ us hl => match us, hl with | [_, _], _ => rfl
abbrev kw_Line__init : List (Str × V) := [("expires", .non), ("age", .non), ("domain", .non), ("path", .non), ("is_secure", (.bl false)), ("is_hidden", (.bl false)), ("same", .non), ("is_partitioned", (.bl false)), ("priority", .non)]
theorem bk_Line__init : ∀ (kV doc pm : Value) (an : Option Addr) (cdv ct : Value) (us ws : List Value), us.length = 3 → ws.length = kw_Line__init.length → bindArgs (PySem.W.fnOf "__init__" "Line.__init__" (defArgs s_Line__init) (defBody s_Line__init) (defScope s_Line__init) .none kV doc pm an cdv ct) ⟨us, (kw_Line__init.map (·.1)).zip ws⟩ = pure ((["self", "name", "value", "expires", "age", "domain", "path", "is_secure", "is_hidden", "same", "is_partitioned", "priority"] : List Str).zip (us ++ ws)) :=
  fun _ _ _ _ _ _ us ws h1 h2 => match us, ws, h1, h2 with | [_, _, _], [_, _, _, _, _, _, _, _, _], _, _ => rfl
theorem b0_Line__init : ∀ (D : Addr) (doc pm : Value) (an : Option Addr) (cdv ct : Value) (us mv : List Value), us.length = 3 → mv.length = kw_Line__init.length → KwChain D ((kw_Line__init.map (·.1)).zip mv) (bindArgs (PySem.W.fnOf "__init__" "Line.__init__" (defArgs s_Line__init) (defBody s_Line__init) (defScope s_Line__init) .none (.ref D) doc pm an cdv ct) ⟨us, []⟩) ((["self", "name", "value", "expires", "age", "domain", "path", "is_secure", "is_hidden", "same", "is_partitioned", "priority"] : List Str).zip (us ++ mv)) :=
  fun _ _ _ _ _ _ us mv h1 h2 => match us, mv, h1, h2 with | [_, _, _], [_, _, _, _, _, _, _, _, _], _, _ => ⟨_, _, _, _, _, _, rfl, rfl, ⟨_, _, _, _, _, _, rfl, rfl, ⟨_, _, _, _, _, _, rfl, rfl, ⟨_, _, _, _, _, _, rfl, rfl, ⟨_, _, _, _, _, _, rfl, rfl, ⟨_, _, _, _, _, _, rfl, rfl, ⟨_, _, _, _, _, _, rfl, rfl, ⟨_, _, _, _, _, _, rfl, rfl, ⟨_, _, _, _, _, _, rfl, rfl, rfl⟩⟩⟩⟩⟩⟩⟩⟩⟩
theorem bd__parts_of : ∀ (kV doc pm : Value) (an : Option Addr) (cdv ct : Value) (us : List Value), us.length = (["line"] : List Str).length → bindArgs (PySem.W.fnOf "_parts_of" "_parts_of" (defArgs s__parts_of) (defBody s__parts_of) (defScope s__parts_of) .none kV doc pm an cdv ct) ⟨us, []⟩ = pure ((["line"] : List Str).zip us) :=
  fun _ _ _ _ _ _ us hl => match us, hl with | [_], _ => rfl
theorem bd_Line__eq : ∀ (kV doc pm : Value) (an : Option Addr) (cdv ct : Value) (us : List Value), us.length = (["self", "other"] : List Str).length → bindArgs (PySem.W.fnOf "__eq__" "Line.__eq__" (defArgs s_Line__eq) (defBody s_Line__eq) (defScope s_Line__eq) .none kV doc pm an cdv ct) ⟨us, []⟩ = pure ((["self", "other"] : List Str).zip us) :=
  fun _ _ _ _ _ _ us hl => match us, hl with | [_, _], _ => rfl
theorem bd__law_mixed : ∀ (kV doc pm : Value) (an : Option Addr) (cdv ct : Value) (us : List Value), us.length = (["cell", "k"] : List Str).length → bindArgs (PySem.W.fnOf "_law_mixed" "_law_mixed" (defArgs s__law_mixed) (defBody s__law_mixed) (defScope s__law_mixed) .none kV doc pm an cdv ct) ⟨us, []⟩ = pure ((["cell", "k"] : List Str).zip us) :=
  fun _ _ _ _ _ _ us hl => match us, hl with | [_, _], _ => rfl
theorem bd__law_digit : ∀ (kV doc pm : Value) (an : Option Addr) (cdv ct : Value) (us : List Value), us.length = (["draw", "span"] : List Str).length → bindArgs (PySem.W.fnOf "_law_digit" "_law_digit" (defArgs s__law_digit) (defBody s__law_digit) (defScope s__law_digit) .none kV doc pm an cdv ct) ⟨us, []⟩ = pure ((["draw", "span"] : List Str).zip us) :=
  fun _ _ _ _ _ _ us hl => match us, hl with | [_, _], _ => rfl
theorem bd__law_draw : ∀ (kV doc pm : Value) (an : Option Addr) (cdv ct : Value) (us : List Value), us.length = (["cell", "k"] : List Str).length → bindArgs (PySem.W.fnOf "_law_draw" "_law_draw" (defArgs s__law_draw) (defBody s__law_draw) (defScope s__law_draw) .none kV doc pm an cdv ct) ⟨us, []⟩ = pure ((["cell", "k"] : List Str).zip us) :=
  fun _ _ _ _ _ _ us hl => match us, hl with | [_, _], _ => rfl
theorem bd__law_draws : ∀ (kV doc pm : Value) (an : Option Addr) (cdv ct : Value) (us : List Value), us.length = (["script"] : List Str).length → bindArgs (PySem.W.fnOf "_law_draws" "_law_draws" (defArgs s__law_draws) (defBody s__law_draws) (defScope s__law_draws) .none kV doc pm an cdv ct) ⟨us, []⟩ = pure ((["script"] : List Str).zip us) :=
  fun _ _ _ _ _ _ us hl => match us, hl with | [_], _ => rfl
theorem bd__law_pick : ∀ (kV doc pm : Value) (an : Option Addr) (cdv ct : Value) (us : List Value), us.length = (["draw", "items"] : List Str).length → bindArgs (PySem.W.fnOf "_law_pick" "_law_pick" (defArgs s__law_pick) (defBody s__law_pick) (defScope s__law_pick) .none kV doc pm an cdv ct) ⟨us, []⟩ = pure ((["draw", "items"] : List Str).zip us) :=
  fun _ _ _ _ _ _ us hl => match us, hl with | [_, _], _ => rfl
theorem bd__law_right : ∀ (kV doc pm : Value) (an : Option Addr) (cdv ct : Value) (us : List Value), us.length = (["draw"] : List Str).length → bindArgs (PySem.W.fnOf "_law_right" "_law_right" (defArgs s__law_right) (defBody s__law_right) (defScope s__law_right) .none kV doc pm an cdv ct) ⟨us, []⟩ = pure ((["draw"] : List Str).zip us) :=
  fun _ _ _ _ _ _ us hl => match us, hl with | [_], _ => rfl
theorem bd__law_wrong : ∀ (kV doc pm : Value) (an : Option Addr) (cdv ct : Value) (us : List Value), us.length = (["draw", "field"] : List Str).length → bindArgs (PySem.W.fnOf "_law_wrong" "_law_wrong" (defArgs s__law_wrong) (defBody s__law_wrong) (defScope s__law_wrong) .none kV doc pm an cdv ct) ⟨us, []⟩ = pure ((["draw", "field"] : List Str).zip us) :=
  fun _ _ _ _ _ _ us hl => match us, hl with | [_, _], _ => rfl
theorem bd__law_made : ∀ (kV doc pm : Value) (an : Option Addr) (cdv ct : Value) (us : List Value), us.length = (["s"] : List Str).length → bindArgs (PySem.W.fnOf "_law_made" "_law_made" (defArgs s__law_made) (defBody s__law_made) (defScope s__law_made) .none kV doc pm an cdv ct) ⟨us, []⟩ = pure ((["s"] : List Str).zip us) :=
  fun _ _ _ _ _ _ us hl => match us, hl with | [_], _ => rfl
theorem bd__law_fields : ∀ (kV doc pm : Value) (an : Option Addr) (cdv ct : Value) (us : List Value), us.length = (["line"] : List Str).length → bindArgs (PySem.W.fnOf "_law_fields" "_law_fields" (defArgs s__law_fields) (defBody s__law_fields) (defScope s__law_fields) .none kV doc pm an cdv ct) ⟨us, []⟩ = pure ((["line"] : List Str).zip us) :=
  fun _ _ _ _ _ _ us hl => match us, hl with | [_], _ => rfl
theorem bd__law_refused : ∀ (kV doc pm : Value) (an : Option Addr) (cdv ct : Value) (us : List Value), us.length = (["s"] : List Str).length → bindArgs (PySem.W.fnOf "_law_refused" "_law_refused" (defArgs s__law_refused) (defBody s__law_refused) (defScope s__law_refused) .none kV doc pm an cdv ct) ⟨us, []⟩ = pure ((["s"] : List Str).zip us) :=
  fun _ _ _ _ _ _ us hl => match us, hl with | [_], _ => rfl
theorem bd__law_changed : ∀ (kV doc pm : Value) (an : Option Addr) (cdv ct : Value) (us : List Value), us.length = (["s", "field", "value"] : List Str).length → bindArgs (PySem.W.fnOf "_law_changed" "_law_changed" (defArgs s__law_changed) (defBody s__law_changed) (defScope s__law_changed) .none kV doc pm an cdv ct) ⟨us, []⟩ = pure ((["s", "field", "value"] : List Str).zip us) :=
  fun _ _ _ _ _ _ us hl => match us, hl with | [_, _, _], _ => rfl
theorem bd_law : ∀ (kV doc pm : Value) (an : Option Addr) (cdv ct : Value) (us : List Value), us.length = (["script"] : List Str).length → bindArgs (PySem.W.fnOf "law" "law" (defArgs s_law) (defBody s_law) (defScope s_law) .none kV doc pm an cdv ct) ⟨us, []⟩ = pure ((["script"] : List Str).zip us) :=
  fun _ _ _ _ _ _ us hl => match us, hl with | [_], _ => rfl
theorem fin_mk {l : PySem.W.OpenLaw} {w : World} {K : PySem.W.Frag} {mg : Str → Option Value} {fa : Addr} (hfa : mg "law" = some (.ref fa)) (D : Df K mg "law" s_law ["script"]) (T : Txt K mg) :
    ∃ fd : FuncData, (∀ (s : Shared) (v : Value), BindsTo s fd ⟨[v], []⟩ [("script", v)]) ∧ ∀ base : Heap, K.In base → base.Ns PySem.mainGlobals mg → FnG l.prog w K mg base CX0 10 fa fd ["script"] (sp_law K) := by
  obtain ⟨f, fd, F, m, b⟩ := D
  cases hfa.symm.trans m
  exact ⟨fd, fun s v => .of_eq (b [v] rfl), fun base _ _ => ok_law F T⟩
theorem walk {l : PySem.W.OpenLaw} {q : Program} {loose : List Str} {XP : (Str → Option Value) → Heap → Prop} {YP : World → Heap → Prop} {d : DefRec} {K : Params → PySem.W.Frag} (hn : l.most = some 63) (hdf : d.params.defaults = [])
    (hY : ∀ (w : World) (h : Heap), YP w h → (K w.params).In h)
    (F : ∀ (w : World) (mg : Str → Option Value) (fa : Addr) (h : Heap), (K w.params).In h → h.Ns PySem.mainGlobals mg → mg d.name = some (.ref fa) →
      ∃ fd : FuncData, (∀ (s : Shared) (u : Value), BindsTo s fd ⟨[u], []⟩ [("script", u)]) ∧ ∀ base : Heap, (K w.params).In base → base.Ns PySem.mainGlobals mg → FnG l.prog w (K w.params) mg base CX0 10 fa fd ["script"] (sp_law (K w.params))) :
    PySem.W.WalkO q loose XP YP l.row.toRowW d [] (fun f vs => PySem.call f vs) :=
  Kb.walkG (n := 63) (k := 10) (x := "script") (CX := fun _ => CX0) (sp := fun w => sp_law (K w.params)) hn (by decide) hdf ⟨rfl, by decide, by decide⟩ hY F (fun _ _ a ns hl _ hS => ⟨a, ns, rfl, hS, hl, fun _ => rfl⟩) fun _ _ _ _ _ z => z
end Pf
open PySem PySem.W PyProof.Rows
set_option maxRecDepth 100000 in
set_option maxHeartbeats 0 in
theorem PySem.Challenge.cw_crumbjar_k21_lines_made_holds : PySem.Challenge.rw_crumbjar_k21_lines_made.Holds := by
  w_on; o_law; k_head; (case hw => w_witness2)
  k_fill
  refine Pf.walk (l := PySem.Challenge.rw_crumbjar_k21_lines_made) rfl rfl (fun w h Y => PySem.W.kIn_of Y) ?F
  case F =>
    intro w mg fa h KX G hmg
    refine' Pf.fin_mk hmg (Kb.Df.mk KX G Pf.bd_law ?a31 ?l31 ?c31 ?k31) ⟨(PySem.W.mg_none_of KX G ?z0),
      (PySem.W.mg_none_of KX G ?z1),
      (PySem.W.mg_none_of KX G ?z2),
      (PySem.W.mg_none_of KX G ?z3),
      (PySem.W.mg_none_of KX G ?z4),
      (PySem.W.mg_none_of KX G ?z5),
      (PySem.W.mg_none_of KX G ?z6),
      (PySem.W.mg_none_of KX G ?z7),
      (PySem.W.mg_none_of KX G ?z8),
      (PySem.W.mg_none_of KX G ?z9),
      (PySem.W.mg_none_of KX G ?z10),
      (PySem.W.mg_none_of KX G ?z11),
      (PySem.W.mg_none_of KX G ?z12),
      ⟨_, PySem.W.mg_of KX G ?x0, ?r0⟩,
      ⟨_, PySem.W.mg_of KX G ?x1, ?r1⟩,
      ⟨_, PySem.W.mg_of KX G ?x2, ?r2⟩,
      ⟨_, PySem.W.mg_of KX G ?x3, ?r3⟩,
      ⟨_, PySem.W.mg_of KX G ?x4, ?r4⟩,
      ⟨_, PySem.W.mg_of KX G ?x5, ?r5⟩,
      ⟨_, PySem.W.mg_of KX G ?x6, ?r6⟩,
      ⟨_, PySem.W.mg_of KX G ?x7, ?r7⟩,
      ⟨_, PySem.W.mg_of KX G ?x8, ?r8⟩,
      ⟨_, PySem.W.mg_of KX G ?x9, ?r9⟩,
      ⟨_, PySem.W.mg_of KX G ?x10, Kb.sqT_of_lookup ?y10 ?u10 ?v10⟩,
      ⟨_, PySem.W.mg_of KX G ?x11, Kb.sqT_of_lookup ?y11 ?u11 ?v11⟩,
      ⟨_, PySem.W.mg_of KX G ?x12, ?r12⟩,
      ⟨_, PySem.W.mg_of KX G ?x13, ?r13⟩,
      ⟨_, PySem.W.mg_of KX G ?x14, ?r14⟩,
      ⟨_, Kb.Err.mk' KX G Pf.bi_BadLine (fun P w base F => Pf.oki_BadLine P w base F) ?aC0E ?xL0E ?rv0E ?sa0E ?ga0E ?gg0E ?nb0E ?a10E ?t10E ?l10E ?c10E ?k10E ?kC0E ?eC0E ?tC0E ?hC0E ?iC0E ?sC0E⟩,
      (Kb.OwnC.ex KX G ?oa0O ?ob0O ?oc0O ?od0O ?oe0O ?of0O ?og0O ?oh0O ?oi0O ?oj0O ?ok0O ?oty0O ?oic0O ⟨?on0_0O, ⟨?on0_1O, ⟨?on0_2O, ⟨?on0_3O, ⟨?on0_4O, ⟨?on0_5O, ⟨?on0_6O, ⟨?on0_7O, ⟨?on0_8O, ⟨?on0_9O, ⟨?on0_10O, True.intro⟩⟩⟩⟩⟩⟩⟩⟩⟩⟩⟩),
      (Kb.BaseX.mk KX G ?ba0B ?bb0B ?bc0B ?bd0B ?be0B ?bf0B ?bg0B ?bh0B ?bi0B ?bj0B ?bk0B ?bl0B ?bm0B ?bn0B),
      (Kb.Df.mk KX G Pf.bd_is_integer ?a0 ?l0 ?c0 ?k0),
      (Kb.Df.mk KX G Pf.bd_is_tick ?a1 ?l1 ?c1 ?k1),
      (Kb.Df.mk KX G Pf.bd_has_only ?a2 ?l2 ?c2 ?k2),
      (Kb.Df.mk KX G Pf.bd_is_digits ?a3 ?l3 ?c3 ?k3),
      (Kb.Df.mk KX G Pf.bd__is_label ?a4 ?l4 ?c4 ?k4),
      (Kb.Df.mk KX G Pf.bd_are_labels ?a5 ?l5 ?c5 ?k5),
      (Kb.Df.mk KX G Pf.bd__is_number ?a6 ?l6 ?c6 ?k6),
      (Kb.Df.mk KX G Pf.bd__are_four_numbers ?a7 ?l7 ?c7 ?k7),
      (Kb.Df.mk KX G Pf.bd_is_host ?a8 ?l8 ?c8 ?k8),
      (Kb.Df.mk KX G Pf.bd__is_path_sign ?a9 ?l9 ?c9 ?k9),
      (Kb.Df.mk KX G Pf.bd_is_path ?a10 ?l10 ?c10 ?k10),
      (Kb.Df.mk KX G Pf.bd__is_from_0 ?a11 ?l11 ?c11 ?k11),
      (Kb.Df.mk KX G Pf.bd_is_trimmed ?a12 ?l12 ?c12 ?k12),
      (Kb.Df.mk KX G Pf.bd__has_control ?a13 ?l13 ?c13 ?k13),
      (Kb.Df.mk KX G Pf.bd__is_part ?a14 ?l14 ?c14 ?k14),
      (Kb.Df.mk KX G Pf.bd__is_name ?a15 ?l15 ?c15 ?k15),
      (Kb.Df.mk KX G Pf.bd__is_value ?a16 ?l16 ?c16 ?k16),
      (Kb.MthK.mk KX G (by simp) Pf.bk_Line__init Pf.b0_Line__init ?a17 ?mi17 ?mn17 ?l17 ?c17 ?k17 (Kb.KwAll.cons ?kw17_0 ?kr17_0 (Kb.KwAll.cons ?kw17_1 ?kr17_1 (Kb.KwAll.cons ?kw17_2 ?kr17_2 (Kb.KwAll.cons ?kw17_3 ?kr17_3 (Kb.KwAll.cons ?kw17_4 ?kr17_4 (Kb.KwAll.cons ?kw17_5 ?kr17_5 (Kb.KwAll.cons ?kw17_6 ?kr17_6 (Kb.KwAll.cons ?kw17_7 ?kr17_7 (Kb.KwAll.cons ?kw17_8 ?kr17_8 True.intro)))))))))),
      (Kb.Df.mk KX G Pf.bd__parts_of ?a18 ?l18 ?c18 ?k18),
      (Kb.MthT.mk KX G Pf.bd_Line__eq ?a19 ?mi19 ?mn19 ?l19 ?c19 ?k19),
      (Kb.Df.mk KX G Pf.bd__law_mixed ?a20 ?l20 ?c20 ?k20),
      (Kb.Df.mk KX G Pf.bd__law_digit ?a21 ?l21 ?c21 ?k21),
      (Kb.Df.mk KX G Pf.bd__law_draw ?a22 ?l22 ?c22 ?k22),
      (Kb.Df.mk KX G Pf.bd__law_draws ?a23 ?l23 ?c23 ?k23),
      (Kb.Df.mk KX G Pf.bd__law_pick ?a24 ?l24 ?c24 ?k24),
      (Kb.Df.mk KX G Pf.bd__law_right ?a25 ?l25 ?c25 ?k25),
      (Kb.Df.mk KX G Pf.bd__law_wrong ?a26 ?l26 ?c26 ?k26),
      (Kb.Df.mk KX G Pf.bd__law_made ?a27 ?l27 ?c27 ?k27),
      (Kb.Df.mk KX G Pf.bd__law_fields ?a28 ?l28 ?c28 ?k28),
      (Kb.Df.mk KX G Pf.bd__law_refused ?a29 ?l29 ?c29 ?k29),
      (Kb.Df.mk KX G Pf.bd__law_changed ?a30 ?l30 ?c30 ?k30)⟩
    (case z0 => k_is)
    (case z1 => k_is)
    (case z2 => k_is)
    (case z3 => k_is)
    (case z4 => k_is)
    (case z5 => k_is)
    (case z6 => k_is)
    (case z7 => k_is)
    (case z8 => k_is)
    (case z9 => k_is)
    (case z10 => k_is)
    (case z11 => k_is)
    (case z12 => k_is)
    (case x0 => k_is)
    (case r0 => first | exact ⟨_, rfl⟩ | rfl)
    (case x1 => k_is)
    (case r1 => first | exact ⟨_, rfl⟩ | rfl)
    (case x2 => k_is)
    (case r2 => first | exact ⟨_, rfl⟩ | rfl)
    (case x3 => k_is)
    (case r3 => first | exact ⟨_, rfl⟩ | rfl)
    (case x4 => k_is)
    (case r4 => first | exact ⟨_, rfl⟩ | rfl)
    (case x5 => k_is)
    (case r5 => first | exact ⟨_, rfl⟩ | rfl)
    (case x6 => k_is)
    (case r6 => first | exact ⟨_, rfl⟩ | rfl)
    (case x7 => k_is)
    (case r7 => first | exact ⟨_, rfl⟩ | rfl)
    (case x8 => k_is)
    (case r8 => first | exact ⟨_, rfl⟩ | rfl)
    (case x9 => k_is)
    (case r9 => first | exact ⟨_, rfl⟩ | rfl)
    (case x10 => k_is)
    (case y10 => k_is)
    (case u10 => show _ ≤ _; decide)
    (case v10 => exact .cons ⟨_, rfl⟩ (.cons ⟨_, rfl⟩ (.cons ⟨_, rfl⟩ (.nil))))
    (case x11 => k_is)
    (case y11 => k_is)
    (case u11 => show _ ≤ _; decide)
    (case v11 => exact .cons ⟨_, rfl⟩ (.cons ⟨_, rfl⟩ (.cons ⟨_, rfl⟩ (.nil))))
    (case x12 => k_is)
    (case r12 => first | exact ⟨_, rfl⟩ | rfl)
    (case x13 => k_is)
    (case r13 => first | exact ⟨_, rfl⟩ | rfl)
    (case x14 => k_is)
    (case r14 => first | exact ⟨_, rfl⟩ | rfl)
    (case aC0E => k_is)
    (case xL0E => k_is)
    (case rv0E => first | decide +kernel | rfl)
    (case sa0E => k_is)
    (case ga0E => k_is)
    (case gg0E => k_is)
    (case nb0E => k_is)
    (case a10E => k_is)
    (case t10E => k_is)
    (case l10E => k_is)
    (case c10E => k_is)
    (case k10E => k_is)
    (case kC0E => k_is)
    (case eC0E => k_is)
    (case tC0E => k_is)
    (case hC0E => k_is)
    (case iC0E => k_is)
    (case sC0E => first | rfl | k_is)
    (case oa0O => k_is)
    (case ob0O => k_is)
    (case oc0O => k_is)
    (case od0O => k_is)
    (case oe0O => k_is)
    (case of0O => k_is)
    (case og0O => k_is)
    (case oh0O => k_is)
    (case oi0O => k_is)
    (case oj0O => k_is)
    (case ok0O => k_is)
    (case oty0O => k_is)
    (case oic0O => k_is)
    (case on0_0O => (show PySem.W.findIn _ _ _ = some none); k_is)
    (case on0_1O => (show PySem.W.findIn _ _ _ = some none); k_is)
    (case on0_2O => (show PySem.W.findIn _ _ _ = some none); k_is)
    (case on0_3O => (show PySem.W.findIn _ _ _ = some none); k_is)
    (case on0_4O => (show PySem.W.findIn _ _ _ = some none); k_is)
    (case on0_5O => (show PySem.W.findIn _ _ _ = some none); k_is)
    (case on0_6O => (show PySem.W.findIn _ _ _ = some none); k_is)
    (case on0_7O => (show PySem.W.findIn _ _ _ = some none); k_is)
    (case on0_8O => (show PySem.W.findIn _ _ _ = some none); k_is)
    (case on0_9O => (show PySem.W.findIn _ _ _ = some none); k_is)
    (case on0_10O => (show PySem.W.findIn _ _ _ = some none); k_is)
    (case ba0B => k_is)
    (case bb0B => k_is)
    (case bc0B => k_is)
    (case bd0B => k_is)
    (case be0B => k_is)
    (case bf0B => first | rfl | k_is)
    (case bg0B => k_is)
    (case bh0B => k_is)
    (case bi0B => k_is)
    (case bj0B => k_is)
    (case bk0B => k_is)
    (case bl0B => k_is)
    (case bm0B => k_is)
    (case bn0B => k_is)
    (case a0 => k_is)
    (case l0 => k_is)
    (case c0 => k_is)
    (case k0 => k_is)
    (case a1 => k_is)
    (case l1 => k_is)
    (case c1 => k_is)
    (case k1 => k_is)
    (case a2 => k_is)
    (case l2 => k_is)
    (case c2 => k_is)
    (case k2 => k_is)
    (case a3 => k_is)
    (case l3 => k_is)
    (case c3 => k_is)
    (case k3 => k_is)
    (case a4 => k_is)
    (case l4 => k_is)
    (case c4 => k_is)
    (case k4 => k_is)
    (case a5 => k_is)
    (case l5 => k_is)
    (case c5 => k_is)
    (case k5 => k_is)
    (case a6 => k_is)
    (case l6 => k_is)
    (case c6 => k_is)
    (case k6 => k_is)
    (case a7 => k_is)
    (case l7 => k_is)
    (case c7 => k_is)
    (case k7 => k_is)
    (case a8 => k_is)
    (case l8 => k_is)
    (case c8 => k_is)
    (case k8 => k_is)
    (case a9 => k_is)
    (case l9 => k_is)
    (case c9 => k_is)
    (case k9 => k_is)
    (case a10 => k_is)
    (case l10 => k_is)
    (case c10 => k_is)
    (case k10 => k_is)
    (case a11 => k_is)
    (case l11 => k_is)
    (case c11 => k_is)
    (case k11 => k_is)
    (case a12 => k_is)
    (case l12 => k_is)
    (case c12 => k_is)
    (case k12 => k_is)
    (case a13 => k_is)
    (case l13 => k_is)
    (case c13 => k_is)
    (case k13 => k_is)
    (case a14 => k_is)
    (case l14 => k_is)
    (case c14 => k_is)
    (case k14 => k_is)
    (case a15 => k_is)
    (case l15 => k_is)
    (case c15 => k_is)
    (case k15 => k_is)
    (case a16 => k_is)
    (case l16 => k_is)
    (case c16 => k_is)
    (case k16 => k_is)
    (case a17 => k_is)
    (case mi17 => k_is)
    (case mn17 => k_is)
    (case l17 => k_is)
    (case c17 => k_is)
    (case k17 => k_is)
    (case kw17_0 => k_is)
    (case kr17_0 => first | exact ⟨_, rfl⟩ | rfl)
    (case kw17_1 => k_is)
    (case kr17_1 => first | exact ⟨_, rfl⟩ | rfl)
    (case kw17_2 => k_is)
    (case kr17_2 => first | exact ⟨_, rfl⟩ | rfl)
    (case kw17_3 => k_is)
    (case kr17_3 => first | exact ⟨_, rfl⟩ | rfl)
    (case kw17_4 => k_is)
    (case kr17_4 => first | exact ⟨_, rfl⟩ | rfl)
    (case kw17_5 => k_is)
    (case kr17_5 => first | exact ⟨_, rfl⟩ | rfl)
    (case kw17_6 => k_is)
    (case kr17_6 => first | exact ⟨_, rfl⟩ | rfl)
    (case kw17_7 => k_is)
    (case kr17_7 => first | exact ⟨_, rfl⟩ | rfl)
    (case kw17_8 => k_is)
    (case kr17_8 => first | exact ⟨_, rfl⟩ | rfl)
    (case a18 => k_is)
    (case l18 => k_is)
    (case c18 => k_is)
    (case k18 => k_is)
    (case a19 => k_is)
    (case mi19 => k_is)
    (case mn19 => k_is)
    (case l19 => k_is)
    (case c19 => k_is)
    (case k19 => k_is)
    (case a20 => k_is)
    (case l20 => k_is)
    (case c20 => k_is)
    (case k20 => k_is)
    (case a21 => k_is)
    (case l21 => k_is)
    (case c21 => k_is)
    (case k21 => k_is)
    (case a22 => k_is)
    (case l22 => k_is)
    (case c22 => k_is)
    (case k22 => k_is)
    (case a23 => k_is)
    (case l23 => k_is)
    (case c23 => k_is)
    (case k23 => k_is)
    (case a24 => k_is)
    (case l24 => k_is)
    (case c24 => k_is)
    (case k24 => k_is)
    (case a25 => k_is)
    (case l25 => k_is)
    (case c25 => k_is)
    (case k25 => k_is)
    (case a26 => k_is)
    (case l26 => k_is)
    (case c26 => k_is)
    (case k26 => k_is)
    (case a27 => k_is)
    (case l27 => k_is)
    (case c27 => k_is)
    (case k27 => k_is)
    (case a28 => k_is)
    (case l28 => k_is)
    (case c28 => k_is)
    (case k28 => k_is)
    (case a29 => k_is)
    (case l29 => k_is)
    (case c29 => k_is)
    (case k29 => k_is)
    (case a30 => k_is)
    (case l30 => k_is)
    (case c30 => k_is)
    (case k30 => k_is)
    (case a31 => k_is)
    (case l31 => k_is)
    (case c31 => k_is)
    (case k31 => k_is)
#print axioms PySem.Challenge.cw_crumbjar_k21_lines_made_holds
