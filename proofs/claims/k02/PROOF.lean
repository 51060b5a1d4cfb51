import PyProof.Rows.All
import Wide.All
import OpenK.AllK
import Wide.FinOn
import HandS.Base
import HandS.Call
import HandS.List
import HandS.Comp
import HandS.Ends
import HandS.Dict
import HandS.Iter
import HandS.Text
import HandS.Words
import PyProof.Rows.StrNews2
import PyProof.StrLawsLast
import HandS.Wide
import HandS.Walk
import HandS.IsInst
import HandS.Style
import KE.IntTextLaws
import HandS.StrMore
import HandS.TupMul
import HandS.TupAny
import PyProof.Rows.StrFirst
import PyProof.Rows.RegReprOcc
import KE.GoesEnum
import HandS.Exc
import HandS.ExcOwn
import HandS.ExcInit
import HandS.ExcField
import HandS.WordsExc
import PyProof.ReprReads
import PyProof.ReprRoads
import KE.KxStill
import PyProof.Rows.StrCase
import PyProof.StrLawsRepr
import PyProof.Rows.StrJoinMade
import KE.KDflt
import HandS.Lambda
import HandS.EndTab
import HandS.EndOwn
import HandS.Codes
import HandS.Flow
import HandS.Evl
import PySem.Challenge.RW_crumbjar_k02_hosts_told
set_option Elab.async false
set_option linter.all false
set_option maxRecDepth 100000
set_option maxHeartbeats 4000000
namespace Kb
open PySem PySem.Spec PyProof.Rows L2
/-! ### a def of the text, a def that may be called -/
def Df (K : PySem.W.Frag) (mg : Str → Option Value) (x : Str) (st : Stmt) (ps : List Str) : Prop :=
  ∃ (f : Addr) (fd : FuncData), Fun K x x st f fd ∧ mg x = some (.ref f) ∧ ∀ us : List Value, us.length = ps.length → bindArgs fd ⟨us, []⟩ = pure (ps.zip us)
theorem Df.mk {K : PySem.W.Frag} {mg : Str → Option Value} {h : Heap} {x : Str} {st : Stmt} {ps : List Str} {f : Addr} {oc : Value} {od an : Option Addr} {sl : Array (Option Value)} {kV doc pm cd ct : Value} (X : K.In h) (G : h.Ns PySem.mainGlobals mg)
    (b : ∀ (kV doc pm : Value) (an : Option Addr) (cdv ct : Value) (us : List Value), us.length = ps.length → bindArgs (PySem.W.fnOf x x (defArgs st) (defBody st) (defScope st) .none kV doc pm an cdv ct) ⟨us, []⟩ = pure (ps.zip us))
    (a : PySem.W.nsIn K PySem.mainGlobals x = some (some (.ref f)))
    (l : K.lookup f = some ⟨oc, od, .func (PySem.W.fnOf x x (defArgs st) (defBody st) (defScope st) .none kV doc pm an cd ct), sl⟩)
    (c : PySem.W.codeIn K cd x = true) (k : PySem.W.keepIn K (.ref f) = true) : Df K mg x st ps :=
  ⟨f, _, fun_mk l c k, PySem.W.mg_of X G a, b kV doc pm an cd ct⟩
def Cal (P : Program) (w : World) (K : PySem.W.Frag) (mg : Str → Option Value) (base : Heap) (CX : CXT) (k : Nat) (x : Str) (ps : List Str) (sp : Sp) : Prop :=
  ∃ (f : Addr) (fd : FuncData), FnOk P w K mg base CX k f fd ps sp ∧ mg x = some (.ref f) ∧ PySem.W.keepIn K (.ref f) = true ∧ Binds K fd ps []
section
variable {P : Program} {w : World} {K : PySem.W.Frag} {mg : Str → Option Value} {base : Heap}
theorem Df.ok0 {x : Str} {st : Stmt} {N ps : List Str} {k : Nat} {sp : Sp} (D : Df K mg x st ps) (S : FnScope N ps (defScope st)) (len : ∀ vs H Q E, sp vs H Q E → vs.length = ps.length)
    (hbody : ∀ (f : Addr) (cdv : Value) (A : Around) (outer : List Env) (s : Shared) (H : Hp) (vs : List V) (Q : VK) (E : XK), Room k (A.deeper (envOfC x (defScope st) s.heap.objs.size f cdv)) → sp vs H Q E →
      ∃ t, PSs (cxOf CX0 P w K mg base N x (defScope st) f cdv A outer s H E).nox (defBody st) t ∧ t { nx := fun _ H' => Q .non H', rt := Q } (start N vs) H) : Cal P w K mg base CX0 (k + 1) x ps sp := by
  obtain ⟨f, fd, F, m, b⟩ := D
  exact ⟨f, fd, F.ok S len (hbody f), m, F.kp, .all b⟩
end
theorem pe_c {X : Cx} {CX : CXT} {j k : Nat} {x : Str} {ps : List Str} {sp : Sp} {E : XK} {p pos : Pos} {e : Expr} {es : List Expr} {t : TA} (c : Cal X.prog X.w X.K X.mg X.base CX j x ps sp) (hr : Room k X.A) (hjk : j ≤ k) (hg : Gl X x) (hx : Passes CX X E)
    (ha : PA X (e :: es) t) (hdb : (x == ("__debug__" : Str)) = false := by decide) (he : starEach (e :: es) X.env = (false, eval e X.env) :: starEach es X.env := by rfl) (hpl : (backTo pos (starEach es X.env)).any (·.1) = false := by rfl) :
    PE X (.Call (.Name x p) (e :: es) [] pos) (tCall sp [] E t) := by
  obtain ⟨f, fd, F, m, kp, b⟩ := c
  exact pe_call F (hr.mono hjk) hg m kp b .nil hx ha hdb he hpl
end Kb

namespace Kb
open PySem PySem.Spec PyProof.Rows L2 TL PySem.StrLaws Builtin.Str
/-! ### lists of signs: parts between one sign -/
def sp1 (c : Nat) : List Nat → List (List Nat)
  | [] => [[]]
  | x :: l => if x = c then [] :: sp1 c l else match sp1 c l with
    | [] => [[x]]
    | h :: t => (x :: h) :: t
theorem sp1_ne (c : Nat) : ∀ l, sp1 c l ≠ []
  | [] => by simp [sp1]
  | x :: l => by
    unfold sp1
    split
    · simp
    · cases h : sp1 c l <;> simp
theorem sp1_hit (c : Nat) (l : List Nat) : sp1 c (c :: l) = [] :: sp1 c l := by simp [sp1]
theorem sp1_miss {c x : Nat} (h : x ≠ c) {l p : List Nat} {r : List (List Nat)} (e : sp1 c l = p :: r) : sp1 c (x :: l) = (x :: p) :: r := by
  simp only [sp1, if_neg h, e]
theorem sp1_cons (c : Nat) (l : List Nat) : ∃ p r, sp1 c l = p :: r := by
  cases h : sp1 c l with
  | nil => exact absurd h (sp1_ne c l)
  | cons p r => exact ⟨p, r, rfl⟩
theorem spl_sp1 (c : Nat) : ∀ (l acc : List Nat) (p : List Nat) (r : List (List Nat)), sp1 c l = p :: r → spl [c] 0 acc l = (acc ++ p) :: r
  | [], acc, p, r, h => by
    simp only [sp1, List.cons.injEq] at h
    obtain ⟨rfl, rfl⟩ := h
    simp [spl_nil]
  | x :: l, acc, p, r, h => by
    obtain ⟨q, s, e⟩ := sp1_cons c l
    by_cases hx : x = c
    · subst hx
      rw [sp1_hit] at h
      simp only [List.cons.injEq] at h
      obtain ⟨rfl, rfl⟩ := h
      rw [spl_hit (by simp [pre])]
      rw [show [x].length - 1 = 0 from rfl, spl_sp1 x l [] q s e, e]
      simp
    · rw [sp1_miss hx e] at h
      simp only [List.cons.injEq] at h
      obtain ⟨rfl, rfl⟩ := h
      rw [spl_miss (by simp [pre, hx]), spl_sp1 c l _ q s e]
      simp
theorem split_sp1 (x : Str) {c : Nat} (hc : c < 256) : (Txt.split x ⟨#[c]⟩).map tl = sp1 c (tl x) := by
  rw [split_spl x ⟨#[c]⟩ (by simp [tl]) (kind_ok (by simp [hc]))]
  obtain ⟨p, r, e⟩ := sp1_cons c (tl x)
  show spl [c] 0 [] (tl x) = _
  rw [spl_sp1 c _ [] p r e, e]
  rfl
theorem joinL_sp1 (c : Nat) : ∀ l, joinL [c] (sp1 c l) = l
  | [] => rfl
  | x :: l => by
    obtain ⟨q, s, e⟩ := sp1_cons c l
    have ih := joinL_sp1 c l
    by_cases hx : x = c
    · subst hx
      rw [sp1_hit, e]
      rw [e] at ih
      show [] ++ ([x] ++ joinL [x] (q :: s)) = _
      rw [ih]; rfl
    · rw [sp1_miss hx e]
      rw [e] at ih
      cases s with
      | nil => exact congrArg (x :: ·) ih
      | cons a b => exact congrArg (x :: ·) ih
theorem sp1_free (c : Nat) : ∀ l, ∀ p ∈ sp1 c l, c ∉ p
  | [], p, h => by simp only [sp1, List.mem_singleton] at h; subst h; simp
  | x :: l, p, h => by
    obtain ⟨q, s, e⟩ := sp1_cons c l
    have ih := sp1_free c l
    by_cases hx : x = c
    · subst hx
      rw [sp1_hit] at h
      rcases List.mem_cons.mp h with rfl | h
      · simp
      · exact ih p h
    · rw [sp1_miss hx e] at h
      rw [e] at ih
      rcases List.mem_cons.mp h with rfl | h
      · intro hm
        rcases List.mem_cons.mp hm with r | r
        · exact hx r.symm
        · exact ih q (List.mem_cons_self ..) r
      · exact ih p (List.mem_cons_of_mem _ h)
theorem sp1_of_free {c : Nat} : ∀ {l : List Nat}, c ∉ l → sp1 c l = [l]
  | [], _ => rfl
  | x :: l, h => by
    have hx : x ≠ c := fun e => h (e ▸ List.mem_cons_self ..)
    rw [sp1_miss hx (sp1_of_free fun m => h (List.mem_cons_of_mem _ m))]
theorem sp1_app (c : Nat) : ∀ (a b : List Nat), sp1 c (a ++ c :: b) = sp1 c a ++ sp1 c b
  | [], b => by rw [List.nil_append, sp1_hit]; rfl
  | x :: a, b => by
    obtain ⟨q, s, e⟩ := sp1_cons c a
    have ih := sp1_app c a b
    rw [e] at ih
    by_cases hx : x = c
    · subst hx
      rw [List.cons_append, sp1_hit, sp1_hit, ih, e]; rfl
    · rw [List.cons_append, sp1_miss hx ih, sp1_miss hx e]; rfl
/-- r and the sign stand at the head exactly if r's parts are the first ones, with one more behind -/
theorem sp1_prefix (c : Nat) : ∀ (r p : List Nat), ((sp1 c r).length < (sp1 c p).length ∧ (sp1 c p).take (sp1 c r).length = sp1 c r) ↔ (r ++ [c]) <+: p
  | [], p => by
    show (1 < _ ∧ List.take 1 _ = [[]]) ↔ [c] <+: p
    cases p with
    | nil => simp [sp1]
    | cons x p =>
      obtain ⟨q, s, e⟩ := sp1_cons c p
      by_cases hx : x = c
      · subst hx
        simp [sp1_hit, e]
      · rw [sp1_miss hx e]
        simp [List.cons_prefix_cons, Ne.symm hx]
  | y :: r, p => by
    obtain ⟨q, s, e⟩ := sp1_cons c r
    cases p with
    | nil =>
      have h1 : 0 < (sp1 c (y :: r)).length := List.length_pos_iff.mpr (sp1_ne c _)
      constructor
      · rintro ⟨h, _⟩
        simp only [sp1, List.length_cons, List.length_nil] at h
        exact absurd h (by have : (sp1 c (y :: r)).length = (sp1 c (y :: r)).length := rfl; simp only [sp1] at h1; omega)
      · intro h; simp at h
    | cons x p =>
      obtain ⟨q', s', e'⟩ := sp1_cons c p
      have ih := sp1_prefix c r p
      rw [List.cons_append, List.cons_prefix_cons]
      by_cases hy : y = c
      · subst hy
        rw [sp1_hit]
        by_cases hx : x = y
        · subst hx
          rw [sp1_hit]
          simp only [List.length_cons, List.take_succ_cons, List.cons.injEq, true_and, Nat.add_lt_add_iff_right]
          exact ih
        · rw [sp1_miss hx e']
          simp [Ne.symm hx]
      · rw [sp1_miss hy e]
        by_cases hx : x = c
        · subst hx
          rw [sp1_hit]
          simp [Ne.symm hy, hy]
        · rw [sp1_miss hx e']
          rw [e, e'] at ih
          simp only [List.length_cons, List.take_succ_cons, List.cons.injEq] at ih ⊢
          constructor
          · rintro ⟨h1, ⟨h2, h3⟩, h4⟩
            exact ⟨h2.symm, ih.mp ⟨h1, h3, h4⟩⟩
          · rintro ⟨h2, h⟩
            obtain ⟨h1, h3, h4⟩ := ih.mpr h
            exact ⟨h1, ⟨h2.symm, h3⟩, h4⟩
/-- the last part -/
theorem last_cut {c : Nat} : ∀ {l : List Nat}, c ∈ l → ∃ a b, l = a ++ c :: b ∧ c ∉ b
  | [], h => by cases h
  | x :: l, h => by
    by_cases hm : c ∈ l
    · obtain ⟨a, b, e, hb⟩ := last_cut hm
      exact ⟨x :: a, b, by rw [e]; rfl, hb⟩
    · have hx : c = x := by
        rcases List.mem_cons.mp h with e | e
        · exact e
        · exact absurd e hm
      exact ⟨[], l, by rw [hx]; rfl, hm⟩
/-! ### the model's words as list functions -/
theorem startswith_tl (x y : Str) : Txt.startswith x y = (tl y).isPrefixOf (tl x) := by
  unfold Txt.startswith
  rw [subAt_eq, List.drop_zero, len_tl, len_tl, Nat.zero_add]
  rw [Bool.eq_iff_iff]
  simp only [Bool.and_eq_true, decide_eq_true_eq, beq_iff_eq, List.isPrefixOf_iff_prefix]
  constructor
  · rintro ⟨_, h⟩
    have h : List.take (tl y).length (tl x) = tl y := h
    exact h ▸ List.take_prefix _ _
  · intro h
    exact ⟨h.length_le, (List.prefix_iff_eq_take.mp h).symm⟩
theorem endswith_tl (x y : Str) : Txt.endswith x y = (tl y).isSuffixOf (tl x) := by
  unfold Txt.endswith
  rw [subAt_eq, len_tl, len_tl, Nat.zero_add]
  rw [Bool.eq_iff_iff]
  simp only [Bool.and_eq_true, decide_eq_true_eq, beq_iff_eq, List.isSuffixOf_iff_suffix]
  constructor
  · rintro ⟨h1, h⟩
    have h : List.take (tl y).length (List.drop ((tl x).length - (tl y).length) (tl x)) = tl y := h
    rw [List.take_of_length_le (by rw [List.length_drop]; omega)] at h
    exact h ▸ List.drop_suffix _ _
  · intro h
    have hl := h.length_le
    refine ⟨hl, ?_⟩
    show List.take (tl y).length (List.drop ((tl x).length - (tl y).length) (tl x)) = tl y
    rw [List.take_of_length_le (by rw [List.length_drop]; omega)]
    exact (List.suffix_iff_eq_drop.mp h).symm
theorem rpartition_hit {x : Str} {c : Nat} {a b : List Nat} (e : tl x = a ++ c :: b) (hb : c ∉ b) : tl (Txt.rpartition x ⟨#[c]⟩).1 = a := by
  have hy : tl (⟨#[c]⟩ : Str) ≠ [] := by simp [tl]
  have at' : ∀ i, At x ⟨#[c]⟩ x.length i ↔ (tl x)[i]? = some c := fun i => by
    rw [at_iff hy]
    show (((tl x).drop i).take 1 == [c]) = true ↔ _
    exact take1_drop
  have hit : At x ⟨#[c]⟩ x.length a.length := (at' _).mpr (by rw [e]; simp)
  unfold Txt.rpartition
  rcases last_spec x ⟨#[c]⟩ with ⟨e1, h⟩ | ⟨i, e1, h1, h2⟩
  · exact absurd hit (h _)
  · rw [e1]
    show tl (strSub x 0 i) = a
    have hi : i = a.length := by
      rcases Nat.lt_trichotomy i a.length with q | q | q
      · exact absurd hit (h2 _ q)
      · exact q
      · have g := (at' i).mp h1
        rw [e, List.getElem?_append_right (by omega)] at g
        obtain ⟨k, hk⟩ : ∃ k, i - a.length = k + 1 := ⟨i - a.length - 1, by omega⟩
        rw [hk, List.getElem?_cons_succ] at g
        exact absurd (List.mem_of_getElem? g) hb
    rw [tl_strSub, hi, e]
    simp
theorem tl_S (l : List Nat) : tl ⟨l.toArray⟩ = l := rfl
theorem str_eq_iff {x y : Str} : x = y ↔ tl x = tl y := ⟨fun e => by rw [e], ext_tl⟩
end Kb
namespace Kb
open PySem PySem.Spec PyProof.Rows L2 TL PySem.StrLaws Builtin.Str
theorem cutS_to (z : Str) {i : Int} (h : 0 ≤ i) : tl (cutS z none (some i)) = (tl z).take i.toNat := by
  obtain ⟨k, rfl⟩ : ∃ k : Nat, i = (k : Int) := ⟨i.toNat, by omega⟩
  show ((tl z).drop (HT.sIx z.length 0 none)).take (HT.sIx z.length z.length (some (k : Int)) - HT.sIx z.length 0 none) = _
  rw [HT.sIx_none, HT.sIx_nat, List.drop_zero, Nat.sub_zero, Int.toNat_natCast, len_tl, ← List.take_take, List.take_of_length_le (Nat.le_refl _)]
end Kb
namespace Kb
open PySem PySem.Spec PyProof.Rows L2 TL PySem.StrLaws Builtin.Str
theorem cutV_to (xs : List V) {i : Int} (h : 0 ≤ i) : cutV xs none (some i) = xs.take i.toNat := by
  obtain ⟨k, rfl⟩ : ∃ k : Nat, i = (k : Int) := ⟨i.toNat, by omega⟩
  show (xs.drop (HT.sIx xs.length 0 none)).take (HT.sIx xs.length xs.length (some (k : Int)) - HT.sIx xs.length 0 none) = _
  rw [HT.sIx_none, HT.sIx_nat, List.drop_zero, Nat.sub_zero, Int.toNat_natCast, ← List.take_take, List.take_of_length_le (Nat.le_refl _)]
theorem cutV_m1 (xs : List V) : cutV xs none (some (-1)) = xs.dropLast := by
  show (xs.drop (HT.sIx xs.length 0 none)).take (HT.sIx xs.length xs.length (some (-1)) - HT.sIx xs.length 0 none) = _
  rw [HT.sIx_none, List.drop_zero, Nat.sub_zero, List.dropLast_eq_take]
  have e : HT.sIx xs.length xs.length (some (-1)) = xs.length - 1 := by
    show (if (-1 : Int) < 0 then ((-1 : Int) + (xs.length : Int)).toNat else min (-1 : Int).toNat xs.length) = _
    rw [if_pos (by decide)]
    omega
  rw [e]
theorem sp1_mem {c s : Nat} : ∀ {l p : List Nat}, p ∈ sp1 c l → s ∈ p → s ∈ l
  | [], p, h, hs => by simp only [sp1, List.mem_singleton] at h; subst h; exact hs
  | x :: l, p, h, hs => by
    obtain ⟨q, r, e⟩ := sp1_cons c l
    have ih := fun p => sp1_mem (c := c) (s := s) (l := l) (p := p)
    by_cases hx : x = c
    · subst hx
      rw [sp1_hit] at h
      rcases List.mem_cons.mp h with rfl | h
      · cases hs
      · exact List.mem_cons_of_mem _ (ih p h hs)
    · rw [sp1_miss hx e] at h
      rw [e] at ih
      rcases List.mem_cons.mp h with rfl | h
      · rcases List.mem_cons.mp hs with rfl | hs
        · exact List.mem_cons_self ..
        · exact List.mem_cons_of_mem _ (ih q (List.mem_cons_self ..) hs)
      · exact List.mem_cons_of_mem _ (ih p (List.mem_cons_of_mem _ h) hs)
theorem split_mem {x p : Str} {c : Nat} (hc : c < 256) (h : p ∈ Txt.split x ⟨#[c]⟩) : ∀ s ∈ tl p, s ∈ tl x := fun s hs =>
  sp1_mem (c := c) (by rw [← split_sp1 x hc]; exact List.mem_map.mpr ⟨p, h, rfl⟩) hs
theorem split_strOk {x : Str} {c : Nat} (hc : c < 256) (hx : ∀ s ∈ tl x, s < 1114112) : ∀ p ∈ Txt.split x ⟨#[c]⟩, PyData.canLay0 (.str p) = true := fun p hp => by
  rw [PyData.canLay0]
  show p.cps.all _ = true
  rw [Array.all_eq_true_iff_forall_mem]
  intro s hs
  exact decide_eq_true (hx s (split_mem hc hp s (Array.mem_toList_iff.mpr hs)))
theorem prefix_snoc {q p : List Nat} {c : Nat} : (q ++ [c]) <+: p ↔ q <+: p ∧ p[q.length]? = some c := by
  constructor
  · rintro ⟨r, e⟩
    refine ⟨⟨c :: r, by rw [← e]; simp⟩, ?_⟩
    rw [← e]; simp
  · rintro ⟨⟨r, e⟩, h⟩
    rw [← e, List.getElem?_append_right (Nat.le_refl _), Nat.sub_self] at h
    cases r with
    | nil => cases h
    | cons a r =>
      cases h
      exact ⟨r, by rw [← e]; simp⟩
theorem snoc_of_ne {l : List Nat} (h : l ≠ []) : ∃ r c, l = r ++ [c] := ⟨l.dropLast, l.getLast h, (List.dropLast_concat_getLast h).symm⟩
theorem sp1_length {c : Nat} : ∀ l : List Nat, (sp1 c l).length ≤ l.length + 1
  | [] => by simp [sp1]
  | x :: l => by
    obtain ⟨q, r, e⟩ := sp1_cons c l
    have ih := sp1_length (c := c) l
    by_cases hx : x = c
    · subst hx; rw [sp1_hit]; simp; omega
    · rw [sp1_miss hx e]; rw [e] at ih; simp at ih ⊢; omega
theorem split_length (x : Str) {c : Nat} (hc : c < 256) : (Txt.split x ⟨#[c]⟩).length ≤ x.length + 1 := by
  have := sp1_length (c := c) (tl x)
  rw [← split_sp1 x hc, List.length_map] at this
  rw [len_tl]; exact this
end Kb
namespace Kb
open PySem PySem.Spec PyProof.Rows L2 TL PySem.StrLaws Builtin.Str
theorem sp1_mem_len {c : Nat} : ∀ {l p : List Nat}, p ∈ sp1 c l → p.length ≤ l.length
  | [], p, h => by simp only [sp1, List.mem_singleton] at h; subst h; simp
  | x :: l, p, h => by
    obtain ⟨q, r, e⟩ := sp1_cons c l
    have ih := fun p => sp1_mem_len (c := c) (l := l) (p := p)
    by_cases hx : x = c
    · subst hx
      rw [sp1_hit] at h
      rcases List.mem_cons.mp h with rfl | h
      · simp
      · have := ih p h; simp; omega
    · rw [sp1_miss hx e] at h
      rw [e] at ih
      rcases List.mem_cons.mp h with rfl | h
      · have := ih q (List.mem_cons_self ..); simp; omega
      · have := ih p (List.mem_cons_of_mem _ h); simp; omega
theorem split_mem_len {x p : Str} {c : Nat} (hc : c < 256) (h : p ∈ Txt.split x ⟨#[c]⟩) : p.length ≤ x.length := by
  rw [len_tl, len_tl]
  exact sp1_mem_len (c := c) (by rw [← split_sp1 x hc]; exact List.mem_map.mpr ⟨p, h, rfl⟩)
theorem joinL_nil {c : Nat} : ∀ {L : List (List Nat)}, joinL [c] L = [] → L = [] ∨ L = [[]]
  | [], _ => .inl rfl
  | [p], h => .inr (by rw [show p = [] from h])
  | p :: q :: r, h => by
    have : p ++ ([c] ++ joinL [c] (q :: r)) = [] := h
    simp at this
theorem join_tl (y : Str) (parts : List Str) : tl (Txt.join y parts) = joinL (tl y) (parts.map tl) := by rw [join_eq, tl_join]
end Kb
namespace Kb
open PySem PySem.Spec PyProof.Rows L2 TL PySem.StrLaws Builtin.Str
theorem cutV_from (xs : List V) {i : Int} (h : 0 ≤ i) : cutV xs (some i) none = xs.drop i.toNat := by
  obtain ⟨k, rfl⟩ : ∃ k : Nat, i = (k : Int) := ⟨i.toNat, by omega⟩
  show (xs.drop (HT.sIx xs.length 0 (some (k : Int)))).take (HT.sIx xs.length xs.length none - HT.sIx xs.length 0 (some (k : Int))) = _
  rw [HT.sIx_none, HT.sIx_nat, Int.toNat_natCast]
  rcases Nat.le_total k xs.length with q | q
  · rw [Nat.min_eq_left q, List.take_of_length_le (by rw [List.length_drop]; omega)]
  · rw [Nat.min_eq_right q, List.drop_length, List.drop_eq_nil_of_le q, List.take_nil]
end Kb

namespace Kb
open PySem PySem.Spec PyProof.Rows L2
section
variable {X : Cx}
theorem pe_gc {x : Str} {pos : Pos} {v : V} (hg : Gl X x) (h : ∃ u, X.mg x = some u ∧ RelV v u) (hd : (x == ("__debug__" : Str)) = false := by decide) : PE X (.Name x pos) (tC v) := by
  obtain ⟨u, hm, r⟩ := h
  exact pe_glob hg hm r hd
theorem mt_rpartition : MtR X "str.rpartition" (fun x xs H Q => ∃ a b, x = .str a ∧ xs = [.str b] ∧ (b.length == 0) = false ∧ a.length ≤ sizeLine ∧
    ∀ p, H p = none → Q (.ref p) (upd H p (.tup [.str (Txt.rpartition a b).1, .str (Txt.rpartition a b).2.1, .str (Txt.rpartition a b).2.2]))) := by
  intro pins s σ H x xs v us Q I rx rs h
  obtain ⟨a, b, rfl, rfl, hb, hz, h⟩ := h
  obtain ⟨t, rfl⟩ := rx
  cases rs with
  | cons r1 rs =>
    cases rs
    obtain ⟨u, rfl⟩ := r1
    refine call_meets F.slot_str_rpartition (typeIs_str _ _ _) F.entry_str_rpartition (F.args_str_rpartition_2 _ _) (meets_str_rpartition a b t u hb hz) ?_
    unfold Txt.rpartition at h
    revert h
    cases Builtin.Str.lastOccurrence a b 0 a.length with
    | none => intro h; exact laid_parts I h
    | some i => intro h; exact laid_parts I h
end
/-! ### frames -/
/-- all that was tracked is as it was, but for d -/
def Keep (d : Addr) (H H' : Hp) : Prop := ∀ b o, H b = some o → b ≠ d → H' b = some o
theorem Keep.refl {d : Addr} {H : Hp} : Keep d H H := fun _ _ h _ => h
theorem Keep.trans {d : Addr} {H H1 H2 : Hp} (a : Keep d H H1) (b : Keep d H1 H2) : Keep d H H2 := fun c o h n => b c o (a c o h n) n
theorem Same.keep {d : Addr} {H H' : Hp} (a : Same H H') : Keep d H H' := fun c o h _ => a c o h
theorem Same.new {H : Hp} {p : Addr} {o : HO} (h : H p = none) : Same H (upd H p o) := fun b u e => by
  rw [upd_ne (ne_of_none e h)]
  exact e
theorem Keep.upd {d : Addr} {H H' : Hp} {o : HO} (a : Keep d H H') : Keep d H (upd H' d o) := fun c u h n => by
  rw [upd_ne n]
  exact a c u h n
theorem Keep.same {d : Addr} {H H1 H2 : Hp} (a : Keep d H H1) (b : Same H1 H2) : Keep d H H2 := fun c o h n => b c o (a c o h n)
theorem Same.then {d : Addr} {H H1 H2 : Hp} (a : Same H H1) (b : Keep d H1 H2) : Keep d H H2 := fun c o h n => b c o (a c o h) n
theorem Keep.seqL {K : PySem.W.Frag} {d a : Addr} {H H' : Hp} {xs : List V} (k : Keep d H H') (n : a ≠ d) (h : SqL K H a xs) : SqL K H' a xs := by
  rcases h with (h | ⟨o, h⟩) | h
  · exact .inl (.inl (k _ _ h n))
  · exact .inl (.inr ⟨o, k _ _ h n⟩)
  · exact .inr h
/-- an object that is new behind d's own changes -/
theorem Keep.fresh {d : Addr} {H H' : Hp} {l : Addr} (k : Keep d H H') (hd : H d = none) (h : H' l = none) : H l = none := by
  cases q : H l with
  | none => rfl
  | some o =>
    have : l ≠ d := fun e => by rw [e, hd] at q; cases q
    rw [k l o q this] at h
    cases h
/-- what is new since H stays new in Same's way -/
theorem Keep.toSame {d : Addr} {H H' : Hp} (k : Keep d H H') (hd : H d = none) : Same H H' := fun b o h => k b o h (ne_of_none h hd)
/-! ### a menu at an index in bounds -/
theorem menu {xs : List V} {i : Int} (h0 : 0 ≤ i) (h1 : i < (xs.length : Int)) : ∃ v, v ∈ xs ∧ atI xs i = some v := by
  obtain ⟨n, rfl⟩ : ∃ n : Nat, i = (n : Int) := ⟨i.toNat, by omega⟩
  have hn : n < xs.length := by omega
  exact ⟨xs[n], List.getElem_mem hn, atI_nat (List.getElem?_eq_getElem hn)⟩
theorem iteB {b : Bool} {A B : Prop} (h1 : b = true → A) (h2 : b = false → B) : if b = true then A else B := by
  cases b
  · rw [if_neg Bool.false_ne_true]; exact h2 rfl
  · rw [if_pos rfl]; exact h1 rfl
/-! ### the draw -/
def kLeft : Key := Sum.inr "left"
def kCell : Key := Sum.inr "cell"
def kTurns : Key := Sum.inr "turns"
def dkv (l c t : Int) : List (Key × V) := [(Sum.inr "left", .int l), (Sum.inr "cell", .int c), (Sum.inr "turns", .int t)]
theorem kne1 : ¬ (("left" : Str) = "cell") := by decide +kernel
theorem kne2 : ¬ (("left" : Str) = "turns") := by decide +kernel
theorem kne3 : ¬ (("cell" : Str) = "turns") := by decide +kernel
theorem dkv_left (l c t : Int) : valV (dkv l c t) (Sum.inr "left" : Key) = some (.int l) := by
  simp [valV, dkv]
theorem dkv_cell (l c t : Int) : valV (dkv l c t) (Sum.inr "cell" : Key) = some (.int c) := by
  simp [valV, dkv, kne1]
theorem dkv_turns (l c t : Int) : valV (dkv l c t) (Sum.inr "turns" : Key) = some (.int t) := by
  simp [valV, dkv, kne2, kne3]
theorem dkv_putL (l c t x : Int) : putK (dkv l c t) (Sum.inr "left" : Key) (.int x) = dkv x c t := by
  simp [putK, dkv, Ne.symm kne1, Ne.symm kne2]
theorem dkv_putT (l c t x : Int) : putK (dkv l c t) (Sum.inr "turns" : Key) (.int x) = dkv l c x := by
  simp [putK, dkv, kne2, kne3]
def DrawAt (H : Hp) (d : Addr) (n : Nat) : Prop := ∃ l c t : Int, H d = some (.dK (dkv l c t)) ∧ 0 ≤ l ∧ 0 ≤ t ∧ t + 4 * (n : Int) ≤ 1000000000
theorem DrawAt.less {H : Hp} {d : Addr} {n m : Nat} (h : DrawAt H d n) (e : m ≤ n) : DrawAt H d m := by
  obtain ⟨l, c, t, h1, h2, h3, h4⟩ := h
  exact ⟨l, c, t, h1, h2, h3, by omega⟩
theorem DrawAt.same {H H' : Hp} {d : Addr} {n : Nat} (h : DrawAt H d n) (s : Same H H') : DrawAt H' d n := by
  obtain ⟨l, c, t, h1, h2⟩ := h
  exact ⟨l, c, t, s _ _ h1, h2⟩
theorem DrawAt.keep {H H' : Hp} {d e : Addr} {n : Nat} (h : DrawAt H d n) (s : Keep e H H') (x : d ≠ e) : DrawAt H' d n := by
  obtain ⟨l, c, t, h1, h2⟩ := h
  exact ⟨l, c, t, s _ _ h1 x, h2⟩
end Kb
namespace Kb
open PySem PySem.Spec PyProof.Rows L2
theorem dget_left {H : Hp} {d : Addr} {l c t : Int} (h : H d = some (.dK (dkv l c t))) : DGet H d (.str "left") (some (.int l)) := by
  have e := DGet.k (k := (Sum.inr "left" : Key)) h
  rw [dkv_left] at e
  exact e
theorem dget_cell {H : Hp} {d : Addr} {l c t : Int} (h : H d = some (.dK (dkv l c t))) : DGet H d (.str "cell") (some (.int c)) := by
  have e := DGet.k (k := (Sum.inr "cell" : Key)) h
  rw [dkv_cell] at e
  exact e
theorem dget_turns {H : Hp} {d : Addr} {l c t : Int} (h : H d = some (.dK (dkv l c t))) : DGet H d (.str "turns") (some (.int t)) := by
  have e := DGet.k (k := (Sum.inr "turns" : Key)) h
  rw [dkv_turns] at e
  exact e
theorem dput_left {H : Hp} {d : Addr} {l c t : Int} (x : Int) (h : H d = some (.dK (dkv l c t))) : DPut H d (.str "left") (.int x) (upd H d (.dK (dkv x c t))) := by
  have e := DPut.k (k := (Sum.inr "left" : Key)) (v := .int x) h (Nat.lt_of_lt_of_le (by show 3 < 10; decide) (by decide))
  rw [dkv_putL] at e
  exact e
theorem dput_turns {H : Hp} {d : Addr} {l c t : Int} (x : Int) (h : H d = some (.dK (dkv l c t))) : DPut H d (.str "turns") (.int x) (upd H d (.dK (dkv l c x))) := by
  have e := DPut.k (k := (Sum.inr "turns" : Key)) (v := .int x) h (Nat.lt_of_lt_of_le (by show 3 < 10; decide) (by decide))
  rw [dkv_putT] at e
  exact e
end Kb
namespace Kb
open PySem PySem.Spec PyProof.Rows L2 TL
section
variable {K : PySem.W.Frag} {a : Addr} {xs : List V} {g : TG} {tb : TS} {D : Ends} {σ : L2.St} {H : Hp}
theorem for_str {z : Str} (Pv : Nat → L2.St → Hp → Prop) (h0 : Pv 0 σ H)
    (hs : ∀ i c σ H, (tl z)[i]? = some c → Pv i σ H → g (.str ⟨#[c]⟩) σ H fun σ2 H2 => tb { D with nx := Pv (i + 1), ct := Pv (i + 1), bk := D.nx } σ2 H2) (hd : ∀ σ H, Pv (tl z).length σ H → D.nx σ H) :
    ∃ W : Nat → Nat → L2.St → Hp → Prop, (∃ m, W 0 m σ H) ∧ ∀ i m σ H, W i m σ H →
      ((Its z).stop i H ∧ D.nx σ H) ∨ ((Its z).go i H ∧ ∃ N : L2.St → Hp → Prop, (∀ σ' H', N σ' H' → ∃ m', m' < m ∧ W (i + 1) m' σ' H') ∧ ∀ x H', (Its z).yld i H x H' → g x σ H' fun σ2 H2 => tb { D with nx := N, ct := N, bk := D.nx } σ2 H2) := by
  refine for_it walk_str Pv h0 (fun _ _ _ _ _ => trivial) (fun i x σ H H' hi p y => ?_) (fun σ H p => hd σ H (by rw [show (tl z).length = z.cps.size by simp [tl]]; exact p))
  obtain ⟨rfl, c, hc, rfl⟩ := y
  exact hs i c σ _ (by rw [← hc]; simp [tl]) p
theorem for_enum (Pv : Nat → L2.St → Hp → Prop) (h0 : Pv 0 σ H) (hG : ∀ i σ H, i ≤ xs.length → Pv i σ H → SqL K H a xs)
    (hs : ∀ i x T σ H, xs[i]? = some x → Pv i σ H → H T = none → g (.ref T) σ (upd H T (.tup [.int (i : Nat), x])) fun σ2 H2 => tb { D with nx := Pv (i + 1), ct := Pv (i + 1), bk := D.nx } σ2 H2) (hd : ∀ σ H, Pv xs.length σ H → D.nx σ H) :
    ∃ W : Nat → Nat → L2.St → Hp → Prop, (∃ m, W 0 m σ H) ∧ ∀ i m σ H, W i m σ H →
      ((Ite K a).stop i H ∧ D.nx σ H) ∨ ((Ite K a).go i H ∧ ∃ N : L2.St → Hp → Prop, (∀ σ' H', N σ' H' → ∃ m', m' < m ∧ W (i + 1) m' σ' H') ∧ ∀ x H', (Ite K a).yld i H x H' → g x σ H' fun σ2 H2 => tb { D with nx := N, ct := N, bk := D.nx } σ2 H2) := by
  refine for_it walk_enum Pv h0 hG (fun i x σ H H' hi p y => ?_) hd
  obtain ⟨T, x, y, rfl, hT, rfl, h1, h2⟩ := y
  cases h1
  exact hs i y T σ H h2 p hT
end
end Kb
namespace Kb
open PySem PySem.Spec PyProof.Rows L2 TL
/-! ### == of lists of texts -/
theorem dpAll_strs {K : PySem.W.Frag} {H : Hp} : ∀ ys : List Str, DpAll K H (ys.map V.str) (ys.map PyData.str)
  | [] => .nil
  | y :: ys => .cons (.str y) (dpAll_strs ys)
theorem dp_strs {K : PySem.W.Frag} {H : Hp} {p : Addr} {ys : List Str} (h : SqL K H p (ys.map V.str)) : Dp K H (.ref p) (.list (ys.map PyData.str)) := .lst h (dpAll_strs ys)
theorem dp_strsT {K : PySem.W.Frag} {H : Hp} {p : Addr} {ys : List Str} (h : SqT K H p (ys.map V.str)) : Dp K H (.ref p) (.tuple (ys.map PyData.str)) := .tup h (dpAll_strs ys)
theorem eqvAll_strs : ∀ ys zs : List Str, PyData.eqvAll (ys.map PyData.str) (zs.map PyData.str) = decide (ys = zs)
  | [], [] => by simp [PyData.eqvAll]
  | [], z :: zs => by simp [PyData.eqvAll]
  | y :: ys, [] => by simp [PyData.eqvAll]
  | y :: ys, z :: zs => by
    rw [List.map_cons, List.map_cons, PyData.eqvAll, eqvAll_strs ys zs]
    rw [show PyData.eqv (.str y) (.str z) = (y == z) by simp [PyData.eqv]]
    rw [Bool.eq_iff_iff]
    simp
theorem canLay_strs : ∀ ys : List Str, (∀ y ∈ ys, PyData.canLay0 (.str y) = true) → PyData.canLayAll0 (ys.map PyData.str) = true
  | [], _ => by simp [PyData.canLayAll0]
  | y :: ys, h => by
    rw [List.map_cons, PyData.canLayAll0, h y (List.mem_cons_self ..), canLay_strs ys fun z hz => h z (List.mem_cons_of_mem _ hz)]; rfl
theorem depth_strs : ∀ ys : List Str, PyData.depthAll (ys.map PyData.str) = 0
  | [] => by simp [PyData.depthAll]
  | y :: ys => by
    rw [List.map_cons, PyData.depthAll, depth_strs ys]
    simp [PyData.depth]
theorem shaped_strs {ys : List Str} (h : ∀ y ∈ ys, PyData.canLay0 (.str y) = true) : SeqAt.shaped (.list (ys.map PyData.str)) = true := by
  unfold SeqAt.shaped
  rw [PyData.canLay0, canLay_strs ys h, PyData.depth, depth_strs]; rfl
end Kb
namespace Kb
open PySem PySem.Spec PyProof.Rows L2 TL
/-! ### rules with the written part named -/
def rLenQ (K : PySem.W.Frag) : List V → Hp → VK → Prop := fun xs H Q => ∃ p ys, xs = [.ref p] ∧ (SqL K H p ys ∨ SqT K H p ys) ∧ Q (.int ys.length) H
def rJoinQ (K : PySem.W.Frag) : V → List V → Hp → VK → Prop := fun x xs H Q => ∃ a p, ∃ ys : List Str, x = .str a ∧ xs = [.ref p] ∧ (SqL K H p (ys.map V.str) ∨ SqT K H p (ys.map V.str)) ∧ (ys.map (·.length)).sum + ys.length * a.length ≤ 16777216 ∧ Q (.str (Txt.join a ys)) H
end Kb
namespace Kb
open PySem PySem.Spec PyProof.Rows L2 TL
theorem DrawAt.upd {H : Hp} {d L : Addr} {n : Nat} {o : HO} (h : DrawAt H d n) (x : d ≠ L) : DrawAt (L2.upd H L o) d n := by
  obtain ⟨l, c, t, h1, h2⟩ := h
  exact ⟨l, c, t, by rw [upd_ne x]; exact h1, h2⟩
theorem DrawAt.ne {H : Hp} {d L : Addr} {n : Nat} (h : DrawAt H d n) (x : H L = none) : L ≠ d := fun e => by
  obtain ⟨_, _, _, q, _⟩ := h
  rw [e, q] at x; cases x
theorem Keep.updN {d L : Addr} {H H' : Hp} {o : HO} (k : Keep d H H') (h : H L = none) : Keep d H (L2.upd H' L o) := fun b q e n => by
  rw [upd_ne (ne_of_none e h)]
  exact k b q e n
end Kb
namespace Kb
open PySem PySem.Spec PyProof.Rows L2 TL
theorem all_at {p : Nat → Bool} {l : List Nat} {i : Nat} {c : Nat} (h : l[i]? = some c) : (l.take (i + 1)).all p = ((l.take i).all p && p c) := by
  rw [List.take_add_one, h, List.all_append]; simp
theorem allS_at {p : List Nat → Bool} {l : List Str} {i : Nat} {c : Str} (h : l[i]? = some c) : ((l.take (i + 1)).map tl).all p = (((l.take i).map tl).all p && p (tl c)) := by
  rw [List.take_add_one, h, List.map_append, List.all_append]; simp
theorem strAt {xs : List Str} {i : Nat} {v : V} (h : (xs.map V.str)[i]? = some v) : ∃ x, xs[i]? = some x ∧ v = .str x := by
  rw [List.getElem?_map] at h
  cases e : xs[i]? with
  | none => rw [e] at h; cases h
  | some x => rw [e] at h; exact ⟨x, rfl, (Option.some.inj h).symm⟩
/-- a text with f, or a value that is no text -/
def TxV (f : List Nat → Bool) (K : PySem.W.Frag) (H : Hp) (v : V) (b : Bool) : Prop :=
  (∃ x : Str, v = .str x ∧ x.length ≤ 1000000 ∧ b = f (tl x)) ∨ (∃ t : Value, TyX K H v t ∧ PySem.W.kitOne K t (.type "str") = some false ∧ b = false)
theorem kit_str (K : PySem.W.Frag) : PySem.W.kitOne K (.type "str") (.type "str") = some true := kit_ty (by decide +kernel)
theorem TxV.of {f : List Nat → Bool} {K : PySem.W.Frag} {H : Hp} {x : Str} (h : x.length ≤ 1000000) : TxV f K H (.str x) (f (tl x)) := .inl ⟨x, rfl, h, rfl⟩
end Kb

namespace Kb
open PySem PySem.Spec PyProof.Rows L2 TL
/-! ### hosts as lists of signs -/
def onlyB (g l : List Nat) : Bool := (l.all fun c => decide (c ∈ g)) && decide (l ≠ [])
def digs : List Nat := [48, 49, 50, 51, 52, 53, 54, 55, 56, 57]
def lsig : List Nat := [97, 98, 99, 100, 101, 102, 103, 104, 105, 106, 107, 108, 109, 110, 111, 112, 113, 114, 115, 116, 117, 118, 119, 120, 121, 122, 48, 49, 50, 51, 52, 53, 54, 55, 56, 57, 45]
def digB (l : List Nat) : Bool := onlyB digs l
def labB (l : List Nat) : Bool := decide (l.length ≤ 20) && (onlyB lsig l && (decide (l.head? ≠ some 45) && decide (l.getLast? ≠ some 45)))
def numB (l : List Nat) : Bool := digB l && (decide (NumText.digitsVal l ≤ 255) && (decide (l = [48]) || decide (l.head? ≠ some 48)))
def lastL (L : List (List Nat)) : List Nat := L.getLast?.getD []
def hostL (L : List (List Nat)) : Bool := decide (L.length ≤ 10) && (L.all labB && (!digB (lastL L) || (L.all numB && decide (L.length = 4))))
def hostB (l : List Nat) : Bool := decide (l.length ≤ 100) && hostL (sp1 46 l)
def addrB (l : List Nat) : Bool := hostB l && digB (lastL (sp1 46 l))
def fitB (h d : List Nat) : Bool := decide (h = d) || (!addrB h && (46 :: d).isSuffixOf h)
theorem tl_dot : tl ("." : Str) = [46] := by decide +kernel
theorem dot_eq : ("." : Str) = ⟨#[46]⟩ := ext_tl tl_dot
theorem tl_lsig : tl ("abcdefghijklmnopqrstuvwxyz0123456789-" : Str) = lsig := by decide +kernel
theorem tl_digs : tl ("0123456789" : Str) = digs := by decide +kernel
theorem hostB_len {x : Str} (h : hostB (tl x) = true) : x.length ≤ 100 := by
  unfold hostB at h
  rw [Bool.and_eq_true, decide_eq_true_eq] at h
  rw [len_tl]; exact h.1
theorem digs_iff {c : Nat} : c ∈ digs ↔ 48 ≤ c ∧ c ≤ 57 := by
  simp only [digs, List.mem_cons, List.not_mem_nil, or_false]
  omega
theorem digB_iff {l : List Nat} : digB l = true ↔ NumText.AllDigits l ∧ l ≠ [] := by
  unfold digB onlyB NumText.AllDigits
  rw [Bool.and_eq_true, List.all_eq_true, decide_eq_true_eq]
  constructor
  · rintro ⟨h, n⟩; exact ⟨fun c hc => digs_iff.mp (of_decide_eq_true (h c hc)), n⟩
  · rintro ⟨h, n⟩; exact ⟨fun c hc => decide_eq_true (digs_iff.mpr (h c hc)), n⟩
theorem int_dig {x : Str} (h : digB (tl x) = true) (hl : x.length ≤ 640) : intText? x = some ((NumText.digitsVal (tl x) : Nat) : Int) :=
  intText_digits (digB_iff.mp h).1 (digB_iff.mp h).2 (by omega)
theorem lsig_lt {c : Nat} (h : c ∈ lsig) : c < 128 ∧ 45 ≤ c := by
  simp only [lsig, List.mem_cons, List.not_mem_nil, or_false] at h
  omega
theorem dot_free {l : List Nat} (h : labB l = true) : 46 ∉ l := fun hm => by
  unfold labB onlyB at h
  simp only [Bool.and_eq_true, List.all_eq_true, decide_eq_true_eq] at h
  exact absurd (h.2.1.1 46 hm) (by decide)
theorem lab_ne {l : List Nat} (h : labB l = true) : l ≠ [] := by
  unfold labB onlyB at h
  simp only [Bool.and_eq_true, List.all_eq_true, decide_eq_true_eq] at h
  exact h.2.1.2
theorem lab_len {l : List Nat} (h : labB l = true) : l.length ≤ 20 := by
  unfold labB at h
  simp only [Bool.and_eq_true, decide_eq_true_eq] at h
  exact h.1
theorem lab_sign {l : List Nat} (h : labB l = true) {c : Nat} (hc : c ∈ l) : c ∈ lsig := by
  unfold labB onlyB at h
  simp only [Bool.and_eq_true, List.all_eq_true, decide_eq_true_eq] at h
  exact h.2.1.1 c hc
theorem lastL_snoc (L : List (List Nat)) (p : List Nat) : lastL (L ++ [p]) = p := by
  unfold lastL; rw [List.getLast?_concat]; rfl
/-- joined labels are their parts -/
theorem sp1_joinL {c : Nat} : ∀ {L : List (List Nat)}, L ≠ [] → (∀ p ∈ L, c ∉ p) → sp1 c (joinL [c] L) = L
  | [], h, _ => absurd rfl h
  | [p], _, hp => sp1_of_free (hp p (List.mem_singleton.mpr rfl))
  | p :: q :: r, _, hp => by
    show sp1 c (p ++ (c :: joinL [c] (q :: r))) = _
    rw [sp1_app, sp1_of_free (hp p (List.mem_cons_self ..)), sp1_joinL (by simp) fun z hz => hp z (List.mem_cons_of_mem _ hz)]
    rfl
theorem joinL_app {c : Nat} : ∀ {L M : List (List Nat)}, L ≠ [] → M ≠ [] → joinL [c] (L ++ M) = joinL [c] L ++ c :: joinL [c] M
  | [], _, h, _ => absurd rfl h
  | [p], m :: M, _, _ => rfl
  | [p], [], _, h => absurd rfl h
  | p :: q :: r, M, _, hM => by
    show p ++ (c :: joinL [c] (q :: r ++ M)) = _
    rw [joinL_app (L := q :: r) (by simp) hM]
    simp [joinL]
/-- d's parts are the last parts exactly if it is all, or stands behind a sign -/
theorem sp1_suffix (c : Nat) (h d : List Nat) : ((sp1 c d).length ≤ (sp1 c h).length ∧ (sp1 c h).drop ((sp1 c h).length - (sp1 c d).length) = sp1 c d) ↔ (h = d ∨ (c :: d) <:+ h) := by
  constructor
  · rintro ⟨h1, h2⟩
    have e : sp1 c h = (sp1 c h).take ((sp1 c h).length - (sp1 c d).length) ++ sp1 c d := by
      conv => lhs; rw [← List.take_append_drop ((sp1 c h).length - (sp1 c d).length) (sp1 c h), h2]
    by_cases ht : (sp1 c h).take ((sp1 c h).length - (sp1 c d).length) = []
    · rw [ht, List.nil_append] at e
      exact .inl (by rw [← joinL_sp1 c h, e, joinL_sp1])
    · refine .inr ⟨joinL [c] ((sp1 c h).take ((sp1 c h).length - (sp1 c d).length)), ?_⟩
      have e2 := joinL_sp1 c h
      rw [e, joinL_app ht (sp1_ne c d), joinL_sp1] at e2
      exact e2
  · rintro (rfl | ⟨r, e⟩)
    · simp
    · rw [← e, sp1_app, List.length_append]
      refine ⟨by omega, ?_⟩
      rw [Nat.add_sub_cancel, List.drop_left]
end Kb
namespace Kb
open PySem PySem.Spec PyProof.Rows L2 TL
/-! ### drawn hosts: small labels that are no numbers -/
def wlab (l : List Nat) : Bool := labB l && (!digB l && decide (l.length ≤ 4))
def HostW (n : Nat) (x : Str) : Prop := ∃ L : List (List Nat), L ≠ [] ∧ L.length ≤ n ∧ (∀ l ∈ L, wlab l = true) ∧ tl x = joinL [46] L
theorem wlab_lab {l : List Nat} (h : wlab l = true) : labB l = true ∧ digB l = false ∧ l.length ≤ 4 := by
  unfold wlab at h
  simp only [Bool.and_eq_true, Bool.not_eq_true', decide_eq_true_eq] at h
  exact h
theorem joinL_len {c B : Nat} : ∀ L : List (List Nat), (∀ l ∈ L, l.length ≤ B) → (joinL [c] L).length ≤ L.length * (B + 1)
  | [], _ => by simp [joinL]
  | [p], h => by have := h p (List.mem_singleton.mpr rfl); simp [joinL]; omega
  | p :: q :: r, h => by
    have h1 := h p (List.mem_cons_self ..)
    have h2 := joinL_len (c := c) (q :: r) fun l hl => h l (List.mem_cons_of_mem _ hl)
    show (p ++ (c :: joinL [c] (q :: r))).length ≤ _
    rw [List.length_append, List.length_cons, List.length_cons (a := p), Nat.succ_mul]
    omega
theorem lastL_mem {L : List (List Nat)} (h : L ≠ []) : lastL L ∈ L := by
  have e : L = L.dropLast ++ [L.getLast h] := (List.dropLast_concat_getLast h).symm
  have e2 : lastL L = L.getLast h := by
    conv => lhs; rw [e]
    exact lastL_snoc _ _
  rw [e2]
  exact List.getLast_mem h
theorem HostW.parts {n : Nat} {x : Str} (h : HostW n x) : ∃ L : List (List Nat), sp1 46 (tl x) = L ∧ L ≠ [] ∧ L.length ≤ n ∧ (∀ l ∈ L, wlab l = true) ∧ tl x = joinL [46] L := by
  obtain ⟨L, h1, h2, h3, h4⟩ := h
  exact ⟨L, by rw [h4, sp1_joinL h1 fun p hp => dot_free (wlab_lab (h3 p hp)).1], h1, h2, h3, h4⟩
theorem HostW.len {n : Nat} {x : Str} (h : HostW n x) : x.length ≤ 5 * n := by
  obtain ⟨L, h1, h2, h3, h4⟩ := h
  rw [len_tl, h4]
  have := joinL_len (c := 46) (B := 4) L fun l hl => (wlab_lab (h3 l hl)).2.2
  omega
theorem HostW.host {n : Nat} {x : Str} (h : HostW n x) (hn : n ≤ 10) : hostB (tl x) = true ∧ digB (lastL (sp1 46 (tl x))) = false := by
  have hl := h.len
  obtain ⟨L, e, h1, h2, h3, h4⟩ := h.parts
  have hz : digB (lastL L) = false := (wlab_lab (h3 _ (lastL_mem h1))).2.1
  rw [e]
  refine ⟨?_, hz⟩
  unfold hostB hostL
  rw [e, hz, decide_eq_true (by rw [← len_tl]; omega), decide_eq_true (by omega), List.all_eq_true.mpr fun l hl => (wlab_lab (h3 l hl)).1]
  rfl
theorem HostW.more {n m : Nat} {x : Str} (h : HostW n x) (e : n ≤ m) : HostW m x := by
  obtain ⟨L, h1, h2, h3, h4⟩ := h
  exact ⟨L, h1, Nat.le_trans h2 e, h3, h4⟩
theorem HostW.dot {n m : Nat} {x y : Str} (h : HostW n x) (k : HostW m y) : HostW (n + m) (x ++ "." ++ y) := by
  obtain ⟨L, h1, h2, h3, h4⟩ := h
  obtain ⟨M, k1, k2, k3, k4⟩ := k
  refine ⟨L ++ M, by simp [h1], by rw [List.length_append]; omega, fun l hl => ?_, ?_⟩
  · rcases List.mem_append.mp hl with q | q
    · exact h3 l q
    · exact k3 l q
  · rw [tl_append, tl_append, tl_dot, h4, k4, joinL_app h1 k1, List.append_assoc]; rfl
/-- address hosts: four numbers -/
def AddrW (x : Str) : Prop := ∃ L : List (List Nat), L.length = 4 ∧ (∀ l ∈ L, ∃ n : Nat, n < 256 ∧ l = numL n) ∧ tl x = joinL [46] L
theorem num_ok : ∀ n : Nat, n < 256 → (labB (numL n) && (numB (numL n) && (digB (numL n) && decide ((numL n).length ≤ 3)))) = true := by decide +kernel
theorem AddrW.parts {x : Str} (h : AddrW x) : ∃ L : List (List Nat), sp1 46 (tl x) = L ∧ L.length = 4 ∧ (∀ l ∈ L, labB l = true ∧ numB l = true ∧ digB l = true ∧ l.length ≤ 3) ∧ tl x = joinL [46] L := by
  obtain ⟨L, h1, h2, h3⟩ := h
  have h4 : ∀ l ∈ L, labB l = true ∧ numB l = true ∧ digB l = true ∧ l.length ≤ 3 := fun l hl => by
    obtain ⟨n, hn, rfl⟩ := h2 l hl
    have := num_ok n hn
    simp only [Bool.and_eq_true, decide_eq_true_eq] at this
    exact this
  refine ⟨L, ?_, h1, h4, h3⟩
  rw [h3, sp1_joinL (by intro e; rw [e] at h1; cases h1) fun p hp => dot_free (h4 p hp).1]
theorem AddrW.len {x : Str} (h : AddrW x) : x.length ≤ 16 := by
  obtain ⟨L, e, h1, h2, h3⟩ := h.parts
  rw [len_tl, h3]
  have := joinL_len (c := 46) (B := 3) L fun l hl => (h2 l hl).2.2.2
  omega
theorem AddrW.host {x : Str} (h : AddrW x) : hostB (tl x) = true ∧ digB (lastL (sp1 46 (tl x))) = true := by
  have hl := h.len
  obtain ⟨L, e, h1, h2, h3⟩ := h.parts
  have hz : digB (lastL L) = true := (h2 _ (lastL_mem (by intro e; rw [e] at h1; cases h1))).2.2.1
  rw [e]
  refine ⟨?_, hz⟩
  unfold hostB hostL
  rw [e, hz, decide_eq_true (by rw [← len_tl]; omega), decide_eq_true (by omega), List.all_eq_true.mpr fun l hl => (h2 l hl).1, List.all_eq_true.mpr fun l hl => (h2 l hl).2.1, decide_eq_true h1]
  rfl
/-- what a host is, for the law's own reckoning -/
theorem fit_due {h d : List Nat} (hh : hostB h = true) : fitB h d = (if digB (lastL (sp1 46 h)) = true then decide (sp1 46 h = sp1 46 d) else decide ((sp1 46 d).length ≤ (sp1 46 h).length) && decide ((sp1 46 h).drop ((sp1 46 h).length - (sp1 46 d).length) = sp1 46 d)) := by
  unfold fitB addrB
  rw [hh, Bool.true_and]
  cases hz : digB (lastL (sp1 46 h)) with
  | true =>
    rw [if_pos rfl, Bool.not_true, Bool.false_and, Bool.or_false, Bool.eq_iff_iff, decide_eq_true_eq, decide_eq_true_eq]
    exact ⟨fun e => by rw [e], fun e => by rw [← joinL_sp1 46 h, e, joinL_sp1]⟩
  | false =>
    rw [if_neg Bool.false_ne_true, Bool.not_false, Bool.true_and, Bool.eq_iff_iff, Bool.or_eq_true, Bool.and_eq_true, decide_eq_true_eq, decide_eq_true_eq, decide_eq_true_eq, List.isSuffixOf_iff_suffix]
    exact (sp1_suffix 46 h d).symm
end Kb
namespace Kb
open PySem PySem.Spec PyProof.Rows L2 TL
theorem digit_lsig : ∀ c ∈ lsig, Unicode.isDigit c = decide (c ∈ digs) := by decide +kernel
theorem isdigit_lab {z : Str} (h : labB (tl z) = true) : Txt.isdigit z = digB (tl z) := by
  unfold Txt.isdigit digB onlyB
  have hn := lab_ne h
  have h0 : decide (z.length > 0) = true := decide_eq_true (by rw [len_tl]; exact List.length_pos_iff.mpr hn)
  rw [h0, Bool.true_and, decide_eq_true hn, Bool.and_true, Bool.eq_iff_iff, Array.all_eq_true_iff_forall_mem, List.all_eq_true]
  constructor
  · intro q c hc
    rw [← digit_lsig c (lab_sign h hc)]
    exact q c (Array.mem_toList_iff.mp hc)
  · intro q c hc
    have hc := Array.mem_toList_iff.mpr hc
    rw [digit_lsig c (lab_sign h hc)]
    exact q c hc
theorem host_labels {x : Str} (h : hostB (tl x) = true) : ∀ l ∈ sp1 46 (tl x), labB l = true := by
  unfold hostB hostL at h
  simp only [Bool.and_eq_true, List.all_eq_true] at h
  exact h.2.2.1
theorem host_lt {x : Str} (h : hostB (tl x) = true) : ∀ s ∈ tl x, s < 1114112 := fun s hs => by
  have hl := host_labels h
  rw [← joinL_sp1 46 (tl x)] at hs
  have : ∀ L : List (List Nat), (∀ l ∈ L, labB l = true) → ∀ s ∈ joinL [46] L, s = 46 ∨ s ∈ lsig := by
    intro L
    induction L with
    | nil => intro _ s hs; cases hs
    | cons p L ih =>
      intro hL s hs
      cases L with
      | nil => exact .inr (lab_sign (hL p (List.mem_cons_self ..)) hs)
      | cons q r =>
        have hs : s ∈ p ++ (46 :: joinL [46] (q :: r)) := hs
        rcases List.mem_append.mp hs with a | a
        · exact .inr (lab_sign (hL p (List.mem_cons_self ..)) a)
        · rcases List.mem_cons.mp a with a | a
          · exact .inl a
          · exact ih (fun l hl => hL l (List.mem_cons_of_mem _ hl)) s a
  rcases this _ hl s hs with rfl | q
  · decide
  · have := lsig_lt q; omega
end Kb

namespace Kb
open PySem PySem.Spec PyProof.Rows L2 TL PySem.Builtin PySem.Builtin.Str
/-! ### what is stripped away of a text at both ends -/
theorem strip_none (x g : Str) : (Txt.stripChars x g = ("" : Str)) ↔ ∀ c ∈ tl x, c ∈ tl g := by
  unfold Txt.stripChars
  rw [stripBy_eq]
  have hc : ∀ c, g.cps.contains c = true ↔ c ∈ tl g := fun c => by
    unfold tl
    rw [← Array.contains_toList, List.contains_iff_mem]
  obtain ⟨l1, l2, l3⟩ := lo_facts g.cps.contains x
  obtain ⟨h1, h2, h3, h4⟩ := hi_facts g.cps.contains x _ l1
  generalize stripLo g.cps.contains true x = lo at *
  generalize stripHi g.cps.contains true x lo = hi at *
  have hx : x.length = (tl x).length := len_tl x
  have e0 : (strSub x lo hi = ("" : Str)) ↔ hi = lo := by
    constructor
    · intro e
      have : (strSub x lo hi).length = 0 := by rw [e]; decide +kernel
      simp [strSub, Str.length] at this
      have hx' : x.length = x.cps.size := rfl
      omega
    · intro e
      subst e
      apply ext_tl
      simp [strSub, tl]
      decide +kernel
  rw [e0]
  have gd : ∀ k, k < x.length → ∃ c, (tl x)[k]? = some c ∧ x.cps.getD k 0 = c := fun k hk => by
    refine ⟨x.cps.getD k 0, ?_, rfl⟩
    have hk' : k < x.cps.size := hk
    simp [tl, Array.getD, hk']
  constructor
  · intro e c hm
    obtain ⟨k, hk⟩ := List.mem_iff_getElem?.mp hm
    have hl : k < (tl x).length := by
      rw [List.getElem?_eq_some_iff] at hk
      exact hk.1
    rw [← hx] at hl
    obtain ⟨c', e1, e2⟩ := gd k hl
    rw [hk] at e1
    cases e1
    rw [← hc]
    by_cases q : k < lo
    · have := l2 k q; rw [e2] at this; exact this
    · have := h3 k (by omega) hl; rw [e2] at this; exact this
  · intro al
    have al' : ∀ k, k < x.length → g.cps.contains (x.cps.getD k 0) = true := fun k hk => by
      obtain ⟨c, e1, e2⟩ := gd k hk
      rw [e2, hc]
      exact al c (List.mem_of_getElem? e1)
    by_cases q : lo = x.length
    · omega
    · have := l3.resolve_left q
      rw [al' lo (by omega)] at this
      cases this
theorem strip_only (x g : Str) : (!decide (V.str x = V.str ("" : Str)) && decide (V.str (Txt.stripChars x g) = V.str ("" : Str))) = onlyB (tl g) (tl x) := by
  unfold onlyB
  rw [Bool.eq_iff_iff, Bool.and_eq_true, Bool.and_eq_true, Bool.not_eq_true', decide_eq_true_eq, decide_eq_true_eq, decide_eq_false_iff_not, List.all_eq_true]
  have e1 : (V.str x = V.str ("" : Str)) ↔ tl x = [] := ⟨fun q => by rw [V.str.inj q]; decide +kernel, fun q => by rw [show x = ("" : Str) from ext_tl (by rw [q]; decide +kernel)]⟩
  have e2 : (V.str (Txt.stripChars x g) = V.str ("" : Str)) ↔ ∀ c ∈ tl x, c ∈ tl g := by
    rw [← strip_none]
    exact ⟨fun q => V.str.inj q, fun q => by rw [q]⟩
  rw [e1, e2]
  constructor
  · rintro ⟨a, b⟩; exact ⟨fun c hc => decide_eq_true (b c hc), a⟩
  · rintro ⟨a, b⟩; exact ⟨b, fun c hc => of_decide_eq_true (a c hc)⟩
end Kb

namespace Kb
open PySem PySem.Spec PyProof.Rows L2 TL
/-! ### paths as lists of signs -/
/-- a sign that a path may have -/
def psign (c : Nat) : Bool := decide (33 ≤ c) && decide (c ≤ 126) && (decide (c ≠ 59) && decide (c ≠ 63) && decide (c ≠ 35)) && decide (c ≠ 37)
def pathB (l : List Nat) : Bool := decide (l.length ≤ 200) && ([47].isPrefixOf l && l.all psign)
def pfB (p q : List Nat) : Bool := decide (p = q) || (q.isPrefixOf p && ([47].isSuffixOf q || p[q.length]? == some 47))
/-- all in front of the last slash, or a slash -/
def dflt (l : List Nat) : List Nat := if joinL [47] (sp1 47 l).dropLast = [] then [47] else joinL [47] (sp1 47 l).dropLast
theorem tl_slash : tl ("/" : Str) = [47] := by decide +kernel
theorem slash_eq : ("/" : Str) = ⟨#[47]⟩ := ext_tl tl_slash
theorem dflt_cut {l a b : List Nat} (e : l = a ++ 47 :: b) (hb : 47 ∉ b) : dflt l = if a = [] then [47] else a := by
  unfold dflt
  have : (sp1 47 l).dropLast = sp1 47 a := by
    rw [e, sp1_app, sp1_of_free hb, List.dropLast_concat]
  rw [this, joinL_sp1]
theorem pathB_len {x : Str} (h : pathB (tl x) = true) : x.length ≤ 200 := by
  unfold pathB at h
  rw [Bool.and_eq_true, decide_eq_true_eq] at h
  rw [len_tl]; exact h.1
theorem pathB_head {x : Str} (h : pathB (tl x) = true) : ∃ r, tl x = 47 :: r := by
  unfold pathB at h
  rw [Bool.and_eq_true, Bool.and_eq_true, List.isPrefixOf_iff_prefix] at h
  obtain ⟨r, e⟩ := h.2.1
  exact ⟨r, e.symm⟩
/-- the signs a, b, the dot and the slash -/
def sgn4 (z : Str) : Bool := (tl z).all fun c => c == 47 || c == 97 || c == 98 || c == 46
def PathQ (m : Nat) (x : Str) : Prop := (∃ r, tl x = 47 :: r) ∧ sgn4 x = true ∧ x.length ≤ m
theorem sgn4_app {x y : Str} (h1 : sgn4 x = true) (h2 : sgn4 y = true) : sgn4 (x ++ y) = true := by
  unfold sgn4 at *
  rw [tl_append, List.all_append, h1, h2]; rfl
theorem PathQ.app {m k : Nat} {x y : Str} (h : PathQ m x) (h2 : sgn4 y = true) (h3 : y.length ≤ k) : PathQ (m + k) (x ++ y) := by
  obtain ⟨⟨r, e⟩, h1, h4⟩ := h
  refine ⟨⟨r ++ tl y, by rw [tl_append, e]; rfl⟩, sgn4_app h1 h2, ?_⟩
  rw [Str.length_append]; omega
theorem PathQ.more {m k : Nat} {x : Str} (h : PathQ m x) (e : m ≤ k) : PathQ k x := ⟨h.1, h.2.1, Nat.le_trans h.2.2 e⟩
theorem PathQ.path {m : Nat} {x : Str} (h : PathQ m x) (e : m ≤ 200) : pathB (tl x) = true := by
  obtain ⟨⟨r, e1⟩, h2, h3⟩ := h
  unfold pathB
  rw [decide_eq_true (by rw [len_tl] at h3; omega), Bool.true_and]
  have a : [47].isPrefixOf (tl x) = true := List.isPrefixOf_iff_prefix.mpr ⟨r, e1.symm⟩
  rw [a, Bool.true_and, List.all_eq_true]
  intro s hs
  unfold sgn4 at h2
  rw [List.all_eq_true] at h2
  have := h2 s hs
  simp only [Bool.or_eq_true, beq_iff_eq] at this
  rcases this with ((rfl | rfl) | rfl) | rfl <;> decide
/-- the default path: a part of it -/
theorem dflt_cases {l r : List Nat} (e : l = 47 :: r) : ∃ a b, l = a ++ 47 :: b ∧ 47 ∉ b ∧ ((a = [] ∧ dflt l = [47]) ∨ (a ≠ [] ∧ dflt l = a)) := by
  obtain ⟨a, b, e2, hb⟩ := last_cut (c := 47) (l := l) (by rw [e]; exact List.mem_cons_self ..)
  refine ⟨a, b, e2, hb, ?_⟩
  by_cases ha : a = []
  · exact .inl ⟨ha, by rw [dflt_cut e2 hb, if_pos ha]⟩
  · exact .inr ⟨ha, by rw [dflt_cut e2 hb, if_neg ha]⟩
theorem dflt_head {l r : List Nat} (e : l = 47 :: r) : ∃ r2, dflt l = 47 :: r2 := by
  obtain ⟨a, b, e2, hb, (⟨ha, h⟩ | ⟨ha, h⟩)⟩ := dflt_cases e
  · exact ⟨[], h⟩
  · rw [h]
    obtain ⟨x, a2, rfl⟩ := List.exists_cons_of_ne_nil ha
    rw [e] at e2
    simp only [List.cons_append, List.cons.injEq] at e2
    exact ⟨a2, by rw [← e2.1]⟩
theorem dflt_sub {l r : List Nat} (e : l = 47 :: r) : (dflt l).length ≤ l.length ∧ ∀ c ∈ dflt l, c ∈ l := by
  obtain ⟨a, b, e2, hb, (⟨ha, h⟩ | ⟨ha, h⟩)⟩ := dflt_cases e
  · rw [h, e]
    exact ⟨by simp, fun c hc => by rw [List.mem_singleton.mp hc]; exact List.mem_cons_self ..⟩
  · rw [h, e2]
    exact ⟨by simp, fun c hc => List.mem_append_left _ hc⟩
theorem dflt_less {l r : List Nat} (e : l = 47 :: r) (h0 : l ≠ [47]) : (dflt l).length < l.length := by
  obtain ⟨a, b, e2, hb, (⟨ha, h⟩ | ⟨ha, h⟩)⟩ := dflt_cases e
  · rw [h, e2, ha]
    cases b with
    | nil => exact absurd (by rw [e2, ha]; rfl) h0
    | cons x b => simp
  · rw [h, e2]; simp
theorem PathQ.dflt {m : Nat} {x y : Str} (h : PathQ m x) (e : tl y = dflt (tl x)) : PathQ m y := by
  obtain ⟨⟨r, e1⟩, h2, h3⟩ := h
  obtain ⟨h4, h5⟩ := dflt_sub e1
  obtain ⟨r2, e2⟩ := dflt_head e1
  refine ⟨⟨r2, by rw [e, e2]⟩, ?_, ?_⟩
  · unfold sgn4 at *
    rw [List.all_eq_true] at *
    intro c hc
    rw [e] at hc
    exact h2 c (h5 c hc)
  · rw [len_tl, e]
    rw [len_tl] at h3
    omega
/-! ### to fit is an order -/
theorem pf_iff {p q : List Nat} : pfB p q = true ↔ p = q ∨ (q <+: p ∧ ((∃ r, q = r ++ [47]) ∨ p[q.length]? = some 47)) := by
  unfold pfB
  rw [Bool.or_eq_true, Bool.and_eq_true, Bool.or_eq_true, decide_eq_true_eq, List.isPrefixOf_iff_prefix, List.isSuffixOf_iff_suffix, beq_iff_eq]
  constructor
  · rintro (h | ⟨h, (⟨r, e⟩ | h2)⟩)
    · exact .inl h
    · exact .inr ⟨h, .inl ⟨r, e.symm⟩⟩
    · exact .inr ⟨h, .inr h2⟩
  · rintro (h | ⟨h, (⟨r, e⟩ | h2)⟩)
    · exact .inl h
    · exact .inr ⟨h, .inl ⟨r, e.symm⟩⟩
    · exact .inr ⟨h, .inr h2⟩
theorem pf_self (p : List Nat) : pfB p p = true := pf_iff.mpr (.inl rfl)
theorem pf_slash {p r : List Nat} (e : p = 47 :: r) : pfB p [47] = true := pf_iff.mpr (.inr ⟨⟨r, e.symm⟩, .inl ⟨[], rfl⟩⟩)
theorem pf_pre {p q : List Nat} (h : pfB p q = true) : q <+: p := by
  rcases pf_iff.mp h with rfl | h
  · exact List.prefix_refl _
  · exact h.1
theorem pf_anti {p q : List Nat} (h : pfB p q = true) (k : pfB q p = true) : p = q := by
  have a := pf_pre h
  have b := pf_pre k
  exact b.eq_of_length (Nat.le_antisymm b.length_le a.length_le)
theorem pre_at {p q : List Nat} (h : q <+: p) {i : Nat} (hi : i < q.length) : p[i]? = q[i]? := by
  obtain ⟨r, rfl⟩ := h
  rw [List.getElem?_append_left hi]
theorem pf_trans {p q r : List Nat} (h : pfB p q = true) (k : pfB q r = true) : pfB p r = true := by
  rcases pf_iff.mp k with rfl | ⟨k1, k2⟩
  · exact h
  have a := pf_pre h
  refine pf_iff.mpr (.inr ⟨k1.trans a, ?_⟩)
  rcases k2 with k2 | k2
  · exact .inl k2
  · have : r.length < q.length := by
      have := (List.getElem?_eq_some_iff.mp k2).1
      exact this
    exact .inr (by rw [pre_at a this]; exact k2)
theorem pf_comp {p q r : List Nat} (h : pfB p q = true) (k : pfB p r = true) (hl : q.length ≤ r.length) : pfB r q = true := by
  have a := pf_pre h
  have b := pf_pre k
  have c : q <+: r := List.prefix_of_prefix_length_le a b hl
  rcases Nat.lt_or_ge q.length r.length with g | g
  · rcases pf_iff.mp h with rfl | ⟨_, h2⟩
    · have := b.length_le
      omega
    · refine pf_iff.mpr (.inr ⟨c, ?_⟩)
      rcases h2 with h2 | h2
      · exact .inl h2
      · exact .inr (by rw [← pre_at b g]; exact h2)
  · exact pf_iff.mpr (.inl (c.eq_of_length (Nat.le_antisymm hl g)).symm)
theorem pf_dflt {p r : List Nat} (e : p = 47 :: r) : pfB p (dflt p) = true := by
  obtain ⟨a, b, e2, hb, (⟨ha, h⟩ | ⟨ha, h⟩)⟩ := dflt_cases e
  · rw [h]; exact pf_slash e
  · rw [h]
    exact pf_iff.mpr (.inr ⟨⟨47 :: b, e2.symm⟩, .inr (by rw [e2]; simp)⟩)
end Kb

namespace Kb
open PySem PySem.Spec PyProof.Rows L2
/-! ### a tuple times one -/
theorem tuple_mul1 (l : Addr) (items : Array Value) (n : Nat) (dd : Option Addr) (sl : Array (Option Value)) (u : Tok) :
    Meets (Builtin.«tuple.__mul__» ⟨[.ref l, .int 1 u], []⟩) (fun _ R s => s.heap.get? l = some { cls := .type "tuple", dict := dd, data := .seq items n, slots := sl } ∧
      R (.ok (.ret (Value.ref l))) s) :=
  .of_wp fun prog w A R s h => by
    obtain ⟨hp, g, d, tk, os⟩ := s
    obtain ⟨hl, h⟩ := h
    have f1 := AutoSeq1.idx_int
    have c1 : (items.isEmpty || (1 : Int) == 1) = true := by simp
    wp_walk using wpAny_loadPart' hl
    repeat (first
      | (refine wpAny_ite_false (decide_eq_false (by decide)) ?_; wp_walk using wpAny_loadPart' hl)
      | (refine wpAny_ite_true (decide_eq_true (by exact c1)) ?_; wp_walk using wpAny_loadPart' hl))
    all_goals first | exact ⟨_, rfl, h⟩ | skip
def rRep1 (K : PySem.W.Frag) : R2 := fun x y H Q => ∃ l xs, x = .ref l ∧ y = .int 1 ∧ SqT K H l xs ∧ Q (.ref l) H
section
variable {X : Cx}
theorem op_rep1 : OpR X (binaryOp .Mult) (rRep1 X.K) := by
  intro pins s σ H x y v u Q I rx ry h
  obtain ⟨l, xs, rfl, rfl, hT, q⟩ := h
  cases rx
  obtain ⟨t, rfl⟩ := ry
  obtain ⟨its, r, ⟨⟨cls, dd, data, sl⟩, ho, hc, n, hd⟩, hs⟩ := I.tuple hT
  simp only at hc hd
  subst hc hd
  refine wpAny_binaryOp_repeat_ref (T := "tuple") (U := "int") (by decide) ⟨_, ho, rfl⟩ (fun s' => typeIs_int s' 1 t) noFill_tuple_mul F.fills_int_mul F.slot_int_rmul repeat_tuple F.slot_int_index.lookup
    (call_meets F.slot_int_rmul (typeIs_int s 1 t) F.entry_int_rmul (F.args_int_rmul_2 _ _) (int_rmul_tuple 1 t l its.toArray n dd sl)
      ⟨ho, rfl, ⟨_, ho, rfl⟩, call_meets F.slot_tuple_mul ⟨_, ho, rfl⟩ F.entry_tuple_mul (F.args_tuple_mul_2 _ _) (tuple_mul1 l its.toArray n dd sl t) ⟨ho, ?_⟩⟩)
  exact ⟨.ref l, H, I, rfl, q⟩
end
end Kb

namespace Kb
open PySem PySem.Spec PyProof.Rows L2 TL PySem.StrLaws Builtin.Str
/-! ### partition, removeprefix, count -/
theorem partition_behind {x : Str} {c : Nat} {a b : List Nat} (e : tl x = a ++ c :: b) (ha : c ∉ a) : tl (Txt.partition x ⟨#[c]⟩).2.2 = b := by
  have hy : tl (⟨#[c]⟩ : Str) ≠ [] := by simp [tl]
  have at' : ∀ i, At x ⟨#[c]⟩ x.length i ↔ (tl x)[i]? = some c := fun i => by
    rw [at_iff hy]
    show (((tl x).drop i).take 1 == [c]) = true ↔ _
    exact take1_drop
  have hit : At x ⟨#[c]⟩ x.length a.length := (at' _).mpr (by rw [e]; simp)
  have key : ∀ i, At x ⟨#[c]⟩ x.length i → (∀ k, k < i → ¬ At x ⟨#[c]⟩ x.length k) → i = a.length := fun i h1 h2 => by
    rcases Nat.lt_trichotomy i a.length with q | q | q
    · have g := (at' i).mp h1
      rw [e, List.getElem?_append_left q] at g
      exact absurd (List.mem_of_getElem? g) ha
    · exact q
    · exact absurd hit (h2 _ q)
  have fw := find_whole x ⟨#[c]⟩
  unfold Txt.find at fw
  unfold Txt.partition
  cases ho : occurrences x ⟨#[c]⟩ 0 x.length 1 with
  | nil =>
    rw [ho] at fw
    rcases fw with ⟨_, h⟩ | ⟨i, e1, _⟩
    · exact absurd hit (h _)
    · simp only at e1; omega
  | cons j r =>
    rw [ho] at fw
    rcases fw with ⟨e1, _⟩ | ⟨i, e1, h1, h2⟩
    · simp only at e1; omega
    · simp only at e1
      have hj : j = a.length := (Int.ofNat_inj.mp e1) ▸ key i h1 h2
      show tl (strSub x (j + 1) x.length) = b
      rw [tl_strSub, hj, e, len_tl, e]
      rw [show a ++ c :: b = (a ++ [c]) ++ b by simp, List.drop_left' (by simp)]
      rw [List.take_of_length_le (by simp; omega)]
theorem partition_none {x : Str} {c : Nat} (h : c ∉ tl x) : tl (Txt.partition x ⟨#[c]⟩).2.2 = [] := by
  have hy : tl (⟨#[c]⟩ : Str) ≠ [] := by simp [tl]
  have at' : ∀ i, At x ⟨#[c]⟩ x.length i ↔ (tl x)[i]? = some c := fun i => by
    rw [at_iff hy]
    show (((tl x).drop i).take 1 == [c]) = true ↔ _
    exact take1_drop
  have fw := find_whole x ⟨#[c]⟩
  unfold Txt.find at fw
  unfold Txt.partition
  cases ho : occurrences x ⟨#[c]⟩ 0 x.length 1 with
  | nil => rfl
  | cons j r =>
    rw [ho] at fw
    rcases fw with ⟨e1, _⟩ | ⟨i, e1, h1, h2⟩
    · simp only at e1; omega
    · exact absurd (List.mem_of_getElem? ((at' i).mp h1)) h
theorem removeprefix_hit {x y : Str} {b : List Nat} (e : tl x = tl y ++ b) : tl (Txt.removeprefix x y) = b := by
  unfold Txt.removeprefix
  have hs : subAt x y 0 = true := by
    rw [subAt_eq, List.drop_zero]
    show (List.take y.length (tl x) == tl y) = true
    rw [e, len_tl, List.take_left, beq_iff_eq]
  rw [if_pos hs]
  show tl (if x.length - y.length == x.length then x else strSub x y.length x.length) = b
  by_cases h0 : y.length = 0
  · rw [if_pos (by simp [h0])]
    rw [len_tl] at h0
    rw [e, List.eq_nil_of_length_eq_zero h0, List.nil_append]
  · have hx : x.length = y.length + b.length := by rw [len_tl, e, List.length_append, ← len_tl]
    rw [if_neg (by simp; omega), tl_strSub_end, e, len_tl, List.drop_left]
theorem removeprefix_miss {x y : Str} (h : ¬ tl y <+: tl x) : Txt.removeprefix x y = x := by
  unfold Txt.removeprefix
  rw [if_neg]
  · rfl
  · intro hs
    rw [subAt_eq, List.drop_zero] at hs
    have hs : (List.take y.length (tl x) == tl y) = true := hs
    exact h ((beq_iff_eq.mp hs) ▸ List.take_prefix _ _)
theorem count_sp1 (x : Str) (c : Nat) : Txt.count x ⟨#[c]⟩ + 1 = ((sp1 c (tl x)).length : Int) := by
  rw [count_cnt]
  show cnt c (tl x) + 1 = _
  generalize tl x = l
  induction l with
  | nil => rfl
  | cons y l ih =>
    rw [cnt_cons]
    by_cases h : y = c
    · subst h
      rw [sp1_hit, if_pos rfl, List.length_cons]
      push_cast
      omega
    · obtain ⟨p, r, e⟩ := sp1_cons c l
      rw [sp1_miss h e, if_neg h]
      rw [e] at ih
      rw [List.length_cons] at ih ⊢
      omega
end Kb
namespace Kb
open PySem PySem.Spec PyProof.Rows L2 TL
/-! ### rules, and the suffixes that they give, by labels -/
def excT (t : List Nat) : Bool := decide (t.head? = some 33)
def patT (t : List Nat) : List Nat := if excT t then t.tail else t
def ruleB (t : List Nat) : Bool :=
  if excT t then decide (1 < (sp1 46 t.tail).length) && (sp1 46 t.tail).all labB
  else (sp1 46 (if [42, 46].isPrefixOf t then t.drop 2 else t)).all labB
def patL (t : List Nat) : List (List Nat) := sp1 46 (patT t)
def lastN {α : Type} (n : Nat) (w : List α) : List α := w.drop (w.length - n)
def mtL (P w : List (List Nat)) : Bool := decide (P.length ≤ w.length) && (if P.head? = some [42] then decide ((lastN P.length w).tail = P.tail) else decide (lastN P.length w = P))
def bigN (b : Nat) (q : List Nat → Bool) : List (List Nat) → Nat
  | [] => b
  | t :: rs => bigN (if q t then max b (patL t).length else b) q rs
def excN (rs w : List (List Nat)) : Nat := bigN 0 (fun t => excT t && mtL (patL t) w) rs
def lonN (rs w : List (List Nat)) : Nat := bigN 1 (fun t => !excT t && mtL (patL t) w) rs
def sufN (rs w : List (List Nat)) : Nat := if 0 < excN rs w then excN rs w - 1 else lonN rs w
def famL (rs w : List (List Nat)) : List (List Nat) := lastN ((lastN (sufN rs w) w).length + 1) w
section
variable {α : Type}
theorem lastN_len (n : Nat) (w : List α) : (lastN n w).length = min n w.length := by
  unfold lastN; rw [List.length_drop]; omega
theorem lastN_all {n : Nat} {w : List α} (h : w.length ≤ n) : lastN n w = w := by
  unfold lastN; rw [show w.length - n = 0 by omega, List.drop_zero]
theorem lastN_lastN {n m : Nat} {w : List α} (h : n ≤ m) : lastN n (lastN m w) = lastN n w := by
  unfold lastN; rw [List.drop_drop, List.length_drop]; congr 1; omega
theorem lastN_cons {n : Nat} {x : α} {w : List α} (h : n ≤ w.length) : lastN n (x :: w) = lastN n w := by
  unfold lastN
  rw [List.length_cons, show w.length + 1 - n = (w.length - n) + 1 by omega, List.drop_succ_cons]
theorem lastN_mem {n : Nat} {w : List α} {x : α} (h : x ∈ lastN n w) : x ∈ w := List.mem_of_mem_drop h
theorem lastN_min {n : Nat} {w : List α} : lastN (min n w.length) w = lastN n w := by
  unfold lastN; congr 1; omega
end
theorem cutV_last (xs : List V) {n : Nat} (h : 1 ≤ n) : cutV xs (some (-(n : Int))) none = lastN n xs := by
  show (xs.drop (HT.sIx xs.length 0 (some (-(n : Int))))).take (HT.sIx xs.length xs.length none - HT.sIx xs.length 0 (some (-(n : Int)))) = _
  have e : HT.sIx xs.length 0 (some (-(n : Int))) = xs.length - n := by
    show (if (-(n : Int)) < 0 then ((-(n : Int)) + (xs.length : Int)).toNat else min (-(n : Int)).toNat xs.length) = _
    rw [if_pos (by omega)]
    omega
  rw [e, HT.sIx_none]
  exact List.take_of_length_le (by rw [List.length_drop] <;> omega)
/-! #### the greatest of sizes -/
theorem bigN_ge (q : List Nat → Bool) : ∀ (rs : List (List Nat)) (b : Nat), b ≤ bigN b q rs
  | [], b => Nat.le_refl _
  | t :: rs, b => by
    show b ≤ bigN _ q rs
    refine Nat.le_trans ?_ (bigN_ge q rs _)
    split <;> omega
theorem bigN_mem (q : List Nat → Bool) : ∀ (rs : List (List Nat)) (b : Nat) (t : List Nat), t ∈ rs → q t = true → (patL t).length ≤ bigN b q rs
  | r :: rs, b, t, h, hq => by
    show _ ≤ bigN _ q rs
    rcases List.mem_cons.mp h with e | e
    · subst e
      have := bigN_ge q rs (if q t then max b (patL t).length else b)
      rw [if_pos hq] at this ⊢
      omega
    · exact bigN_mem q rs _ t e hq
theorem bigN_cases (q : List Nat → Bool) : ∀ (rs : List (List Nat)) (b : Nat), bigN b q rs = b ∨ ∃ t ∈ rs, q t = true ∧ bigN b q rs = (patL t).length
  | [], b => .inl rfl
  | r :: rs, b => by
    show bigN _ q rs = b ∨ _
    by_cases hq : q r = true
    · rcases bigN_cases q rs (max b (patL r).length) with e | ⟨t, h1, h2, h3⟩
      · rcases Nat.le_total (patL r).length b with g | g
        · left; rw [if_pos hq, e]; omega
        · right; exact ⟨r, List.mem_cons_self .., hq, by show bigN _ q rs = _; rw [if_pos hq, e]; omega⟩
      · right; exact ⟨t, List.mem_cons_of_mem _ h1, h2, by show bigN _ q rs = _; rw [if_pos hq, h3]⟩
    · rw [if_neg hq]
      rcases bigN_cases q rs b with e | ⟨t, h1, h2, h3⟩
      · exact .inl e
      · right; exact ⟨t, List.mem_cons_of_mem _ h1, h2, by show bigN _ q rs = _; rw [if_neg hq, h3]⟩
theorem bigN_congr {q q' : List Nat → Bool} : ∀ {rs : List (List Nat)} {b : Nat}, (∀ t ∈ rs, q t = q' t) → bigN b q rs = bigN b q' rs
  | [], b, _ => rfl
  | r :: rs, b, h => by
    show bigN _ q rs = bigN _ q' rs
    rw [h r (List.mem_cons_self ..)]
    exact bigN_congr fun t ht => h t (List.mem_cons_of_mem _ ht)
theorem bigN_snoc (q : List Nat → Bool) : ∀ (rs : List (List Nat)) (b : Nat) (t : List Nat), bigN b q (rs ++ [t]) = if q t then max (bigN b q rs) (patL t).length else bigN b q rs
  | [], b, t => rfl
  | r :: rs, b, t => by
    show bigN _ q (rs ++ [t]) = _
    rw [bigN_snoc q rs]
    rfl
/-! #### what a match tells -/
theorem mtL_len {P w : List (List Nat)} (h : mtL P w = true) : P.length ≤ w.length := by
  unfold mtL at h
  rw [Bool.and_eq_true, decide_eq_true_eq] at h
  exact h.1
theorem mtL_lastN {P w : List (List Nat)} {k : Nat} (hk : k ≤ w.length) : mtL P (lastN k w) = (decide (P.length ≤ k) && mtL P w) := by
  unfold mtL
  rw [lastN_len, Nat.min_eq_left hk]
  by_cases h : P.length ≤ k
  · rw [lastN_lastN h, decide_eq_true h, decide_eq_true (Nat.le_trans h hk)]
    rfl
  · rw [decide_eq_false h]; rfl
theorem excT_len {t : List Nat} (hr : ruleB t = true) (h : excT t = true) : 2 ≤ (patL t).length := by
  unfold ruleB at hr
  rw [if_pos h, Bool.and_eq_true, decide_eq_true_eq] at hr
  unfold patL patT
  rw [if_pos h]
  exact hr.1
theorem excN_ge {rs w : List (List Nat)} (hr : ∀ t ∈ rs, ruleB t = true) (h : 0 < excN rs w) : 2 ≤ excN rs w ∧ excN rs w ≤ w.length := by
  unfold excN at h ⊢
  rcases bigN_cases (fun t => excT t && mtL (patL t) w) rs 0 with e | ⟨t, h1, h2, h3⟩
  · omega
  · rw [h3]
    simp only [Bool.and_eq_true] at h2
    exact ⟨excT_len (hr t h1) h2.1, mtL_len h2.2⟩
theorem lonN_ge {rs w : List (List Nat)} (hw : w ≠ []) : 1 ≤ lonN rs w ∧ lonN rs w ≤ w.length := by
  have h0 : 0 < w.length := List.length_pos_iff.mpr hw
  unfold lonN
  refine ⟨bigN_ge _ _ _, ?_⟩
  rcases bigN_cases (fun t => !excT t && mtL (patL t) w) rs 1 with e | ⟨t, h1, h2, h3⟩
  · omega
  · rw [h3]
    simp only [Bool.and_eq_true] at h2
    exact mtL_len h2.2
theorem sufN_ge {rs w : List (List Nat)} (hr : ∀ t ∈ rs, ruleB t = true) (hw : w ≠ []) : 1 ≤ sufN rs w ∧ sufN rs w ≤ w.length := by
  unfold sufN
  split
  · next h => have := excN_ge hr h; omega
  · exact lonN_ge hw
theorem famL_eq {rs w : List (List Nat)} (hr : ∀ t ∈ rs, ruleB t = true) (hw : w ≠ []) : famL rs w = lastN (sufN rs w + 1) w := by
  unfold famL
  have := sufN_ge hr hw
  rw [lastN_len, Nat.min_eq_left this.2]
/-- the last labels, if they are no fewer than the family's, have the same suffix -/
theorem sufN_lastN {rs w : List (List Nat)} {k : Nat} (hr : ∀ t ∈ rs, ruleB t = true) (hw : w ≠ []) (hk : k ≤ w.length) (h : min (sufN rs w + 1) w.length ≤ k) : sufN rs (lastN k w) = sufN rs w := by
  have e1 : excN rs (lastN k w) = excN rs w := by
    unfold excN
    refine bigN_congr fun t ht => ?_
    rw [mtL_lastN hk]
    cases hx : excT t <;> cases hm : mtL (patL t) w
    · rfl
    · rfl
    · rw [Bool.and_false]
    · have g : (patL t).length ≤ excN rs w := bigN_mem _ rs 0 t ht (by simp [hx, hm])
      have g0 := excT_len (hr t ht) hx
      have g1 := excN_ge hr (w := w) (rs := rs) (by omega)
      have g2 : sufN rs w = excN rs w - 1 := by unfold sufN; rw [if_pos (by omega)]
      rw [decide_eq_true (by omega)]; rfl
  unfold sufN
  rw [e1]
  by_cases h0 : 0 < excN rs w
  · rw [if_pos h0, if_pos h0]
  · rw [if_neg h0, if_neg h0]
    unfold lonN
    refine bigN_congr fun t ht => ?_
    rw [mtL_lastN hk]
    cases hx : excT t <;> cases hm : mtL (patL t) w
    · rw [Bool.and_false]
    · have g : (patL t).length ≤ lonN rs w := bigN_mem _ rs 1 t ht (by simp [hx, hm])
      have g2 : sufN rs w = lonN rs w := by unfold sufN; rw [if_neg h0]
      have := mtL_len hm
      rw [decide_eq_true (by omega)]; rfl
    · rfl
    · rfl
/-- hosts that hold the family have this family, others have another one -/
theorem famL_part {rs w : List (List Nat)} {k : Nat} (hr : ∀ t ∈ rs, ruleB t = true) (hw : w ≠ []) (hk0 : 1 ≤ k) (hk : k ≤ w.length) : decide (famL rs (lastN k w) = famL rs w) = decide ((famL rs w).length ≤ k) := by
  have hn : lastN k w ≠ [] := fun e => by have := lastN_len k w; rw [e] at this; simp at this; omega
  rw [famL_eq hr hn, famL_eq hr hw, lastN_len]
  rw [Bool.eq_iff_iff, decide_eq_true_eq, decide_eq_true_eq]
  constructor
  · intro e
    have := congrArg List.length e
    rw [lastN_len, lastN_len, lastN_len] at this
    omega
  · intro h
    rw [sufN_lastN hr hw hk h]
    by_cases g : sufN rs w + 1 ≤ k
    · exact lastN_lastN g
    · rw [lastN_all (n := k) (by omega)]
theorem famL_idem {rs w : List (List Nat)} (hr : ∀ t ∈ rs, ruleB t = true) (hw : w ≠ []) : famL rs (famL rs w) = famL rs w := by
  have h1 := sufN_ge hr hw
  have h0 : 0 < w.length := List.length_pos_iff.mpr hw
  have e : famL rs w = lastN (min (sufN rs w + 1) w.length) w := by rw [lastN_min]; exact famL_eq hr hw
  have := famL_part (k := min (sufN rs w + 1) w.length) hr hw (by omega) (by omega)
  rw [← e] at this
  rw [← decide_eq_true_iff (p := famL rs (famL rs w) = famL rs w), this, decide_eq_true_iff, e, lastN_len]
  omega
/-- a rule that does not match changes nothing -/
theorem sufN_snoc {rs w : List (List Nat)} {t : List Nat} (h : mtL (patL t) w = false) : sufN (rs ++ [t]) w = sufN rs w := by
  unfold sufN excN lonN
  rw [bigN_snoc, bigN_snoc]
  simp only [h, Bool.and_false, Bool.false_eq_true, if_false]
end Kb
namespace Kb
open PySem PySem.Spec PyProof.Rows L2 TL
/-! #### a label in front -/
theorem mtL_cons {P w : List (List Nat)} {y : List Nat} (h : P.length ≤ w.length) : mtL P (y :: w) = mtL P w := by
  unfold mtL
  rw [lastN_cons h, decide_eq_true h, List.length_cons, decide_eq_true (by omega)]
theorem lonN_below (rs w : List (List Nat)) (y : List Nat) : lonN rs (y :: w) = lonN rs w ∨ lonN rs (y :: w) = w.length + 1 := by
  have up : lonN rs w ≤ lonN rs (y :: w) := by
    unfold lonN
    rcases bigN_cases (fun t => !excT t && mtL (patL t) w) rs 1 with e | ⟨t, h1, h2, h3⟩
    · rw [e]; exact bigN_ge _ _ _
    · rw [h3]
      simp only [Bool.and_eq_true] at h2
      exact bigN_mem _ rs 1 t h1 (by simp only [Bool.and_eq_true]; exact ⟨h2.1, by rw [mtL_cons (mtL_len h2.2)]; exact h2.2⟩)
  have lo : 1 ≤ lonN rs w := bigN_ge _ _ _
  rcases bigN_cases (fun t => !excT t && mtL (patL t) (y :: w)) rs 1 with e | ⟨t, h1, h2, h3⟩
  · left
    have e : lonN rs (y :: w) = 1 := e
    omega
  · simp only [Bool.and_eq_true] at h2
    have h3 : lonN rs (y :: w) = (patL t).length := h3
    have hl := mtL_len h2.2
    rw [List.length_cons] at hl
    by_cases g : (patL t).length ≤ w.length
    · left
      have : (patL t).length ≤ lonN rs w := bigN_mem _ rs 1 t h1 (by simp only [Bool.and_eq_true]; exact ⟨h2.1, by rw [← mtL_cons (y := y) g]; exact h2.2⟩)
      omega
    · right; omega
theorem excN_below {rs w : List (List Nat)} {y : List Nat} (h : ∀ t ∈ rs, excT t = true → (patL t).head? ≠ some [42] ∧ y ∉ patL t) : excN rs (y :: w) = excN rs w := by
  unfold excN
  refine bigN_congr fun t ht => ?_
  cases hx : excT t
  · rfl
  · obtain ⟨h1, h2⟩ := h t ht hx
    by_cases g : (patL t).length ≤ w.length
    · rw [mtL_cons g]
    · have e : mtL (patL t) w = false := by unfold mtL; rw [decide_eq_false g]; rfl
      rw [e]
      unfold mtL
      rw [if_neg h1]
      by_cases g2 : (patL t).length ≤ (y :: w).length
      · rw [List.length_cons] at g2
        rw [lastN_all (by rw [List.length_cons]; omega), decide_eq_false (p := y :: w = patL t) fun e => h2 (e ▸ List.mem_cons_self ..), Bool.and_false]
      · rw [decide_eq_false g2]; rfl
theorem famL_below {rs w : List (List Nat)} {y : List Nat} (hr : ∀ t ∈ rs, ruleB t = true) (hw : w ≠ []) (h : ∀ t ∈ rs, excT t = true → (patL t).head? ≠ some [42] ∧ y ∉ patL t) :
    (famL rs (y :: w) = famL rs w ∨ famL rs (y :: w) = y :: w) ∧ (sufN rs w = w.length → famL rs (y :: w) = y :: w) := by
  have e1 := excN_below (w := w) h
  have n1 := sufN_ge hr hw
  rw [famL_eq hr hw, famL_eq hr (List.cons_ne_nil y w)]
  by_cases h0 : 0 < excN rs w
  · have g := excN_ge hr h0
    have e2 : sufN rs w = excN rs w - 1 := by unfold sufN; rw [if_pos h0]
    have e3 : sufN rs (y :: w) = excN rs w - 1 := by unfold sufN; rw [e1, if_pos h0]
    rw [e2, e3, lastN_cons (by omega)]
    exact ⟨.inl rfl, fun q => by omega⟩
  · have e2 : sufN rs w = lonN rs w := by unfold sufN; rw [if_neg h0]
    have e3 : sufN rs (y :: w) = lonN rs (y :: w) := by unfold sufN; rw [e1, if_neg h0]
    rw [e3]
    rcases lonN_below rs w y with e | e
    · rw [e, ← e2]
      by_cases g : sufN rs w + 1 ≤ w.length
      · rw [lastN_cons g]
        exact ⟨.inl rfl, fun q => by omega⟩
      · rw [lastN_all (w := y :: w) (by rw [List.length_cons]; omega)]
        exact ⟨.inr rfl, fun _ => rfl⟩
    · rw [e, lastN_all (w := y :: w) (by rw [List.length_cons]; omega)]
      exact ⟨.inr rfl, fun _ => rfl⟩
end Kb
namespace Kb
open PySem PySem.Spec PyProof.Rows L2 TL
/-! ### drawn rules over a, b and c -/
def abc (l : List Nat) : Prop := l = [97] ∨ l = [98] ∨ l = [99]
def GenR (t : List Nat) : Prop := ∃ L : List (List Nat), L ≠ [] ∧ L.length ≤ 4 ∧ (∀ l ∈ L, abc l) ∧ (t = joinL [46] L ∨ t = 42 :: 46 :: joinL [46] L ∨ (2 ≤ L.length ∧ t = 33 :: joinL [46] L))
theorem abc_wlab {l : List Nat} (h : abc l) : wlab l = true := by rcases h with rfl | rfl | rfl <;> decide
theorem abc_lab {l : List Nat} (h : abc l) : labB l = true := (wlab_lab (abc_wlab h)).1
theorem abc_len {l : List Nat} (h : abc l) : l.length ≤ 1 := by rcases h with rfl | rfl | rfl <;> decide
theorem abc_head {L : List (List Nat)} (hL : L ≠ []) (h : ∀ l ∈ L, abc l) : ∃ a r, joinL [46] L = a :: r ∧ a ≠ 33 ∧ a ≠ 42 := by
  obtain ⟨l, r, rfl⟩ := List.exists_cons_of_ne_nil hL
  have h1 := h l (List.mem_cons_self ..)
  have e : ∀ z, ∃ s, joinL [46] ([z] :: r) = z :: s := fun z => by
    cases r with
    | nil => exact ⟨[], rfl⟩
    | cons q r => exact ⟨_, rfl⟩
  rcases h1 with rfl | rfl | rfl
  · obtain ⟨s, e⟩ := e 97; exact ⟨97, s, e, by decide, by decide⟩
  · obtain ⟨s, e⟩ := e 98; exact ⟨98, s, e, by decide, by decide⟩
  · obtain ⟨s, e⟩ := e 99; exact ⟨99, s, e, by decide, by decide⟩
theorem abc_sp1 {L : List (List Nat)} (hL : L ≠ []) (h : ∀ l ∈ L, abc l) : sp1 46 (joinL [46] L) = L := sp1_joinL hL fun l hl => dot_free (abc_lab (h l hl))
theorem GenR.cases {t : List Nat} (h : GenR t) : ∃ L : List (List Nat), L ≠ [] ∧ L.length ≤ 4 ∧ (∀ l ∈ L, abc l) ∧ ((excT t = false ∧ t = joinL [46] L ∧ patL t = L) ∨ (excT t = false ∧ t = 42 :: 46 :: joinL [46] L ∧ patL t = [42] :: L) ∨ (excT t = true ∧ 2 ≤ L.length ∧ t = 33 :: joinL [46] L ∧ patL t = L)) := by
  obtain ⟨L, h1, h2, h3, h4⟩ := h
  refine ⟨L, h1, h2, h3, ?_⟩
  rcases h4 with rfl | rfl | ⟨h4, rfl⟩
  · left
    obtain ⟨a, r, e, e1, e2⟩ := abc_head h1 h3
    have hx : excT (joinL [46] L) = false := by unfold excT; rw [e]; exact decide_eq_false (by simpa using e1)
    refine ⟨hx, rfl, ?_⟩
    unfold patL patT
    rw [hx]
    exact abc_sp1 h1 h3
  · right; left
    refine ⟨rfl, rfl, ?_⟩
    show sp1 46 ([42] ++ 46 :: joinL [46] L) = _
    rw [sp1_app, abc_sp1 h1 h3]
    rfl
  · right; right
    refine ⟨rfl, h4, rfl, ?_⟩
    exact abc_sp1 h1 h3
theorem GenR.rule {t : List Nat} (h : GenR t) : ruleB t = true := by
  obtain ⟨L, h1, h2, h3, h4⟩ := h.cases
  have all : L.all labB = true := List.all_eq_true.mpr fun l hl => abc_lab (h3 l hl)
  unfold ruleB
  rcases h4 with ⟨hx, e, hp⟩ | ⟨hx, e, hp⟩ | ⟨hx, h5, e, hp⟩
  · rw [hx, e]
    obtain ⟨a, r, ea, e1, e2⟩ := abc_head h1 h3
    have : [42, 46].isPrefixOf (joinL [46] L) = false := by
      rw [ea]
      show ((42 == a) && _) = false
      rw [beq_eq_false_iff_ne.mpr (Ne.symm e2), Bool.false_and]
    rw [this]
    simp only [Bool.false_eq_true, if_false]
    rw [abc_sp1 h1 h3]
    exact all
  · rw [hx, e]
    have : [42, 46].isPrefixOf (42 :: 46 :: joinL [46] L) = true := by simp [List.isPrefixOf]
    rw [this]
    simp only [Bool.false_eq_true, if_false, if_true, List.drop_succ_cons, List.drop_zero]
    rw [abc_sp1 h1 h3]
    exact all
  · rw [hx, e, if_pos rfl]
    show (decide (1 < (sp1 46 (joinL [46] L)).length) && (sp1 46 (joinL [46] L)).all labB) = true
    rw [abc_sp1 h1 h3, all, decide_eq_true (by omega)]
    rfl
theorem GenR.exc {t : List Nat} (h : GenR t) (hx : excT t = true) : (patL t).head? ≠ some [42] ∧ ∀ l ∈ patL t, abc l := by
  obtain ⟨L, h1, h2, h3, h4⟩ := h.cases
  rcases h4 with ⟨e0, e, hp⟩ | ⟨e0, e, hp⟩ | ⟨e0, h5, e, hp⟩
  · rw [e0] at hx; cases hx
  · rw [e0] at hx; cases hx
  · rw [hp]
    refine ⟨fun q => ?_, h3⟩
    have := h3 [42] (List.mem_of_mem_head? q)
    rcases this with q | q | q <;> simp at q
theorem GenR.head {t : List Nat} (h : GenR t) : t.head? ≠ some 122 := by
  obtain ⟨L, h1, h2, h3, rfl | rfl | ⟨_, rfl⟩⟩ := h
  · obtain ⟨l, r, rfl⟩ := List.exists_cons_of_ne_nil h1
    have hq := h3 l (List.mem_cons_self ..)
    have e : ∀ z, (joinL [46] ([z] :: r)).head? = some z := fun z => by cases r <;> rfl
    rcases hq with rfl | rfl | rfl <;> rw [e] <;> decide
  · simp
  · simp
theorem GenR.len {t : List Nat} (h : GenR t) : t.length ≤ 12 := by
  obtain ⟨L, h1, h2, h3, h4⟩ := h
  have := joinL_len (c := 46) (B := 1) L fun l hl => abc_len (h3 l hl)
  rcases h4 with rfl | rfl | ⟨_, rfl⟩
  · omega
  · simp only [List.length_cons]; omega
  · simp only [List.length_cons]; omega
end Kb
namespace Kb
open PySem PySem.Spec PyProof.Rows L2
theorem Same.seqT {K : PySem.W.Frag} {a : Addr} {H H' : Hp} {xs : List V} (k : Same H H') (h : SqT K H a xs) : SqT K H' a xs := by
  rcases h with (h | ⟨o, h⟩) | h
  · exact .inl (.inl (k _ _ h))
  · exact .inl (.inr ⟨o, k _ _ h⟩)
  · exact .inr h
theorem Keep.seqT {K : PySem.W.Frag} {d a : Addr} {H H' : Hp} {xs : List V} (k : Keep d H H') (n : a ≠ d) (h : SqT K H a xs) : SqT K H' a xs := by
  rcases h with (h | ⟨o, h⟩) | h
  · exact .inl (.inl (k _ _ h n))
  · exact .inl (.inr ⟨o, k _ _ h n⟩)
  · exact .inr h
end Kb
namespace Kb
open PySem PySem.Spec PyProof.Rows L2 TL PySem.StrLaws Builtin.Str
theorem cutS_from (z : Str) {i : Int} (h : 0 ≤ i) : tl (cutS z (some i) none) = (tl z).drop i.toNat := by
  obtain ⟨k, rfl⟩ : ∃ k : Nat, i = (k : Int) := ⟨i.toNat, by omega⟩
  show ((tl z).drop (HT.sIx z.length 0 (some (k : Int)))).take (HT.sIx z.length z.length none - HT.sIx z.length 0 (some (k : Int))) = _
  rw [HT.sIx_none, HT.sIx_nat, Int.toNat_natCast, len_tl]
  rw [List.take_of_length_le (by rw [List.length_drop] <;> omega)]
  rcases Nat.le_total k (tl z).length with g | g
  · rw [Nat.min_eq_left g]
  · rw [Nat.min_eq_right g, List.drop_of_length_le (Nat.le_refl _), List.drop_of_length_le g]
end Kb
namespace Kb
open PySem PySem.Spec PyProof.Rows L2 TL
def RulesOK (rs : List Str) : Prop := rs.Nodup ∧ ∀ r ∈ rs, ruleB (tl r) = true ∧ r.length ≤ 1000
end Kb
namespace Kb
open PySem PySem.Spec PyProof.Rows L2 TL
theorem abc_at {r : Int} (h0 : 0 ≤ r) (h1 : r < 3) : ∃ c : Nat, atI ("abc" : Str).cps.toList r = some c ∧ abc (tl (⟨#[c]⟩ : Str)) := by
  rcases (by omega : r = 0 ∨ r = 1 ∨ r = 2) with rfl | rfl | rfl
  · exact ⟨97, by decide +kernel, .inl rfl⟩
  · exact ⟨98, by decide +kernel, .inr (.inl rfl)⟩
  · exact ⟨99, by decide +kernel, .inr (.inr rfl)⟩
theorem words_join (W : List Str) : tl (Txt.join ("." : Str) W) = joinL [46] (W.map tl) := by rw [join_tl, tl_dot]
theorem words_len {W : List Str} {B : Nat} (h : ∀ x ∈ W, (tl x).length ≤ B) : (W.map (·.length)).sum ≤ W.length * B :=
  PySem.StrLaws.sumLen_le (B := B) W fun w hw => by rw [len_tl]; exact h w hw
end Kb
namespace Kb
open PySem PySem.Spec PyProof.Rows L2 TL
theorem Keep.newer {d L : Addr} {H H' : Hp} (k : Keep d H H') (n : L ≠ d) (h : H' L = none) : H L = none := by
  cases e : H L with
  | none => rfl
  | some o => rw [k _ _ e n] at h; cases h
theorem Same.newer {L : Addr} {H H' : Hp} (k : Same H H') (h : H' L = none) : H L = none := by
  cases e : H L with
  | none => rfl
  | some o => rw [k _ _ e] at h; cases h
theorem in_strs {r : Str} {L : List Str} : inV (.str r) (L.map V.str) = decide (r ∈ L) := by
  unfold inV
  rw [Bool.eq_iff_iff, List.any_eq_true, decide_eq_true_eq]
  constructor
  · rintro ⟨v, hv, q⟩
    obtain ⟨x, hx, rfl⟩ := List.mem_map.mp hv
    have : x = r := by simpa [eqV] using q
    exact this ▸ hx
  · intro h
    exact ⟨.str r, List.mem_map.mpr ⟨r, h, rfl⟩, by simp [eqV]⟩
theorem flat_strs (L : List Str) : (L.map V.str).all flatV = true := by
  rw [List.all_eq_true]
  intro v hv
  obtain ⟨x, _, rfl⟩ := List.mem_map.mp hv
  rfl
end Kb
namespace Kb
open PySem PySem.Spec PyProof.Rows L2 TL
/-! ### hosts of small labels -/
theorem host_facts {w : List (List Nat)} {t : Str} (hw : w ≠ []) (hl : w.length ≤ 10) (ha : ∀ l ∈ w, wlab l = true) (e : tl t = joinL [46] w) :
    hostB (tl t) = true ∧ addrB (tl t) = false ∧ sp1 46 (tl t) = w ∧ t.length ≤ 50 := by
  have h : HostW 10 t := ⟨w, hw, hl, ha, e⟩
  have h1 := h.host (Nat.le_refl 10)
  have h2 := h.len
  refine ⟨h1.1, ?_, by rw [e, sp1_joinL hw fun p hp => dot_free (wlab_lab (ha p hp)).1], by omega⟩
  unfold addrB
  rw [h1.2, Bool.and_false]
theorem fit_last {w : List (List Nat)} {k : Nat} {h d : List Nat} (e1 : sp1 46 h = w) (e2 : sp1 46 d = lastN k w) (hk : k ≤ w.length) (ha : addrB h = false) : fitB h d = true := by
  have hd : (sp1 46 d).length = k := by rw [e2, lastN_len, Nat.min_eq_left hk]
  have := (sp1_suffix 46 h d).mp ⟨by rw [hd, e1]; exact hk, by rw [e1, hd, e2]; rfl⟩
  unfold fitB
  rw [ha]
  rcases this with q | q
  · rw [decide_eq_true q]; rfl
  · rw [List.isSuffixOf_iff_suffix.mpr q]; simp
theorem famL_len {rs w : List (List Nat)} (hr : ∀ t ∈ rs, ruleB t = true) (hw : w ≠ []) : famL rs w = lastN (famL rs w).length w ∧ 1 ≤ (famL rs w).length ∧ (famL rs w).length ≤ w.length := by
  have h0 : 0 < w.length := List.length_pos_iff.mpr hw
  have := sufN_ge hr hw
  have e := famL_eq hr hw
  have el : (famL rs w).length = min (sufN rs w + 1) w.length := by rw [e, lastN_len]
  refine ⟨?_, by omega, by omega⟩
  rw [el, lastN_min]; exact e
theorem lastN_ne {α : Type} {k : Nat} {w : List α} (h1 : 1 ≤ k) (h2 : w ≠ []) : lastN k w ≠ [] := fun q => by
  have := lastN_len k w
  have h0 : 0 < w.length := List.length_pos_iff.mpr h2
  rw [q, List.length_nil] at this
  omega
theorem lastN_map {α β : Type} (f : α → β) (k : Nat) (w : List α) : (lastN k w).map f = lastN k (w.map f) := by
  unfold lastN; rw [List.map_drop, List.length_map]
/-- a rule that asks a label before the host -/
theorem zrule {w : List (List Nat)} {t : List Nat} {rs : List (List Nat)} (hw : w ≠ []) (ha : ∀ l ∈ w, abc l) (e : t = 122 :: 46 :: joinL [46] w) (u : List (List Nat)) (hu : u.length ≤ w.length) :
    ruleB t = true ∧ sufN (rs ++ [t]) u = sufN rs u := by
  have hx : excT t = false := by rw [e]; rfl
  have hp : patL t = [122] :: w := by
    unfold patL patT
    rw [hx, e]
    show sp1 46 ([122] ++ 46 :: joinL [46] w) = _
    rw [sp1_app, abc_sp1 hw ha]; rfl
  constructor
  · unfold ruleB
    rw [hx, e]
    have : [42, 46].isPrefixOf (122 :: 46 :: joinL [46] w) = false := rfl
    rw [this]
    simp only [Bool.false_eq_true, if_false]
    show (sp1 46 ([122] ++ 46 :: joinL [46] w)).all labB = true
    rw [sp1_app, abc_sp1 hw ha, List.all_append, Bool.and_eq_true]
    exact ⟨by decide +kernel, List.all_eq_true.mpr fun l hl => abc_lab (ha l hl)⟩
  · refine sufN_snoc ?_
    rw [hp]
    unfold mtL
    rw [decide_eq_false (by rw [List.length_cons]; omega)]; rfl
theorem below_ok {rs : List (List Nat)} (h : ∀ t ∈ rs, GenR t) : ∀ t ∈ rs, excT t = true → (patL t).head? ≠ some [42] ∧ [121] ∉ patL t := fun t ht hx => by
  obtain ⟨h1, h2⟩ := (h t ht).exc hx
  exact ⟨h1, fun q => by rcases h2 _ q with r | r | r <;> simp at r⟩
end Kb

namespace Kb
open PySem PySem.Spec PyProof.Rows L2
/-! ### enumerate(tuple) -/
theorem enum_newB {v : Value} {o : Obj} {H : Heap → Prop} (B : Begins v o H) :
    Meets (Builtin.«enumerate.__new__» ⟨[.type "enumerate", v], []⟩) (fun _ R s => H s.heap ∧
      R (.ok (.ret (.ref (s.heap.push o).objs.size))) { s with heap := (s.heap.push o).push { cls := .type "enumerate", data := .fields #[.none, .bool false, .ref s.heap.objs.size, rawInt 0, .none, .none] } }) :=
  .of_wp fun prog w A R s h => by
    obtain ⟨hp, g, d, tk, os⟩ := s; obtain ⟨h1, h⟩ := h
    have hsub := sub_enumerate
    have q1 : ∀ {A' : Around} {E : Value → Shared → Prop} {Q : Value → Shared → Prop}, Q (.ref hp.objs.size) ⟨hp.push o, g, d, tk, os⟩ → wpAny (model prog w) A' (pyIter v) Q E ⟨hp, g, d, tk, os⟩ :=
      fun q => B.iter prog w _ _ ⟨hp, g, d, tk, os⟩ _ h1 q
    wp_walk using q1
    refine wpAny_stack_any fun st => wpAny_pure ?_
    split
    · rename_i c _ _ _ _ _
      cases (c == Value.type "enumerate")
      · wp_walk using q1
        exact ⟨_, rfl, h⟩
      · wp_walk using q1
        exact ⟨_, rfl, h⟩
    · wp_walk using q1
      exact ⟨_, rfl, h⟩
section
variable {prog : Program} {w : World} {A : Around} {E : Value → Shared → Prop} {s : Shared}
theorem call_enum1 {v : Value} {o : Obj} {H : Heap → Prop} {Q : Value → Shared → Prop} (B : Begins v o H) (h1 : H s.heap)
    (h : ∀ h', IsEnum h' (s.heap.objs.size + 1) s.heap.objs.size 0 .none → h'.get? s.heap.objs.size = some o → h'.objs.size = s.heap.objs.size + 2 →
      (∀ b o, s.heap.get? b = some o → h'.get? b = some o) → Q (.ref (s.heap.objs.size + 1)) { s with heap := h' }) :
    wpAny (model prog w) A (call (.type "enumerate") [v]) Q E s := by
  refine callType_new F.called_enumerate (by decide) (F.typeCall_enumerate_1 _) (F.newCall_enumerate_1 _) (fun obj => F.args_object_init_2 obj _) F.entry_enumerate_new
    (enum_newB B) ⟨h1, ?_⟩
  have hz : (s.heap.push o).objs.size = s.heap.objs.size + 1 := Heap.size_push ..
  show _ ∧ _
  rw [hz]
  have he : IsEnum ((s.heap.push o).push { cls := .type "enumerate", data := .fields #[.none, .bool false, .ref s.heap.objs.size, rawInt 0, .none, .none] }) (s.heap.objs.size + 1) s.heap.objs.size 0 .none := by
    have := Heap.get?_push_size (s.heap.push o) (o := { cls := .type "enumerate", data := .fields #[.none, .bool false, .ref s.heap.objs.size, rawInt 0, .none, .none] }) rfl
    rw [hz] at this; exact this
  refine ⟨⟨_, he, rfl⟩, h _ he (Heap.get?_push_of_some _ (Heap.get?_push_size _ B.free)) (by rw [Heap.size_push, hz]) fun b o x => Heap.get?_push_of_some _ (Heap.get?_push_of_some _ x)⟩
end
def Itet (K : PySem.W.Frag) (a : Addr) : It :=
  ⟨fun i H => ∃ (xs : List V) (x : V), SqT K H a xs ∧ xs[i]? = some x, fun i H v H' => ∃ T x, v = .ref T ∧ H T = none ∧ H' = L2.upd H T (.tup [.int (i : Nat), x]) ∧ ∀ xs, SqT K H a xs → xs[i]? = some x, fun i H => ∃ xs : List V, SqT K H a xs ∧ xs.length ≤ i⟩
theorem turn_enumT {P : Program} {w : World} {K : PySem.W.Frag} {elts : List Expr} {kk : Nat} {tpos : Pos} (a e it : Addr) :
    Turn P w K (.Tuple elts kk tpos) (Itet K a) [e, it] e (fun i h => (∃ old, IsEnum h e it ((i : Nat) : Int) old) ∧ h.IsTupleIter it a i ∧ e ≠ it ∧ e ≠ a ∧ a ≠ it) where
  mem := by simp
  obj := fun i h st b hb => by
    obtain ⟨⟨old, he⟩, ⟨o, ho, hc, hd⟩, _⟩ := st
    have e' : b = e ∨ b = it := by simpa using hb
    rcases e' with z | z
    · rw [z]; exact ⟨_, he, fun v q => nomatch q⟩
    · rw [z]; exact ⟨o, ho, fun v q => by rw [hd] at q; cases q⟩
  keep := fun i h h' st k => let ⟨⟨old, he⟩, hi, hne⟩ := st; ⟨⟨old, k e (by simp) _ he⟩, hi.at fun o q => k it (by simp) o q, hne⟩
  item := by
    intro X hP hw hK hc i pins s σ H E I hf st hg
    subst hP hw hK
    obtain ⟨⟨old, he⟩, hit, hne, hea, hai⟩ := st
    obtain ⟨xs, x, hq, hx⟩ := hg
    obtain ⟨its, rv, p, hz⟩ := I.tuple hq
    obtain ⟨u, hu, ru⟩ := rv.get hx
    have hel : e < s.heap.objs.size := Heap.lt_size he
    have hil : it < s.heap.objs.size := by obtain ⟨_, q, _⟩ := hit; exact Heap.lt_size q
    have hlt : i < its.toArray.size := by
      have := (List.getElem?_eq_some_iff.mp hu).1
      simpa using this
    have hhd : X.A.in1.handled = none := I.ok.hd hc
    refine wpAny_pyNext_enum_itemD (Draws.tuple hhd it a hai its.toArray) he ⟨hit, show s.heap.IsTuple a its.toArray from p⟩ hlt hne (by simp [hne, hea]) fun x' h' tk hP ho hst' hT hsz hk => ?_
    have ex : x' = u := by
      have e1 : its[i]? = some x' := by simpa using hP
      rw [e1] at hu
      exact Option.some.inj hu
    subst ex
    obtain ⟨hit', _⟩ := hst'
    refine ⟨_, rfl, wpAny_letOwnedTupleGo_enum (s := { s with heap := h', toks := tk + 1 }) ho fun h'' he' sb => ?_⟩
    have hT2 : h''.get? s.heap.objs.size = some { cls := .type "tuple", data := .seq #[.int i tk, x'] } := (sb.2 _ (Nat.ne_of_gt hel)).trans hT
    have new : ObjOk X.prog X.w (L2.upd H s.heap.objs.size (.tup [.int (i : Nat), x])) h'' s.heap.objs.size (.tup [.int (i : Nat), x]) :=
      ⟨by show 2 ≤ sizeLine; decide, [.int i tk, x'], .cons ⟨_, rfl⟩ (.cons ru .nil), ⟨_, hT2, rfl, _, rfl⟩⟩
    have I1 : Inv X pins σ (L2.upd H s.heap.objs.size (.tup [.int (i : Nat), x])) { s with heap := h'', toks := tk + 1 } :=
      I.turnedNew (ch := [e, it]) (fun b ob hb q => (sb.2 b (fun z => hb (by simp [z]))).trans (hk b ob (fun z => hb (by simp [z])) (fun z => hb (by simp [z])) q)) hf (Nat.le_refl _) new
    refine ⟨.ref s.heap.objs.size, _, I1, rfl, ⟨_, x, rfl, I.hok.fresh (Nat.le_refl _), rfl, fun ys hy => by rw [I.tuple_inj hy hq]; exact hx⟩, ⟨⟨x', ?_⟩, hit'.at fun o q => (sb.2 it (Ne.symm hne)).trans q, hne, hea, hai⟩, fun b hb => ?_⟩
    · have e1 : ((i + 1 : Nat) : Int) = (i : Int) + 1 := by omega
      rw [e1]; exact he'
    · have hb' : b < s.heap.objs.size := by
        have e' : b = e ∨ b = it := by simpa using hb
        rcases e' with z | z
        · rw [z]; exact hel
        · rw [z]; exact hil
      rw [upd_ne (Nat.ne_of_lt hb')]
      exact (hf b hb).1
  done := by
    intro X hP hw hK hc i pins s σ H E I hf st hg
    subst hP hw hK
    obtain ⟨⟨old, he⟩, hit, hne, hea, hai⟩ := st
    obtain ⟨xs, hq, hx⟩ := hg
    obtain ⟨its, rv, p, hz⟩ := I.tuple hq
    obtain ⟨f0, f1, f2, f3, f4, f5⟩ := hf it (by simp)
    have hl := rv.length
    have hT : s.TypeIs (.ref e) "enumerate" := ⟨_, he, rfl⟩
    unfold pyNext
    refine wpAny_bind (wpAny_attempt (wpAny_callSpecial?_slot (name := Str.ofString "__next__") hT F.slot_enumerate_next
      (wpAny_call_entry F.slot_enumerate_next hT F.entry_enumerate_next ?_ (F.args_enumerate_next_1 _))))
    show wpAny _ _ (field (.ref e) 2 >>= _) _ _ _
    refine wpAny_bind (wpAny_field he rfl (x := .ref it) rfl ?_)
    refine wpAny_bind (wpAny_nextOf_tuple_end (show X.A.in1.handled = none from I.ok.hd hc) hit (show s.heap.IsTuple a its.toArray from p) (by simp; omega) fun h' x he' hx' => ?_)
    obtain ⟨o, ho, hcc⟩ := hx'
    refine wpAny_bind (wpAny_isInstance (T := "StopIteration") (b := true) ⟨o, ho, hcc⟩ isSubtype_stop ?_)
    exact wpAny_pure ⟨rfl, I.turned (t' := s.toks) (fun b o hb q => he' b o hb q) f0 f1 f3 f4 f5⟩
  self := fun A i s Q E st h => let ⟨⟨_, he⟩, _⟩ := st; wpAny_pyIter_enum he h
def iEnumT (K : PySem.W.Frag) (ta : TA) : TI := fun σ H R => ta σ H fun vs H1 => ∃ a xs, vs = [.ref a] ∧ SqT K H1 a xs ∧ R (Itet K a) H1
theorem pi_enumT {X : Cx} {e : Expr} {ta : TA} {p pos tpos : Pos} {elts : List Expr} {kk : Nat} (hg : Gl X "enumerate") (hm : X.mg "enumerate" = none) (ha : PA X [e] ta) (hs : starEach [e] X.env = [(false, eval e X.env)] := by rfl) :
    PI X (.Tuple elts kk tpos) (.Call (.Name "enumerate" p) [e] [] pos) (iEnumT X.K ta) := by
  refine ⟨fun pins s σ H R I h => ?_⟩
  refine Call_ (ld_blt I hg hm boot_enumerate (PyProof.Rows.callWith_type1 (thn (ha.run pos pins s σ H _ I h) fun us s1 ⟨vs, H1, I1, r1, q1⟩ => ?_) hs rfl))
  obtain ⟨a, xs, ex, hq, q⟩ := q1
  subst ex
  cases r1 with
  | cons r rr =>
    cases rr
    cases r
    obtain ⟨its, rv, p', hz⟩ := I1.tuple hq
    have p'' : s1.heap.IsTuple a its.toArray := p'
    have hal : a < s1.heap.objs.size := by obtain ⟨_, q, _⟩ := id p''; exact Heap.lt_size q
    refine call_enum1 (begins_tuple a its.toArray) p'' fun h' he hit hsz hk => wpAny_pyIter_enum he ?_
    have I2 : Inv X pins σ H1 { s1 with heap := h' } := I1.kept (t' := s1.toks) hk
    refine ⟨s1.heap.objs.size + 1, [s1.heap.objs.size + 1, s1.heap.objs.size], _, _, H1, rfl, I2, turn_enumT a (s1.heap.objs.size + 1) s1.heap.objs.size, ⟨⟨.none, he⟩, ⟨_, hit, rfl, rfl⟩, Nat.succ_ne_self _, Nat.ne_of_gt (Nat.lt_succ_of_lt hal), Nat.ne_of_lt hal⟩, fun b hb => ?_, q⟩
    have e' : b = s1.heap.objs.size + 1 ∨ b = s1.heap.objs.size := by simpa using hb
    have hle : s1.heap.objs.size ≤ b := by
      rcases e' with z | z
      · rw [z]; exact Nat.le_add_right _ _
      · rw [z]; exact Nat.le_refl _
    exact I1.fpOk hle (I1.hok.fresh hle)
theorem walk_enumT {K : PySem.W.Frag} {a : Addr} {xs : List V} : Walk (Itet K a) xs.length (fun H => SqT K H a xs) (YPair (fun i => some (.int (i : Nat))) (fun i => xs[i]?)) := by
  refine ⟨fun i _ hi q => ⟨xs, xs[i], q, by simp [hi]⟩, fun _ q => ⟨xs, q, Nat.le_refl _⟩, fun i H v H' _ q y => ?_⟩
  obtain ⟨T, x, h1, h2, h3, h4⟩ := y
  exact ⟨T, .int (i : Nat), x, h1, h2, h3, rfl, h4 xs q⟩
section
variable {K : PySem.W.Frag} {a : Addr} {xs : List V} {g : TG} {tb : TS} {D : Ends} {σ : L2.St} {H : Hp}
theorem for_enumT (Pv : Nat → L2.St → Hp → Prop) (h0 : Pv 0 σ H) (hG : ∀ i σ H, i ≤ xs.length → Pv i σ H → SqT K H a xs)
    (hs : ∀ i x T σ H, xs[i]? = some x → Pv i σ H → H T = none → g (.ref T) σ (L2.upd H T (.tup [.int (i : Nat), x])) fun σ2 H2 => tb { D with nx := Pv (i + 1), ct := Pv (i + 1), bk := D.nx } σ2 H2) (hd : ∀ σ H, Pv xs.length σ H → D.nx σ H) :
    ∃ W : Nat → Nat → L2.St → Hp → Prop, (∃ m, W 0 m σ H) ∧ ∀ i m σ H, W i m σ H →
      ((Itet K a).stop i H ∧ D.nx σ H) ∨ ((Itet K a).go i H ∧ ∃ N : L2.St → Hp → Prop, (∀ σ' H', N σ' H' → ∃ m', m' < m ∧ W (i + 1) m' σ' H') ∧ ∀ x H', (Itet K a).yld i H x H' → g x σ H' fun σ2 H2 => tb { D with nx := N, ct := N, bk := D.nx } σ2 H2) := by
  refine for_it walk_enumT Pv h0 hG (fun i x σ H H' hi p y => ?_) hd
  obtain ⟨T, x, y, rfl, hT, rfl, h1, h2⟩ := y
  cases h1
  exact hs i y T σ H h2 p hT
end
end Kb

namespace Kb
open PySem PySem.Spec PyProof.Rows L2
/-! ### own errors with one field -/
def spInit (K : PySem.W.Frag) (C : Addr) (f : Str) : Sp := fun vs H Q _ => ∃ (a : Addr) (v : V), vs = [.ref a, v] ∧ H a = some (exo a C none) ∧ OexC K C ∧ PySem.W.findIn K (.ref C) f = some none ∧
  ∀ dx, H dx = none → dx ≠ a → Q .non (L2.upd (L2.upd H dx (exd dx [(f, v)])) a (exo a C (some dx)))
/-- what the top has written of such a class -/
structure Err (K : PySem.W.Frag) (mg : Str → Option Value) (cn f : Str) (C : Addr) : Prop where
  T : OexC K C
  X : XfC K C
  g : mg cn = some (.ref C)
  no : PySem.W.findIn K (.ref C) f = some none
  te : PySem.W.exmOne K (.ref C) (.ref C) = some true
  ini : ∃ (fI : Addr) (fd : FuncData), PySem.W.findIn K (.ref C) "__init__" = some (some (.ref fI)) ∧ PySem.W.typeIn K (.ref fI) = some (.type "function") ∧ Binds K fd ["self", f] [] ∧
    ∀ (P : Program) (w : World) (base : Heap), FnOk P w K mg base CX0 1 fI fd ["self", f] (spInit K C f)
/-- C(e) -/
def tErr (C : Addr) (f : Str) (ta : TA) : L2.St → Hp → XK → Prop := fun σ H Q => ta σ H fun vs H1 => ∃ v, vs = [v] ∧ ∀ d, H1 d = none → Q (.ref C) (some d) (L2.upd H1 d (.xd [(f, v)]))
def taMono (t : TA) : TA := fun σ H Q => ∃ Q0 : List V → Hp → Prop, t σ H Q0 ∧ ∀ x H1, Q0 x H1 → Q x H1
theorem pa_mono {X : Cx} {es : List Expr} {t : TA} (h : PA X es t) : PA X es (taMono t) :=
  ⟨fun pos pins s σ H Q I ⟨Q0, h0, m⟩ => thn (h.run pos pins s σ H Q0 I h0) fun us s1 ⟨vs, H1, I1, r1, q1⟩ => ⟨vs, H1, I1, r1, m _ _ q1⟩⟩
theorem upd_del {H : Hp} {a d : Addr} {o1 o2 o3 o4 : HO} (ha : H a = none) (hd : d ≠ a) : L2.upd (del (L2.upd (L2.upd (L2.upd H a o1) d o2) a o3) a) d o4 = L2.upd H d o4 := by
  funext b
  by_cases h1 : b = d
  · subst h1; rw [upd_same, upd_same]
  · rw [upd_ne h1, upd_ne h1]
    by_cases h2 : b = a
    · subst h2; rw [del_same, ha]
    · rw [del_ne h2, upd_ne h2, upd_ne h1, upd_ne h2]
section
variable {X : Cx}
theorem pmk_err {cn f : Str} {C : Addr} {e : Expr} {ta : TA} {p pos : Pos} {k : Nat} (T : Err X.K X.mg cn f C) (hr : Room k X.A) (hk : 2 ≤ k) (hx : Passes CX0 X (fun _ _ _ => False)) (ha : PA X [e] ta) (hg : Gl X cn)
    (hdb : (cn == ("__debug__" : Str)) = false := by decide) (he : starEach (e :: []) X.env = (false, eval e X.env) :: starEach [] X.env := by rfl) (hpl : (backTo pos (starEach [] X.env)).any (·.1) = false := by rfl) :
    PMk X (.Call (.Name cn p) [e] [] pos) (tErr C f ta) := by
  intro pins s σ H Q I h
  obtain ⟨fI, fd, iC, tI, hb, F⟩ := T.ini
  refine pmk_oex (dvs := []) (ds := []) T.T iC tI (F X.prog X.w X.base) (hr.mono hk) hb .nil hx hg T.g (pa_mono ha) hdb he hpl pins s σ H Q I ?_
  refine ⟨_, h, ?_⟩
  rintro vs H1 ⟨v, rfl, hq⟩
  refine ⟨by show 1 ≤ 1000; decide, fun a hn => ⟨a, v, rfl, upd_same, T.T, T.no, fun dx hdx hne => ⟨rfl, dx, [(f, v)], upd_same, ?_, ?_, ?_⟩⟩⟩
  · rw [upd_ne hne, upd_same]
  · rw [upd_ne hne] at hdx; exact hdx
  · rw [upd_ne hne] at hdx
    rw [upd_del hn hne]
    exact hq dx hdx
/-- raise C(e) -/
def tRaise (C : Addr) (f : Str) (W : WX) (ta : TA) : TS := fun _ σ H => tErr C f ta σ H fun cls d H' => W cls d σ H'
theorem ps_raiseE {cn f : Str} {C : Addr} {e : Expr} {ta : TA} {W : WX} {p pos pos2 : Pos} {k : Nat} (hc : X.calm = true) (T : Err X.K X.mg cn f C) (hr : Room k X.A) (hk : 2 ≤ k) (hx : Passes CX0 X (fun _ _ _ => False)) (tk : Takes X W) (ha : PA X [e] ta) (hg : Gl X cn)
    (hdb : (cn == ("__debug__" : Str)) = false := by decide) (he : starEach (e :: []) X.env = (false, eval e X.env) :: starEach [] X.env := by rfl) (hpl : (backTo pos (starEach [] X.env)).any (·.1) = false := by rfl) :
    PS X (.Raise (some (.Call (.Name cn p) [e] [] pos)) none pos2) (tRaise C f W ta) := ps_raise hc tk (pmk_err T hr hk hx ha hg hdb he hpl)
theorem pe_cX {W : WX} {j k : Nat} {x : Str} {ps : List Str} {sp : Sp} {p pos : Pos} {e : Expr} {es : List Expr} {t : TA} (c : Cal X.prog X.w X.K X.mg X.base (L2.CX X.prog X.w) j x ps sp) (hr : Room k X.A) (hjk : j ≤ k) (hg : Gl X x) (tk : Takes X W)
    (ha : PA X (e :: es) t) (hdb : (x == ("__debug__" : Str)) = false := by decide) (he : starEach (e :: es) X.env = (false, eval e X.env) :: starEach es X.env := by rfl) (hpl : (backTo pos (starEach es X.env)).any (·.1) = false := by rfl) :
    PE X (.Call (.Name x p) (e :: es) [] pos) (tCallS sp (WE W) t) := by
  obtain ⟨f, fd, F, m, kp, b⟩ := c
  exact pe_callS F (hr.mono hjk) hg m kp b (fun σ => passAt tk σ) ha hdb he hpl
end
section
variable {P : Program} {w : World} {K : PySem.W.Frag} {mg : Str → Option Value} {base : Heap}
theorem Df.okX {x : Str} {st : Stmt} {N ps : List Str} {k : Nat} {sp : Sp} (D : Df K mg x st ps) (S : FnScope N ps (defScope st)) (len : ∀ vs H Q E, sp vs H Q E → vs.length = ps.length)
    (hbody : ∀ (f : Addr) (cdv : Value) (A : Around) (outer : List Env) (s : Shared) (H : Hp) (vs : List V) (Q : VK) (E : XK), Room k (A.deeper (envOfC x (defScope st) s.heap.objs.size f cdv)) → sp vs H Q E →
      ∃ t, PSs (cxOf (L2.CX P w) P w K mg base N x (defScope st) f cdv A outer s H E) (defBody st) t ∧ t { nx := fun _ H' => Q .non H', rt := Q } (start N vs) H) : Cal P w K mg base (L2.CX P w) (k + 1) x ps sp := by
  obtain ⟨f, fd, F, m, b⟩ := D
  exact ⟨f, fd, F.okX S len (hbody f), m, F.kp, .all b⟩
end
/-! ### such a class, from the written part -/
theorem exm_own {K : PySem.W.Frag} {S : Addr} (h1 : PySem.W.subIn K (.ref S) (.type "BaseException") = some true) (h2 : PySem.W.isClsIn K S = true) (h3 : PySem.W.typeIn K (.ref S) = some (.type "type")) (h4 : PySem.W.subIn K (.ref S) (.ref S) = some true) :
    PySem.W.exmOne K (.ref S) (.ref S) = some true := by
  unfold PySem.W.isClsIn at h2
  unfold PySem.W.exmOne
  simp only [h1, h2, h3, h4]
  unfold PySem.W.kitCls
  simp [h2, h3, h4]
theorem Err.mk' {K : PySem.W.Frag} {mg : Str → Option Value} {h : Heap} {cn f q0 : Str} {C fI : Addr} {st : Stmt} {nm q : Str} {N : Addr} {bs bm : List Value} {sn : List Str} {sub : List Value} {ab : Bool} {col : Option Bool} {dd : Option Addr} {m0 m1 m2 m3 m5 : Option Value}
    {oc : Value} {od an : Option Addr} {sl : Array (Option Value)} {kV doc pm cd ct : Value} (X : K.In h) (G : h.Ns PySem.mainGlobals mg)
    (b : ∀ (kV doc pm : Value) (an : Option Addr) (cdv ct : Value) (us : List Value), us.length = (["self", f] : List Str).length → bindArgs (PySem.W.fnOf "__init__" q0 (defArgs st) (defBody st) (defScope st) .none kV doc pm an cdv ct) ⟨us, []⟩ = pure ((["self", f] : List Str).zip us))
    (ok : ∀ {fI : Addr} {fd : FuncData} (P : Program) (w : World) (base : Heap), Fun K "__init__" q0 st fI fd → FnOk P w K mg base CX0 1 fI fd ["self", f] (spInit K C f))
    (aC : PySem.W.nsIn K PySem.mainGlobals cn = some (some (.ref C)))
    (xL : K.lookup C = some (excClassObj nm q C N bs bm true sn sub ab col dd m0 m1 m2 m3 m5 "ValueError.__new__")) (rv : PySem.HandSPX.refsVE bm = true)
    (sa : PySem.W.findIn K (.ref C) "__setattr__" = some (some (.builtin "object.__setattr__"))) (ga : PySem.W.findIn K (.ref C) "__getattribute__" = some (some (.builtin "BaseException.__getattribute__"))) (gg : PySem.W.findIn K (.ref C) "__getattr__" = some none) (nb : PySem.W.findIn K (.ref C) f = some none)
    (a1 : PySem.W.findIn K (.ref C) "__init__" = some (some (.ref fI))) (t1 : PySem.W.typeIn K (.ref fI) = some (.type "function"))
    (l1 : K.lookup fI = some ⟨oc, od, .func (PySem.W.fnOf "__init__" q0 (defArgs st) (defBody st) (defScope st) .none kV doc pm an cd ct), sl⟩) (c1 : PySem.W.codeIn K cd q0 = true) (k1 : PySem.W.keepIn K (.ref fI) = true)
    (kC : PySem.W.keepIn K (.ref C) = true) (eC : PySem.W.subIn K (.ref C) (.type "BaseException") = some true) (tC : PySem.W.typeIn K (.ref C) = some (.type "type")) (hC : PySem.W.hasDictIn K C = true) (iC : PySem.W.isClsIn K C = true) (sC : PySem.W.subIn K (.ref C) (.ref C) = some true) : Err K mg cn f C where
  T := ⟨⟨nm, q, N, bs, bm, sn, sub, ab, col, dd, m0, m1, m2, m3, m5, xL, rv⟩, sa, eC, tC, kC⟩
  X := ⟨ga, gg, eC, hC⟩
  g := PySem.W.mg_of X G aC
  no := nb
  te := exm_own eC iC tC sC
  ini := ⟨fI, _, a1, t1, .all (b kV doc pm an cd ct), fun P w base => ok P w base (fun_mk l1 c1 k1)⟩
end Kb
namespace Kb
open PySem PySem.Spec PyProof.Rows L2
/-- nothing is let out -/
theorem passF {P : Program} {w : World} {X : Cx} : Passes (L2.CX P w) X (fun _ _ _ => False) := fun _ _ _ _ _ _ _ h => by
  obtain ⟨_, _, _, _, _, _, _, _, _, _, _, _, q⟩ := h
  exact q.elim
end Kb
namespace Kb
open PySem PySem.Spec PyProof.Rows L2
/-- a tuple of the written part -/
theorem sqT_of_lookup {K : PySem.W.Frag} {a : Addr} {dd : Option Addr} {its : Array Value} {n : Nat} {sl : Array (Option Value)} {xs : List V} (l : K.lookup a = some ⟨.type "tuple", dd, .seq its n, sl⟩) (z : its.size ≤ sizeLine) (v : Vals xs its.toList) : ∀ H : Hp, SqT K H a xs :=
  fun _ => .inr ⟨_, its, n, l, rfl, rfl, z, v⟩
theorem pe_gt {X : Cx} {x : Str} {pos : Pos} {a : Addr} (hg : Gl X x) (h : X.mg x = some (.ref a)) (hd : (x == ("__debug__" : Str)) = false := by decide) : PE X (.Name x pos) (tC (.ref a)) := pe_glob hg h rfl hd
end Kb

namespace Kb
open PySem PySem.Spec PyProof.Rows L2
/-! ### defs that are called while no repr is under way -/
structure FnG (P : Program) (w : World) (K : PySem.W.Frag) (mg : Str → Option Value) (base : Heap) (CX : CXT) (k : Nat) (f : Addr) (fd : FuncData) (ps : List Str) (sp : Sp) : Prop where
  len : ∀ vs H Q E, sp vs H Q E → vs.length = ps.length
  run : ∀ (A : Around) (outer : List Env) (s : Shared) (H : Hp) (args : Args) (us : List Value) (vs : List V) (Q : VK) (E : XK), A.guards = some [] → Room k A → Env0 P w K mg base A outer s H → BindsTo s fd args (ps.zip us) → Vals vs us → sp vs H Q E →
    codeAny (model P w) A (.call (.ref f) args) (CR CX outer P w H s Q E) s
section
variable {P : Program} {w : World} {K : PySem.W.Frag} {mg : Str → Option Value} {base : Heap} {CX : CXT}
theorem FnG.mono {j k : Nat} {f : Addr} {fd : FuncData} {ps : List Str} {sp : Sp} (F : FnG P w K mg base CX j f fd ps sp) (h : j ≤ k) : FnG P w K mg base CX k f fd ps sp :=
  ⟨F.len, fun A outer s H args us vs Q E hg hr => F.run A outer s H args us vs Q E hg (hr.mono h)⟩
theorem fnG_of {k : Nat} {f : Addr} {x qual : Str} {st : Stmt} {fd : FuncData} {N ps : List Str} {sp : Sp} (F : Fun K x qual st f fd) (S : FnScope N ps (defScope st)) (len : ∀ vs H Q E, sp vs H Q E → vs.length = ps.length)
    (hbody : ∀ (cdv : Value) (A : Around) (outer : List Env) (s : Shared) (H : Hp) (vs : List V) (Q : VK) (E : XK), A.guards = some [] → Room k (A.deeper (envOfC qual (defScope st) s.heap.objs.size f cdv)) → sp vs H Q E →
      ∃ t, PSs (cxOf CX P w K mg base N qual (defScope st) f cdv A outer s H E) (defBody st) t ∧ t { nx := fun _ H' => Q .non H', rt := Q } (start N vs) H) : FnG P w K mg base CX (k + 1) f fd ps sp := by
  obtain ⟨oc, od, kV, doc, pm, an, cdv, ct, osl, rfl, lk, hcd⟩ := F.ex
  refine ⟨len, fun A outer s H args us vs Q E hgd hr e0 hb r hsp => ?_⟩
  have KX : K.In s.heap := e0.mod.kin.keeps fun b o e => (e0.bs b o e).1
  have hkind : ∀ y ∈ ps.zip us, (defScope st).names.lookup y.1 = some .local ∨ ((defScope st).names.lookup y.1 = some .cell ∧ ((cellsFrom (s.heap.objs.size + 1) (defScope st).names []).lookup y.1).isSome = true) := fun ⟨n, v⟩ hy =>
    (S.par n (List.of_mem_zip hy).1).elim .inl fun q => .inr ⟨q, PySem.W.cellsFrom_some _ _ _ (.inl q)⟩
  refine codeAny_call_function hr.depth (KX _ _ lk) rfl S.co S.gen rfl (PySem.W.codeRec_of KX hcd) (hb _ _ _ _ (wpAny_newFunctionEnv_cells S.kind hkind fun env he s1 x => ?_))
  subst he
  refine ⟨(e0.mod.nolimit.keeps fun b o e => (e0.bs b o e).1).keeps x.toInCall.keep, codeAny_func ?_⟩
  obtain ⟨t, ht, hq⟩ := hbody cdv A outer s H vs Q E hgd (hr.deeper _) hsp
  refine wpAny_mono (ht.run [] s1 (start N vs) H _ (inv_start S hr.hd e0 (len _ _ _ _ hsp) r x) hq) (fun fl s' hs => ?_) fun e s' hs => hs
  cases fl with
  | ret u => obtain ⟨v, σ', H', J, rv, q⟩ := hs; exact ⟨v, H', J.os, J.bare, J.base, J.hok, rv, q⟩
  | next => obtain ⟨σ', H', J, q⟩ := hs; exact ⟨V.non, H', J.os, J.bare, J.base, J.hok, rfl, q⟩
  | brk => obtain ⟨_, _, _, q⟩ := hs; exact q.elim
  | cont => obtain ⟨_, _, _, q⟩ := hs; exact q.elim
end
/-! ### repr -/
section
variable {X : Cx}
/-- repr of what is no dict -/
def rRepr (K : PySem.W.Frag) : List V → Hp → VK → Prop := fun xs H Q => ∃ x d, xs = [x] ∧ Dp K H x d ∧ d.showable = true ∧ d.hasDict = false ∧ d.shown.length ≤ sizeLine ∧ d.depth ≤ 64 ∧ Q (.str d.shown) H
theorem call_reprD (hu : X.A.units + 65 < cLine) (hg : X.A.guards = some []) : CallR X (.builtin "repr") (rRepr X.K) := by
  intro pins s σ H xs us Q I r h
  obtain ⟨x, d, rfl, hd, hs, hn, hz, hp, q⟩ := h
  obtain ⟨u, rfl, r1⟩ := vals1 r
  obtain ⟨as, rd⟩ := Dp.reads I d x u hd r1
  have ref : ∀ a : Addr, u = .ref a → wpAny (model X.prog X.w) X.A (call (Value.builtin "repr") [u]) (EP X pins σ Q) X.xe s := fun a e => by
    subst e
    exact repr_of_reads' rd hs (fun q => by rw [hn] at q; cases q) hg (by omega) (fun _ _ e => e) (fun h' t tk k => ⟨.str d.shown, H, I.kept (t' := tk) k, ⟨t, rfl⟩, q⟩) hz
  cases rd with
  | none => simp only [PyData.shown] at q; exact PySem.P.repr_of_none ⟨.str "None", H, I.tok _, ⟨_, rfl⟩, q⟩
  | bool b => simp only [PyData.shown] at q; exact PySem.P.repr_of_bool ⟨.str (if b then "True" else "False"), H, I.tok _, ⟨_, rfl⟩, q⟩
  | int i t => simp only [PyData.shown] at q; exact PySem.P.repr_of_int (by simpa [PyData.showable] using hs) ⟨.str (toString i), H, I.tok _, ⟨_, rfl⟩, q⟩
  | str y t => simp only [PyData.shown] at q; exact PySem.P.repr_of_str ⟨.str (reprText y), H, I.tok _, ⟨_, rfl⟩, q⟩ (by simpa only [PyData.shown] using hz)
  | list h1 h2 h3 h4 => exact ref _ rfl
  | tuple h1 h2 h3 h4 => exact ref _ rfl
  | dict h1 h2 h3 h4 h5 => exact ref _ rfl
end
end Kb
namespace Kb
open PySem PySem.Spec PyProof.Rows L2
/-! ### the law's call, by such a promise: nothing but the script is tracked -/
theorem law_callG {P : Program} {w : World} {K : PySem.W.Frag} {mg mb : Str → Option Value} {CX : CXT} {k : Nat} {fa a : Addr} {fd : FuncData} {x : Str} {sp : Sp} {s₁ : Shared} {vs : List Value} {ns : List Int}
    (KX : K.In s₁.heap) (hns : s₁.heap.Ns PySem.mainGlobals mg) (hb : s₁.heap.Ns builtinsNs mb) (hbb : ∀ x : Str, x ≠ "__name__" → mb x = bootBuiltins x) (hlim : s₁.heap.NoLimit) (hg : s₁.gens = #[])
    (ha : s₁.heap.get? a = some { cls := .type "list", data := .seq vs.toArray }) (hi : IntsAre vs ns) (hl : ns.length ≤ sizeLine) (hr : Room k callerA)
    (F : ∀ base : Heap, K.In base → base.Ns PySem.mainGlobals mg → FnG P w K mg base CX k fa fd [x] sp) (hbind : ∀ (s : Shared) (u : Value), BindsTo s fd ⟨[u], []⟩ [(x, u)])
    (hsp : ∀ H : Hp, Only H → SqL K H a (ns.map V.int) → sp [.ref a] H (fun v _ => v = .bl true) fun _ _ _ => False)
    (hCX : ∀ H e s', CX [] H s₁ (fun _ _ _ => False) e s' → False) :
    codeAny (model P w) callerA (.call (.ref fa) ⟨[.ref a], []⟩) (fun r s' => r = .ok (.ret (.bool true)) ∧ OldK s₁.heap s'.heap ∧ s'.os = s₁.os ∧ AllBare s'.gens) s₁ := by
  have rv := vals_ints hi
  have core : ∀ H : Hp, Only H → SqL K H a (ns.map V.int) → HOk P w H s₁.heap → (∀ b, H b ≠ none → b = a) → (H a ≠ none → K.lookup a = none) →
      codeAny (model P w) callerA (.call (.ref fa) ⟨[.ref a], []⟩) (fun r s' => r = .ok (.ret (.bool true)) ∧ OldK s₁.heap s'.heap ∧ s'.os = s₁.os ∧ AllBare s'.gens) s₁ := by
    intro H hO hS hok hA hK
    have one : ∀ b, b ≠ a → H b = none := fun b n => Classical.byContradiction fun q => n (hA b q)
    have dicts : ∀ {b : Addr} {o : Obj} {es : Array DictEntry} {ep : Nat}, s₁.heap.get? b = some o → o.data = .dict es ep → b ≠ a := fun {b o es ep} e d q => by
      subst q
      rw [ha] at e
      cases e
      cases (show Data.seq vs.toArray _ = Data.dict es ep from d)
    have spaces : ∀ {b : Addr} {m : Str → Option Value}, s₁.heap.Ns b m → (hidT s₁.heap H).Ns b m := fun ⟨o, es, ep, e, d, r⟩ => ⟨o, es, ep, hidT_get e (one _ (dicts e d)), d, r⟩
    have kin : K.In (hidT s₁.heap H) := fun b o e => hidT_get (KX b o e) (Classical.byContradiction fun q => by
      have e2 : b = a := hA b q
      subst e2
      rw [hK q] at e
      cases e)
    obtain ⟨mc, l1, l2⟩ := hlim
    refine codeAny_mono ((F _ kin (spaces hns)).run callerA [] s₁ H ⟨[.ref a], []⟩ [.ref a] [.ref a] _ _ rfl hr
      ⟨rfl, ⟨kin, spaces hns, ⟨mb, spaces hb, hbb⟩, ⟨mc, spaces l1, l2⟩⟩, fun b o e => of_hidT e, Nat.le_of_eq (hidT_size _ _), trivial, fun b hb => absurd (show b ∈ ([] : List Addr) from hb) (by simp), hok, .of_eq hg⟩
      (hbind s₁ (.ref a)) (.cons rfl .nil) (hsp H hO hS)) fun r s' h => ?_
    match r, h with
    | .error e, h => exact (hCX H e s' h).elim
    | .ok (.ret u), ⟨v, H', os, bare, un, hok', r', q⟩ =>
      cases (show v = .bl true from q)
      cases (show u = Value.bool true from r')
      refine ⟨rfl, OldK.of_keep fun b o e => ?_, os, bare⟩
      rcases hO b with z | ⟨ob, xs, z⟩
      · exact un.keep b o e z (fun y => absurd (show b ∈ ([] : List Addr) from y) (by simp)) (by simp)
      · obtain ⟨e1, _⟩ := hok b _ z
        obtain ⟨e2, _⟩ := hok' b _ (un.frzs b ob _ z)
        rw [e] at e1
        cases e1
        exact e2
  cases hk : K.lookup a with
  | some o =>
    have e := KX a o hk
    rw [ha] at e
    cases e
    exact core (fun _ => none) (fun _ => .inl rfl) (.inr ⟨_, vs.toArray, _, hk, rfl, rfl, rfl, by rw [List.size_toArray, hi.length]; exact hl, by simpa using rv⟩) (fun b u z => nomatch (show (none : Option HO) = some u from z)) (fun b z => absurd rfl z) fun z => absurd rfl z
  | none =>
    have at' : ∀ b, b ≠ a → (if b = a then some (HO.frz { cls := .type "list", data := .seq vs.toArray } (.lst (ns.map V.int))) else none) = none := fun b n => if_neg n
    refine core (fun b => if b = a then some (.frz { cls := .type "list", data := .seq vs.toArray } (.lst (ns.map V.int))) else none) (fun b => ?_) (.inl (.inr ⟨{ cls := .type "list", data := .seq vs.toArray }, if_pos rfl⟩)) (fun b u z => ?_) (fun b z => Classical.byContradiction fun n => z (at' b n)) fun _ => hk
    · by_cases hb : b = a
      · exact .inr ⟨_, _, if_pos hb⟩
      · exact .inl (at' b hb)
    · by_cases hb : b = a
      · subst hb
        cases (if_pos rfl).symm.trans z
        exact ⟨ha, by rw [List.length_map]; exact hl, vs, _, rv, ha⟩
      · cases (at' b hb).symm.trans z
theorem walkG {l : PySem.W.OpenLaw} {n k : Nat} {q : Program} {loose : List Str} {XP : (Str → Option Value) → Heap → Prop} {YP : World → Heap → Prop} {d : DefRec} {K : Params → PySem.W.Frag} {CX : World → CXT} {sp : World → Sp} {x : Str}
    (hn : l.most = some n) (hn2 : n ≤ sizeLine) (hdf : d.params.defaults = []) (hr : Room k callerA) (hY : ∀ (w : World) (h : Heap), YP w h → (K w.params).In h)
    (F : ∀ (w : World) (mg : Str → Option Value) (fa : Addr) (h : Heap), (K w.params).In h → h.Ns PySem.mainGlobals mg → mg d.name = some (.ref fa) →
      ∃ fd : FuncData, (∀ (s : Shared) (u : Value), BindsTo s fd ⟨[u], []⟩ [(x, u)]) ∧
        ∀ base : Heap, (K w.params).In base → base.Ns PySem.mainGlobals mg → FnG l.prog w (K w.params) mg base (CX w) k fa fd [x] (sp w))
    (hsp : ∀ (w : World) (H : Hp) (a : Addr) (ns : List Int), ns.length ≤ n → Only H → SqL (K w.params) H a (ns.map V.int) → sp w [.ref a] H (fun v _ => v = .bl true) fun _ _ _ => False)
    (hCX : ∀ (w : World) (H : Hp) (s : Shared) (e : Value) (s' : Shared), CX w [] H s (fun _ _ _ => False) e s' → False) :
    PySem.W.WalkO q loose XP YP l.row.toRowW d [] (fun f vs => PySem.call f vs) := by
  refine Att.attach_call hn hdf fun w s₀ s₁ mg mb fa o pm cd doc a vs ns G Y ho hd hcd hmg hobj hints hlen hg => ?_
  have KX := hY w _ Y
  obtain ⟨fd, hb, hF⟩ := F w mg fa _ KX G.T.g hmg
  exact law_callG KX G.T.g G.T.b G.T.builtins G.T.nolimit hg hobj hints (Nat.le_trans hlen hn2) hr hF hb (fun H hO hS => hsp w H a ns hlen hO hS) fun H e s' => hCX w H s₁ e s'
end Kb
namespace Kb
open PySem PySem.Spec PyProof.Rows L2
theorem repr_u {k : Nat} {A : Around} (hr : Room k A) : A.units + 65 < cLine := by have := hr.un; omega
theorem Fun.okG {P : Program} {w : World} {K : PySem.W.Frag} {mg : Str → Option Value} {base : Heap} {k : Nat} {f : Addr} {x qual : Str} {st : Stmt} {fd : FuncData} {N ps : List Str} {sp : Sp} (F : Fun K x qual st f fd) (S : FnScope N ps (defScope st)) (len : ∀ vs H Q E, sp vs H Q E → vs.length = ps.length)
    (hbody : ∀ (cdv : Value) (A : Around) (outer : List Env) (s : Shared) (H : Hp) (vs : List V) (Q : VK) (E : XK), A.guards = some [] → Room k (A.deeper (envOfC qual (defScope st) s.heap.objs.size f cdv)) → sp vs H Q E →
      ∃ t, PSs (cxOf CX0 P w K mg base N qual (defScope st) f cdv A outer s H E).nox (defBody st) t ∧ t { nx := fun _ H' => Q .non H', rt := Q } (start N vs) H) : FnG P w K mg base CX0 (k + 1) f fd ps sp :=
  fnG_of F S len fun cdv A outer s H vs Q E hg hr h => let ⟨t, a, q⟩ := hbody cdv A outer s H vs Q E hg hr h; ⟨t, a.nox, q⟩
end Kb
namespace Kb
open PySem PySem.Spec PyProof.Rows L2 TL
/-! ### a text times a number -/
def rMulS : R2 := fun x y H Q => ∃ (a : Str) (n : Int), x = .str a ∧ y = .int n ∧ n ≤ 1000 ∧ 0 ≤ n ∧ a.length ≤ 1000 ∧ ∀ z : Str, tl z = (List.replicate n.toNat (tl a)).flatten → Q (.str z) H
theorem foldl_app (c : Array Nat) : ∀ (m : Nat) (acc : Array Nat), ((List.replicate m c).foldl (· ++ ·) acc).toList = acc.toList ++ (List.replicate m c.toList).flatten
  | 0, acc => by simp
  | m + 1, acc => by
    rw [List.replicate_succ, List.foldl_cons, foldl_app c m, List.replicate_succ, List.flatten_cons, Array.toList_append, List.append_assoc]
theorem op_mulS {X : Cx} : OpR X (binaryOp .Mult) rMulS := by
  intro pins s σ H x y v u Q I rx ry h
  obtain ⟨a, n, rfl, rfl, h1, h2, h3, q⟩ := h
  obtain ⟨t, rfl⟩ := rx
  obtain ⟨t2, rfl⟩ := ry
  have hz : a.length * n.toNat ≤ 1000 * 1000 := Nat.mul_le_mul h3 (by omega)
  have hline : sizeLine = 16777216 := sizeLine_eq
  refine PySem.P.mul_str (by rw [decide_eq_false (by omega), decide_eq_false (by omega)]; rfl) (fun h4 _ h5 => ?_) (fun _ _ => ?_) ?_
  · have h6 : (1000 : Int) ≤ (2 ^ 63 - 1) / n := Int.le_ediv_of_mul_le (by omega) (by omega)
    omega
  · unfold Builtin.Str.tooLong
    rw [hline]
    exact decide_eq_false (by omega)
  · by_cases hn : n < 1
    · rw [if_pos hn]
      have e : n = 0 := by omega
      subst e
      exact ⟨by decide, .str Str.empty, H, I.tok _, ⟨_, rfl⟩, q Str.empty rfl⟩
    · rw [if_neg hn]
      by_cases h5 : (n == 1 || a.length == 0) = true
      · rw [if_pos h5]
        refine ⟨.str a, H, I, ⟨_, rfl⟩, q a ?_⟩
        rw [Bool.or_eq_true, beq_iff_eq, beq_iff_eq] at h5
        rcases h5 with rfl | h5
        · simp
        · rw [len_tl] at h5
          rw [List.eq_nil_of_length_eq_zero h5]; simp
      · rw [if_neg h5]
        refine ⟨?_, .str ⟨(List.replicate n.toNat a.cps).foldl (· ++ ·) #[]⟩, H, I.tok _, ⟨_, rfl⟩, q _ ?_⟩
        · rw [hline, len_tl]
          show (((List.replicate n.toNat a.cps).foldl (· ++ ·) #[]).toList).length ≤ _
          rw [foldl_app]
          have : ((List.replicate n.toNat a.cps.toList).flatten).length = n.toNat * a.length := by
            rw [PyProof.Rows.lm_len_rep_flat]; rfl
          simp only [Array.toList_empty, List.nil_append]
          rw [this, Nat.mul_comm]
          omega
        · show (((List.replicate n.toNat a.cps).foldl (· ++ ·) #[]).toList) = _
          rw [foldl_app]
          rfl
end Kb

namespace Kb
open PySem PySem.Spec PyProof.Rows L2 TL
/-! ### texts of plain signs -/
def ascii (x : Str) : Prop := ∀ s ∈ tl x, s < 128
theorem ascii.app {x y : Str} (a : ascii x) (b : ascii y) : ascii (x ++ y) := fun s hs => by
  rw [tl_append] at hs
  rcases List.mem_append.mp hs with q | q
  · exact a s q
  · exact b s q
theorem joinE : ∀ L : List (List Nat), joinL [] L = L.flatten
  | [] => rfl
  | [p] => by simp [joinL]
  | p :: q :: r => by
    show p ++ ([] ++ joinL [] (q :: r)) = _
    rw [joinE (q :: r)]
    rfl
theorem ascii.join {c : Str} {W : List Str} (hc : ascii c) (h : ∀ x ∈ W, ascii x) : ascii (Txt.join c W) := fun s hs => by
  rw [join_tl] at hs
  induction W with
  | nil => simp [joinL] at hs
  | cons p W ih =>
    cases W with
    | nil => exact h p (List.mem_cons_self ..) s (by simpa [joinL] using hs)
    | cons q r =>
      have hs : s ∈ tl p ++ (tl c ++ joinL (tl c) ((q :: r).map tl)) := hs
      rcases List.mem_append.mp hs with g | g
      · exact h p (List.mem_cons_self ..) s g
      · rcases List.mem_append.mp g with g | g
        · exact hc s g
        · exact ih (fun x hx => h x (List.mem_cons_of_mem _ hx)) g
theorem ascii.cut {x : Str} {lo hi : Option Int} (h : ascii x) : ascii (cutS x lo hi) := fun s hs => by
  have hs : s ∈ ((tl x).drop (HT.sIx x.length 0 lo)).take (HT.sIx x.length x.length hi - HT.sIx x.length 0 lo) := hs
  exact h s (List.mem_of_mem_drop (List.mem_of_mem_take hs))
theorem cut_len {x : Str} {lo hi : Option Int} : (cutS x lo hi).length ≤ x.length := by
  rw [len_tl, len_tl]
  show (((tl x).drop (HT.sIx x.length 0 lo)).take (HT.sIx x.length x.length hi - HT.sIx x.length 0 lo)).length ≤ _
  rw [List.length_take, List.length_drop]
  omega
theorem ascii.rep {x y : Str} {n : Nat} (h : ascii x) (e : tl y = (List.replicate n (tl x)).flatten) : ascii y := fun s hs => by
  rw [e, List.mem_flatten] at hs
  obtain ⟨l, hl, hs⟩ := hs
  rw [List.eq_of_mem_replicate hl] at hs
  exact h s hs
theorem ascii.up {x : Str} (h : ascii x) : ascii (Txt.upper x) ∧ (Txt.upper x).length = x.length := by
  have e : tl (Txt.upper x) = (tl x).map up1 := by rw [upper_ascii h]; simp [tl]
  refine ⟨fun s hs => ?_, by rw [len_tl, e, List.length_map, ← len_tl]⟩
  rw [e] at hs
  obtain ⟨c, hc, rfl⟩ := List.mem_map.mp hs
  have : ∀ c, c < 128 → up1 c < 128 := by decide +kernel
  exact this c (h c hc)
theorem lower_tl {x : Str} (h : ascii x) : tl (Txt.lower x) = (tl x).map lo1 := by rw [lower_ascii h]; simp [tl]
theorem ascii.low {x : Str} (h : ascii x) : ascii (Txt.lower x) ∧ (Txt.lower x).length = x.length := by
  refine ⟨fun s hs => ?_, by rw [len_tl, lower_tl h, List.length_map, ← len_tl]⟩
  rw [lower_tl h] at hs
  obtain ⟨c, hc, rfl⟩ := List.mem_map.mp hs
  have : ∀ c, c < 128 → lo1 c < 128 := by decide +kernel
  exact this c (h c hc)
/-- a sign of a written text -/
theorem sign_at {z : Str} {r : Int} (h0 : 0 ≤ r) (h1 : r < (z.length : Int)) (ha : ascii z) : ∃ c : Nat, atI z.cps.toList r = some c ∧ ascii (⟨#[c]⟩ : Str) := by
  obtain ⟨n, rfl⟩ : ∃ n : Nat, r = (n : Int) := ⟨r.toNat, by omega⟩
  have hn : n < (tl z).length := by rw [← len_tl]; omega
  refine ⟨(tl z)[n], atI_nat (List.getElem?_eq_getElem hn), fun s hs => ?_⟩
  have : s = (tl z)[n] := by simpa [tl] using hs
  rw [this]
  exact ha _ (List.getElem_mem hn)
end Kb
namespace Kb
open PySem PySem.Spec PyProof.Rows L2 TL
theorem ends_at {x : Str} (h : 1 ≤ x.length) : ∃ a z : Nat, atI x.cps.toList 0 = some a ∧ atI x.cps.toList (-1) = some z ∧ (tl x).head? = some a ∧ (tl x).getLast? = some z := by
  have hne : tl x ≠ [] := fun e => by rw [len_tl, e] at h; simp at h
  obtain ⟨r, d, er⟩ := snoc_of_ne hne
  obtain ⟨a, r2, ea⟩ : ∃ a r2, tl x = a :: r2 := List.exists_cons_of_ne_nil hne
  refine ⟨a, d, ?_, ?_, by rw [ea]; rfl, by rw [er, List.getLast?_concat]⟩
  · show atI (tl x) ((0 : Nat) : Int) = _; rw [ea]; exact atI_nat rfl
  · show atI (tl x) (-1) = _; rw [er]; exact atI_last r d
theorem ascii_lit {x : Str} (h : (tl x).all (· < 128) = true) : ascii x := fun s hs => by
  have := List.all_eq_true.mp h s hs
  simpa using this
end Kb
namespace Kb
open PySem PySem.Spec PyProof.Rows L2 TL
/-- a comprehension over a text -/
theorem lc_str {z : Str} {g : TG} {tt : TT} {te : TE} {vs : List Nat} {σ : L2.St} {H1 : Hp} {D : Addr} {Qd : Hp → Prop} (Pv : Nat → Hp → Prop) (h0 : Pv 0 (L2.upd H1 D (.lst [])))
    (hs : ∀ i c H, (tl z)[i]? = some c → Pv i H → g (.str ⟨#[c]⟩) (wipe σ vs) H fun σ2 H2 => wipe σ2 vs = wipe σ vs ∧ tt σ2 H2 fun b H3 =>
      if b = true then te σ2 H3 fun y H4 => ∃ acc, H4 D = some (.lst acc) ∧ acc.length < sizeLine ∧ Pv (i + 1) (L2.upd H4 D (.lst (acc ++ [y]))) else Pv (i + 1) H3) (hd : ∀ H, Pv (tl z).length H → Qd H) :
    ∃ W : Nat → Nat → Hp → Prop, (∃ m, W 0 m (L2.upd H1 D (.lst []))) ∧ ∀ i m H, W i m H →
      ((Its z).stop i H ∧ Qd H) ∨ ((Its z).go i H ∧ ∃ Nx : Hp → Prop, (∀ H', Nx H' → ∃ m', m' < m ∧ W (i + 1) m' H') ∧ ∀ x H', (Its z).yld i H x H' → g x (wipe σ vs) H' fun σ2 H2 => wipe σ2 vs = wipe σ vs ∧ tt σ2 H2 fun b H3 =>
        if b = true then te σ2 H3 fun y H4 => ∃ acc, H4 D = some (.lst acc) ∧ acc.length < sizeLine ∧ Nx (L2.upd H4 D (.lst (acc ++ [y]))) else Nx H3) := by
  refine lc_it walk_str Pv h0 (fun _ _ _ _ => trivial) (fun i x H H' hi p y => ?_) (fun H p => hd H (by rw [show (tl z).length = z.cps.size by simp [tl]]; exact p))
  obtain ⟨rfl, c, hc, rfl⟩ := y
  exact hs i c _ (by rw [← hc]; simp [tl]) p
/-- the last part of a text -/
def smallS (x : Str) : Prop := x.length ≤ 1000 ∧ ascii x
theorem lay_str {x : Str} (h : ascii x) : PyData.canLay0 (.str x) = true := by
  rw [PyData.canLay0]
  show x.cps.all _ = true
  rw [Array.all_eq_true_iff_forall_mem]
  intro s hs
  have := h s (Array.mem_toList_iff.mpr hs)
  exact decide_eq_true (by omega)
end Kb
namespace Kb
open PySem PySem.Spec PyProof.Rows L2 TL
theorem Same.put {H H1 : Hp} {L : Addr} {o : HO} (s : Same H H1) (h : H L = none) : Same H (L2.upd H1 L o) := fun b u e => by
  rw [upd_ne (ne_of_none e h)]
  exact s b u e
theorem all_take1 {α : Type} {p : α → Bool} {l : List α} {i : Nat} {c : α} (h : l[i]? = some c) : (l.take (i + 1)).all p = ((l.take i).all p && p c) := by
  rw [List.take_succ, h, List.all_append]
  simp
theorem eq_nil_snoc {α : Type} {W : List α} {x : α} : (W ++ [x] = []) ↔ False := by simp
theorem lay_strs {W : List Str} (h : ∀ w ∈ W, ascii w) : SeqAt.shaped (.list (W.map PyData.str)) = true := shaped_strs fun w hw => lay_str (h w hw)
theorem eqv_nil (W : List Str) : PyData.eqv (.list (W.map PyData.str)) (.list (([] : List Str).map PyData.str)) = decide (W = []) := by rw [PyData.eqv, eqvAll_strs]
theorem tl_lsig2 : ("abcdefghijklmnopqrstuvwxyz0123456789-" : Str).cps.toList = lsig := tl_lsig
theorem tl_digs2 : ("0123456789" : Str).cps.toList = digs := tl_digs
theorem ascii_mem {x : Str} {i c : Nat} (h : ascii x) (hi : (tl x)[i]? = some c) : ascii (⟨#[c]⟩ : Str) := fun s hs => by
  have : s = c := by simpa [tl] using hs
  rw [this]
  exact h c (List.mem_of_getElem? hi)
end Kb
namespace Kb
open PySem PySem.Spec PyProof.Rows L2 TL
theorem numB_iff {l : List Nat} : numB l = true ↔ ∃ j, j < 256 ∧ l = numL j := by
  constructor
  · intro h
    unfold numB at h
    rw [Bool.and_eq_true, Bool.and_eq_true, Bool.or_eq_true, decide_eq_true_eq, decide_eq_true_eq, decide_eq_true_eq] at h
    obtain ⟨hd, hv, hz⟩ := h
    obtain ⟨had, hne⟩ := digB_iff.mp hd
    refine ⟨NumText.digitsVal l, by omega, ?_⟩
    obtain ⟨n, hn⟩ : ∃ n, l.length = n + 1 := ⟨l.length - 1, by have := List.length_pos_iff.mpr hne; omega⟩
    have e := NumText.toDigits_digitsVal n l hn had (by
      rcases hz with rfl | hz
      · left; simp at hn; omega
      · right
        obtain ⟨c, r, rfl⟩ := List.exists_cons_of_ne_nil hne
        refine ⟨c, r, rfl, ?_⟩
        have := had c (List.mem_cons_self ..)
        have hc : c ≠ 48 := fun q => hz (by rw [q]; rfl)
        omega)
    show l = (Nat.toDigits 10 (NumText.digitsVal l)).map Char.toNat
    rw [e, List.map_map]
    refine (List.map_id l).symm.trans (List.map_congr_left fun c hc => ?_)
    have h1 := had c hc
    have : ∀ c, c < 58 → c = (Char.ofNat c).toNat := by decide +kernel
    exact this c (by omega)
  · rintro ⟨j, hj, rfl⟩
    have : ∀ j, j < 256 → numB (numL j) = true := by decide +kernel
    exact this j hj
end Kb
namespace Kb
open PySem PySem.Spec PyProof.Rows L2 TL PySem.StrLaws Builtin.Str
/-! ### texts that tell hosts -/
def stripDot (l : List Nat) : List Nat := if l.getLast? = some 46 then l.dropLast else l
def tellsL (l : List Nat) : Bool := hostB (stripDot l)
def beginsB (l : List Nat) : Bool := hostB l || (hostB (l ++ [97]) || hostB (l ++ [46, 97]))
def goodL (l : List Nat) : Bool := tellsL l || beginsB l
def PlaceIs (m : List Nat) (k : Nat) : Prop := (k = m.length + 1 ∧ ∀ j, j < m.length → goodL (m.take (j + 1)) = true) ∨ (1 ≤ k ∧ k ≤ m.length ∧ goodL (m.take k) = false ∧ ∀ j, j + 1 < k → goodL (m.take (j + 1)) = true)
theorem PlaceIs.uniq {m : List Nat} {k k' : Nat} (a : PlaceIs m k) (b : PlaceIs m k') : k = k' := by
  rcases a with ⟨a1, a2⟩ | ⟨a0, a1, a2, a3⟩ <;> rcases b with ⟨b1, b2⟩ | ⟨b0, b1, b2, b3⟩
  · omega
  · have := a2 (k' - 1) (by omega)
    rw [show k' - 1 + 1 = k' by omega, b2] at this
    cases this
  · have := b2 (k - 1) (by omega)
    rw [show k - 1 + 1 = k by omega, a2] at this
    cases this
  · rcases Nat.lt_trichotomy k k' with q | q | q
    · have := b3 (k - 1) (by omega)
      rw [show k - 1 + 1 = k by omega, a2] at this
      cases this
    · exact q
    · have := a3 (k' - 1) (by omega)
      rw [show k' - 1 + 1 = k' by omega, b2] at this
      cases this
theorem host_dot {l : List Nat} (h : l.getLast? = some 46) : hostB l = false := by
  have hne : l ≠ [] := fun e => by rw [e] at h; cases h
  obtain ⟨r, d, er⟩ := snoc_of_ne hne
  rw [er, List.getLast?_concat] at h
  have hd : d = 46 := Option.some.inj h
  subst hd
  have e : sp1 46 l = sp1 46 r ++ [[]] := by rw [er, sp1_app]; rfl
  unfold hostB hostL
  have : (sp1 46 l).all labB = false := by
    rw [e, List.all_append]
    have : [([] : List Nat)].all labB = false := by decide +kernel
    rw [this, Bool.and_false]
  rw [this, Bool.false_and, Bool.and_false, Bool.and_false]
theorem strip_other {l : List Nat} (h : l.getLast? ≠ some 46) : stripDot l = l := if_neg h
theorem strip_dot {l : List Nat} : stripDot (l ++ [46]) = l := by
  unfold stripDot
  rw [if_pos (by rw [List.getLast?_concat]), List.dropLast_concat]
theorem tellsL_or (l : List Nat) : tellsL l = (hostB l || (decide (l.getLast? = some 46) && hostB l.dropLast)) := by
  unfold tellsL stripDot
  by_cases h : l.getLast? = some 46
  · rw [if_pos h, host_dot h, decide_eq_true h]; rfl
  · rw [if_neg h, decide_eq_false h, Bool.false_and, Bool.or_false]
theorem law_begins (l : List Nat) : (tellsL l || (tellsL (l ++ [97]) || (tellsL (l ++ [46, 97]) || tellsL (l ++ [46])))) = goodL l := by
  have e1 : tellsL (l ++ [97]) = hostB (l ++ [97]) := by unfold tellsL; rw [strip_other (by rw [List.getLast?_concat]; decide)]
  have e2 : tellsL (l ++ [46, 97]) = hostB (l ++ [46, 97]) := by
    unfold tellsL
    rw [strip_other]
    rw [show l ++ [46, 97] = (l ++ [46]) ++ [97] by simp, List.getLast?_concat]; decide
  have e3 : tellsL (l ++ [46]) = hostB l := by unfold tellsL; rw [strip_dot]
  rw [e1, e2, e3]
  unfold goodL beginsB
  cases tellsL l <;> cases hostB l <;> cases hostB (l ++ [97]) <;> cases hostB (l ++ [46, 97]) <;> rfl
theorem removesuffix_dot (x : Str) : tl (Txt.removesuffix x ("." : Str)) = stripDot (tl x) := by
  unfold Txt.removesuffix
  have d1 : ("." : Str).length = 1 := by decide +kernel
  by_cases h : (tl x).getLast? = some 46
  · have hne : tl x ≠ [] := fun e => by rw [e] at h; cases h
    obtain ⟨r, d, er⟩ := snoc_of_ne hne
    rw [er, List.getLast?_concat] at h
    have hd : d = 46 := Option.some.inj h
    subst hd
    have hl : x.length = r.length + 1 := by rw [len_tl, er]; simp
    have hs : subAt x ("." : Str) (x.length - ("." : Str).length) = true := by
      rw [subAt_eq, d1, hl]
      show (List.take 1 (List.drop (r.length + 1 - 1) (tl x)) == tl ("." : Str)) = true
      rw [er, tl_dot, Nat.add_sub_cancel, List.drop_left]
      rfl
    rw [if_pos (by rw [hs, d1, hl]; simp), er, strip_dot]
    show tl (if x.length - ("." : Str).length - 0 == x.length then x else strSub x 0 (x.length - ("." : Str).length)) = r
    rw [if_neg (by rw [d1, hl]; simp), tl_strSub, er, d1, hl]
    simp
  · rw [strip_other h, if_neg]
    · rfl
    · intro g
      rw [Bool.and_eq_true] at g
      obtain ⟨g1, g2⟩ := g
      have g1 : ("." : Str).length ≤ x.length := of_decide_eq_true g1
      rw [d1] at g1
      rw [subAt_eq, d1] at g2
      have g2 : (List.take 1 (List.drop (x.length - 1) (tl x)) == tl ("." : Str)) = true := g2
      rw [tl_dot] at g2
      have hne : tl x ≠ [] := fun e => by rw [len_tl, e] at g1; simp at g1
      obtain ⟨r, d, er⟩ := snoc_of_ne hne
      have hl : x.length = r.length + 1 := by rw [len_tl, er]; simp
      rw [hl, Nat.add_sub_cancel, er, List.drop_left] at g2
      have : d = 46 := by simpa using g2
      rw [er, List.getLast?_concat, this] at h
      exact h rfl
theorem strip_low {l : List Nat} (h : ∀ s ∈ l, s < 128) : (stripDot l).map lo1 = stripDot (l.map lo1) := by
  by_cases hne : l = []
  · rw [hne]; rfl
  obtain ⟨r, d, rfl⟩ := snoc_of_ne hne
  have hd := h d (List.mem_append_right _ (List.mem_singleton.mpr rfl))
  have key : ∀ c, c < 128 → (lo1 c = 46 ↔ c = 46) := by decide +kernel
  rw [List.map_append, List.map_cons, List.map_nil]
  by_cases q : d = 46
  · subst q
    rw [strip_dot, show lo1 46 = 46 by decide, strip_dot]
  · rw [strip_other (by rw [List.getLast?_concat]; simpa using q), strip_other (by rw [List.getLast?_concat]; simpa using fun e => q ((key d hd).mp e)), List.map_append]
    rfl
def lowL (x : Str) : List Nat := (tl x).map lo1
theorem lowT_tl {x : Str} (h : ascii x) : tl (Txt.lower (Txt.removesuffix x ("." : Str))) = stripDot (lowL x) := by
  have e := removesuffix_dot x
  have a : ascii (Txt.removesuffix x ("." : Str)) := fun s hs => by
    rw [e] at hs
    unfold stripDot at hs
    split at hs
    · exact h s ((List.dropLast_sublist _).subset hs)
    · exact h s hs
  rw [lower_tl a, e]
  exact strip_low h
end Kb
namespace Kb
open PySem PySem.Spec PyProof.Rows L2 TL PySem.StrLaws Builtin.Str
theorem cutS_m1 (z : Str) : tl (cutS z none (some (-1))) = (tl z).dropLast := by
  show ((tl z).drop (HT.sIx z.length 0 none)).take (HT.sIx z.length z.length (some (-1)) - HT.sIx z.length 0 none) = _
  rw [HT.sIx_none, List.drop_zero, Nat.sub_zero, List.dropLast_eq_take, len_tl]
  have e : HT.sIx (tl z).length (tl z).length (some (-1)) = (tl z).length - 1 := by
    show (if (-1 : Int) < 0 then ((-1 : Int) + ((tl z).length : Int)).toNat else min (-1 : Int).toNat (tl z).length) = _
    rw [if_pos (by decide)]
    omega
  rw [e]
theorem cutS_l1 (z : Str) : tl (cutS z (some (-1)) none) = lastN 1 (tl z) := by
  show ((tl z).drop (HT.sIx z.length 0 (some (-1)))).take (HT.sIx z.length z.length none - HT.sIx z.length 0 (some (-1))) = _
  rw [HT.sIx_none, len_tl]
  have e : HT.sIx (tl z).length 0 (some (-1)) = (tl z).length - 1 := by
    show (if (-1 : Int) < 0 then ((-1 : Int) + ((tl z).length : Int)).toNat else min (-1 : Int).toNat (tl z).length) = _
    rw [if_pos (by decide)]
    omega
  rw [e]
  exact List.take_of_length_le (by rw [List.length_drop] <;> omega)
theorem last_dot (z : Str) : decide (V.str (cutS z (some (-1)) none) = V.str ("." : Str)) = decide ((tl z).getLast? = some 46) := by
  rw [Bool.eq_iff_iff, decide_eq_true_eq, decide_eq_true_eq, V.str.injEq, str_eq_iff, cutS_l1, tl_dot]
  by_cases h : tl z = []
  · rw [h]; simp [lastN]
  · obtain ⟨r, d, er⟩ := snoc_of_ne h
    rw [er, List.getLast?_concat]
    unfold lastN
    rw [List.length_append, List.length_singleton, Nat.add_sub_cancel, List.drop_left]
    simp
end Kb
namespace Kb
open PySem PySem.Spec PyProof.Rows L2 TL
def Ans03 (H' : Hp) (m : List Nat) (v : V) : Prop := (tellsL m = true ∧ ∃ (p : Addr) (y : Str), v = .ref p ∧ H' p = some (.lst [.str y]) ∧ tl y = stripDot m) ∨ (tellsL m = false ∧ ∃ k : Nat, v = .int (k : Nat) ∧ PlaceIs m k)
theorem strip_len {l : List Nat} : (stripDot l).length ≤ l.length := by
  unfold stripDot
  split
  · rw [List.length_dropLast]; omega
  · exact Nat.le_refl _
theorem rs_len (x : Str) : (Txt.removesuffix x ("." : Str)).length ≤ x.length := by
  rw [len_tl, removesuffix_dot, len_tl]; exact strip_len
end Kb
namespace Kb
open PySem PySem.Spec PyProof.Rows L2 TL
/-- the first place at which a text begins no host -/
def PlaceB (m : List Nat) (k : Nat) : Prop := (k = m.length + 1 ∧ ∀ j, j < m.length → beginsB (m.take (j + 1)) = true) ∨ (1 ≤ k ∧ k ≤ m.length ∧ beginsB (m.take k) = false ∧ ∀ j, j + 1 < k → beginsB (m.take (j + 1)) = true)
theorem PlaceB.uniq {m : List Nat} {k k' : Nat} (a : PlaceB m k) (b : PlaceB m k') : k = k' := by
  rcases a with ⟨a1, a2⟩ | ⟨a0, a1, a2, a3⟩ <;> rcases b with ⟨b1, b2⟩ | ⟨b0, b1, b2, b3⟩
  · omega
  · have := a2 (k' - 1) (by omega)
    rw [show k' - 1 + 1 = k' by omega, b2] at this
    cases this
  · have := b2 (k - 1) (by omega)
    rw [show k - 1 + 1 = k by omega, a2] at this
    cases this
  · rcases Nat.lt_trichotomy k k' with q | q | q
    · have := b3 (k - 1) (by omega)
      rw [show k - 1 + 1 = k by omega, a2] at this
      cases this
    · exact q
    · have := a3 (k' - 1) (by omega)
      rw [show k' - 1 + 1 = k' by omega, b2] at this
      cases this
end Kb
namespace Kb
open PySem PySem.Spec PyProof.Rows L2
theorem ty_same {K : PySem.W.Frag} {H H' : Hp} {v : V} {t : Value} (s : Same H H') (h : TyX K H v t) : TyX K H' v t := by
  cases h with
  | base h =>
    refine .base ?_
    cases h with
    | non => exact .non
    | bl x => exact .bl x
    | int i => exact .int i
    | str x => exact .str x
    | flt x => exact .flt x
    | lst e => exact .lst (s _ _ e)
    | frz e => exact .frz (s _ _ e)
    | tup e => exact .tup (s _ _ e)
    | dK e => exact .dK (s _ _ e)
    | dT e => exact .dT (s _ _ e)
    | ins e cl ha hn htk hm => exact .ins (s _ _ e) cl ha hn htk hm
  | byt b => exact .byt b
  | set e => exact .set (s _ _ e)
  | kList e c => exact .kList e c
  | kTuple e c => exact .kTuple e c
  | kDict e c => exact .kDict e c
  | fTuple e => exact .fTuple (s _ _ e)
  | fDict e => exact .fDict (s _ _ e)
end Kb

namespace Kb
open PySem PySem.Spec PyProof.Rows L2 TL
/-! ### texts of addresses -/
/-- the first beginning that is not good -/
def Bad1 (g : List Nat → Bool) (m : List Nat) (k : Nat) : Prop := (k = m.length + 1 ∧ ∀ j, j < m.length → g (m.take (j + 1)) = true) ∨ (1 ≤ k ∧ k ≤ m.length ∧ g (m.take k) = false ∧ ∀ j, j + 1 < k → g (m.take (j + 1)) = true)
theorem Bad1.uniq {g : List Nat → Bool} {m : List Nat} {k k' : Nat} (a : Bad1 g m k) (b : Bad1 g m k') : k = k' := by
  rcases a with ⟨a1, a2⟩ | ⟨a0, a1, a2, a3⟩ <;> rcases b with ⟨b1, b2⟩ | ⟨b0, b1, b2, b3⟩
  · omega
  · have := a2 (k' - 1) (by omega)
    rw [show k' - 1 + 1 = k' by omega, b2] at this
    cases this
  · have := b2 (k - 1) (by omega)
    rw [show k - 1 + 1 = k by omega, a2] at this
    cases this
  · rcases Nat.lt_trichotomy k k' with q | q | q
    · have := b3 (k - 1) (by omega)
      rw [show k - 1 + 1 = k by omega, a2] at this
      cases this
    · exact q
    · have := a3 (k' - 1) (by omega)
      rw [show k' - 1 + 1 = k' by omega, b2] at this
      cases this
theorem Bad1.le {g : List Nat → Bool} {m : List Nat} {k : Nat} (a : Bad1 g m k) : 1 ≤ k ∧ k ≤ m.length + 1 := by
  rcases a with ⟨a1, a2⟩ | ⟨a0, a1, a2, a3⟩ <;> omega
def hS : List Nat := [104, 116, 116, 112, 58, 47, 47]
def sS : List Nat := [104, 116, 116, 112, 115, 58, 47, 47]
def schB (m : List Nat) : Bool := m.isPrefixOf hS || m.isPrefixOf sS
def schN (m : List Nat) : Option (List Nat × Nat) := if hS.isPrefixOf m = true then some ([104, 116, 116, 112], 7) else if sS.isPrefixOf m = true then some ([104, 116, 116, 112, 115], 8) else none
def stop3 (c : Nat) : Bool := decide (c = 47) || (decide (c = 63) || decide (c = 35))
def stop2 (c : Nat) : Bool := decide (c = 63) || decide (c = 35)
def hEnd (l : List Nat) : Nat := (l.takeWhile fun c => !stop3 c).length
inductive PR where
  | ok (n : Nat)
  | bad (n : Nat)
def pathR (r : List Nat) : PR := if 200 < (r.takeWhile psign).length then .bad 200 else match r[(r.takeWhile psign).length]? with
  | none => .ok (r.takeWhile psign).length
  | some c => if stop2 c = true then .ok (r.takeWhile psign).length else .bad (r.takeWhile psign).length
theorem tw_at {p : Nat → Bool} : ∀ {l : List Nat} {i : Nat}, (l.take i).all p = true → i ≤ l.length → (∀ c, l[i]? = some c → p c = false) → (l.takeWhile p).length = i
  | [], i, _, h, _ => by have : i = 0 := by simpa using h
                         subst this; rfl
  | x :: l, 0, _, _, h => by rw [List.takeWhile_cons_of_neg (by rw [h x rfl]; exact Bool.false_ne_true)]; rfl
  | x :: l, i + 1, ha, hl, h => by
    rw [List.take_succ_cons, List.all_cons, Bool.and_eq_true] at ha
    rw [List.takeWhile_cons_of_pos ha.1, List.length_cons, tw_at ha.2 (by simpa using hl) fun c hc => h c (by simpa using hc)]
theorem tw_ge {p : Nat → Bool} : ∀ {l : List Nat} {i : Nat}, (l.take i).all p = true → i ≤ l.length → i ≤ (l.takeWhile p).length
  | _, 0, _, _ => Nat.zero_le _
  | [], i + 1, _, h => by simp at h
  | x :: l, i + 1, ha, hl => by
    rw [List.take_succ_cons, List.all_cons, Bool.and_eq_true] at ha
    rw [List.takeWhile_cons_of_pos ha.1, List.length_cons]
    have := tw_ge ha.2 (by simpa using hl)
    omega
theorem hEnd_at {l : List Nat} {i c : Nat} (h : (l.take i).all (fun c => !stop3 c) = true) (hc : l[i]? = some c) (hs : stop3 c = true) : hEnd l = i :=
  tw_at h (Nat.le_of_lt (List.getElem?_eq_some_iff.mp hc).1) fun d hd => by rw [hc] at hd; cases hd; rw [hs]; rfl
theorem hEnd_all {l : List Nat} (h : l.all (fun c => !stop3 c) = true) : hEnd l = l.length :=
  tw_at (by rw [List.take_length]; exact h) (Nat.le_refl _) fun c hc => by rw [List.getElem?_eq_none (Nat.le_refl _)] at hc; cases hc
theorem psign_stop {c : Nat} (h : stop2 c = true) : psign c = false := by
  unfold stop2 at h
  rw [Bool.or_eq_true, decide_eq_true_eq, decide_eq_true_eq] at h
  rcases h with rfl | rfl <;> decide
theorem pathR_stop {r : List Nat} {i c : Nat} (h : (r.take i).all psign = true) (hi : i ≤ 200) (hc : r[i]? = some c) (hs : stop2 c = true) : pathR r = .ok i := by
  have e := tw_at h (Nat.le_of_lt (List.getElem?_eq_some_iff.mp hc).1) fun d hd => by rw [hc] at hd; cases hd; exact psign_stop hs
  unfold pathR
  rw [e, if_neg (by omega), hc]
  exact if_pos hs
theorem pathR_sign {r : List Nat} {i c : Nat} (h : (r.take i).all psign = true) (hi : i ≤ 200) (hc : r[i]? = some c) (hs : stop2 c = false) (hp : psign c = false) : pathR r = .bad i := by
  have e := tw_at h (Nat.le_of_lt (List.getElem?_eq_some_iff.mp hc).1) fun d hd => by rw [hc] at hd; cases hd; exact hp
  unfold pathR
  rw [e, if_neg (by omega), hc]
  exact if_neg (by rw [hs]; exact Bool.false_ne_true)
theorem pathR_long {r : List Nat} {c : Nat} (h : (r.take 200).all psign = true) (hc : r[200]? = some c) (hp : psign c = true) : pathR r = .bad 200 := by
  have := tw_ge (p := psign) (l := r) (i := 201) (by rw [all_at hc, h, hp]; rfl) (List.getElem?_eq_some_iff.mp hc).1
  unfold pathR
  rw [if_pos (by omega)]
theorem pathR_end {r : List Nat} (h : r.all psign = true) (hl : r.length ≤ 200) : pathR r = .ok r.length := by
  have e := tw_at (p := psign) (l := r) (i := r.length) (by rw [List.take_length]; exact h) (Nat.le_refl _) fun c hc => by rw [List.getElem?_eq_none (Nat.le_refl _)] at hc; cases hc
  unfold pathR
  rw [e, if_neg (by omega), List.getElem?_eq_none (Nat.le_refl _)]
def lows (l : List Nat) : List Nat := l.map lo1
def AddrOk (L sc ho pa : List Nat) : Prop := ∃ n k, schN (lows L) = some (sc, n) ∧ tellsL (lows ((L.drop n).take (hEnd (L.drop n)))) = true ∧ ho = stripDot (lows ((L.drop n).take (hEnd (L.drop n)))) ∧
  pathR ((L.drop n).drop (hEnd (L.drop n))) = .ok k ∧ pa = if k = 0 then [47] else ((L.drop n).drop (hEnd (L.drop n))).take k
def AddrBad (L : List Nat) (m : Nat) : Prop := (schN (lows L) = none ∧ Bad1 schB (lows L) m) ∨ ∃ sc n, schN (lows L) = some (sc, n) ∧
  ((tellsL (lows ((L.drop n).take (hEnd (L.drop n)))) = false ∧ ∃ j, Bad1 goodL (lows ((L.drop n).take (hEnd (L.drop n)))) j ∧ m = n + j) ∨
   (tellsL (lows ((L.drop n).take (hEnd (L.drop n)))) = true ∧ ∃ j, pathR ((L.drop n).drop (hEnd (L.drop n))) = .bad j ∧ m = n + hEnd (L.drop n) + j + 1))
theorem AddrOk.uniq {L a b c a' b' c' : List Nat} (h : AddrOk L a b c) (h' : AddrOk L a' b' c') : a = a' ∧ b = b' ∧ c = c' := by
  obtain ⟨n, k, h1, h2, h3, h4, h5⟩ := h
  obtain ⟨n', k', g1, g2, g3, g4, g5⟩ := h'
  rw [h1] at g1
  cases g1
  rw [h4] at g4
  cases g4
  exact ⟨rfl, h3.trans g3.symm, h5.trans g5.symm⟩
theorem AddrBad.uniq {L : List Nat} {m m' : Nat} (h : AddrBad L m) (h' : AddrBad L m') : m = m' := by
  rcases h with ⟨h1, h2⟩ | ⟨sc, n, h1, h2⟩ <;> rcases h' with ⟨g1, g2⟩ | ⟨sc', n', g1, g2⟩
  · exact h2.uniq g2
  · rw [h1] at g1; cases g1
  · rw [h1] at g1; cases g1
  · rw [h1] at g1
    cases g1
    rcases h2 with ⟨h2, j, h3, rfl⟩ | ⟨h2, j, h3, rfl⟩ <;> rcases g2 with ⟨g2, j', g3, rfl⟩ | ⟨g2, j', g3, rfl⟩
    · rw [h3.uniq g3]
    · rw [h2] at g2; cases g2
    · rw [h2] at g2; cases g2
    · rw [h3] at g3; cases g3; rfl
theorem AddrOk.bad {L a b c : List Nat} {m : Nat} (h : AddrOk L a b c) (g : AddrBad L m) : False := by
  obtain ⟨n, k, h1, h2, h3, h4, h5⟩ := h
  rcases g with ⟨g1, g2⟩ | ⟨sc', n', g1, g2⟩
  · rw [h1] at g1; cases g1
  · rw [h1] at g1
    cases g1
    rcases g2 with ⟨g2, j, g3, rfl⟩ | ⟨g2, j, g3, rfl⟩
    · rw [h2] at g2; cases g2
    · rw [h4] at g3; cases g3
theorem schN_sc {m sc : List Nat} {n : Nat} (h : schN m = some (sc, n)) : (sc = [104, 116, 116, 112] ∧ n = 7 ∨ sc = [104, 116, 116, 112, 115] ∧ n = 8) ∧ n ≤ m.length ∧ n = sc.length + 3 ∧ (sc ++ [58, 47, 47]) <+: m := by
  unfold schN at h
  split at h
  · rename_i g
    cases h
    have p := List.isPrefixOf_iff_prefix.mp g
    exact ⟨.inl ⟨rfl, rfl⟩, p.length_le, rfl, p⟩
  · split at h
    · rename_i g
      cases h
      have p := List.isPrefixOf_iff_prefix.mp g
      exact ⟨.inr ⟨rfl, rfl⟩, p.length_le, rfl, p⟩
    · cases h
theorem AddrBad.le {L : List Nat} {m : Nat} (h : AddrBad L m) : 1 ≤ m ∧ m ≤ L.length + 1 := by
  have e : (lows L).length = L.length := by unfold lows; rw [List.length_map]
  have hE : ∀ l, hEnd l ≤ l.length := fun l => (List.takeWhile_prefix _).length_le
  rcases h with ⟨h1, h2⟩ | ⟨sc, n, h1, h2⟩
  · have := h2.le; omega
  · have hn := (schN_sc h1).2.1
    have h3 := hE (L.drop n)
    rw [List.length_drop] at h3
    rcases h2 with ⟨h2, j, h4, rfl⟩ | ⟨h2, j, h4, rfl⟩
    · have := h4.le
      unfold lows at this
      rw [List.length_map, List.length_take, List.length_drop] at this
      omega
    · have hj : j ≤ ((L.drop n).drop (hEnd (L.drop n))).length := by
        have t := (List.takeWhile_prefix psign (l := (L.drop n).drop (hEnd (L.drop n)))).length_le
        unfold pathR at h4
        split at h4
        · cases h4; omega
        · split at h4
          · cases h4
          · split at h4
            · cases h4
            · cases h4; exact t
      rw [List.length_drop, List.length_drop] at hj
      omega
end Kb
namespace Kb
open PySem PySem.Spec PyProof.Rows L2 TL
/-! ### beginnings of hosts -/
theorem sp1_glue (c : Nat) : ∀ (p s : List Nat) (C : List (List Nat)) (q h : List Nat) (T : List (List Nat)), sp1 c p = C ++ [q] → sp1 c s = h :: T → sp1 c (p ++ s) = C ++ (q ++ h) :: T
  | [], s, C, q, h, T, e1, e2 => by
    have e1 : [[]] = C ++ [q] := e1
    cases C with
    | nil =>
      simp only [List.nil_append, List.cons.injEq, and_true] at e1
      subst e1
      exact e2
    | cons a C =>
      simp at e1
  | x :: p, s, C, q, h, T, e1, e2 => by
    by_cases hx : x = c
    · subst hx
      rw [sp1_hit] at e1
      rw [List.cons_append, sp1_hit]
      cases C with
      | nil =>
        simp only [List.nil_append, List.cons.injEq] at e1
        exact absurd e1.2 (sp1_ne _ _)
      | cons a C =>
        rw [List.cons_append, List.cons.injEq] at e1
        rw [sp1_glue x p s C q h T e1.2 e2, ← e1.1]; rfl
    · obtain ⟨a, r, e⟩ := sp1_cons c p
      rw [sp1_miss hx e] at e1
      rw [List.cons_append]
      cases C with
      | nil =>
        simp only [List.nil_append, List.cons.injEq] at e1
        obtain ⟨rfl, rfl⟩ := e1
        rw [sp1_miss hx (sp1_glue c p s [] a h T e e2)]; rfl
      | cons b C =>
        rw [List.cons_append, List.cons.injEq] at e1
        obtain ⟨rfl, rfl⟩ := e1
        rw [sp1_miss hx (sp1_glue c p s (a :: C) q h T e e2)]; rfl
theorem hostB_of {l : List Nat} {L : List (List Nat)} (e : sp1 46 l = L) (h1 : l.length ≤ 100) (h2 : L.length ≤ 10) (h3 : ∀ p ∈ L, labB p = true) (h4 : digB (lastL L) = false) : hostB l = true := by
  unfold hostB hostL
  rw [e, h4, decide_eq_true h1, decide_eq_true h2, List.all_eq_true.mpr h3]; rfl
theorem labB_open {q h : List Nat} (hl : labB (q ++ h) = true) (hq : q ≠ []) (h19 : q.length ≤ 19) : labB (q ++ [97]) = true ∧ digB (q ++ [97]) = false := by
  unfold labB onlyB at hl
  simp only [Bool.and_eq_true, List.all_eq_true, decide_eq_true_eq] at hl
  obtain ⟨g1, ⟨g2, g3⟩, g4, g5⟩ := hl
  obtain ⟨a, r, rfl⟩ := List.exists_cons_of_ne_nil hq
  refine ⟨?_, ?_⟩
  · unfold labB onlyB
    simp only [Bool.and_eq_true, List.all_eq_true, decide_eq_true_eq]
    refine ⟨by simp at h19 ⊢; omega, ⟨fun c hc => ?_, by simp⟩, by simpa using g4, by rw [List.getLast?_concat]; decide⟩
    rcases List.mem_append.mp hc with m | m
    · exact g2 c (List.mem_append_left _ m)
    · rw [List.mem_singleton.mp m]; decide
  · unfold digB onlyB
    rw [List.all_append, show [97].all (fun c => decide (c ∈ digs)) = false by decide, Bool.and_false, Bool.false_and]
theorem labB_a : labB [97] = true ∧ digB [97] = false := by decide
theorem host_prefix {H : List Nat} (h : hostB H = true) {i : Nat} (hi : 1 ≤ i) (hl : i ≤ H.length) : goodL (H.take i) = true := by
  unfold goodL
  rcases Nat.lt_or_ge i H.length with hlt | hge
  · have hs : H.drop i ≠ [] := fun e => by rw [List.drop_eq_nil_iff] at e; omega
    obtain ⟨C, q, e1⟩ : ∃ C q, sp1 46 (H.take i) = C ++ [q] := ⟨_, _, (List.dropLast_concat_getLast (sp1_ne 46 (H.take i))).symm⟩
    obtain ⟨g, T, e2⟩ := sp1_cons 46 (H.drop i)
    have eH := sp1_glue 46 _ _ C q g T e1 e2
    rw [List.take_append_drop] at eH
    unfold hostB hostL at h
    rw [eH] at h
    simp only [Bool.and_eq_true, List.all_eq_true, decide_eq_true_eq] at h
    obtain ⟨h1, h2, h3, _⟩ := h
    rw [List.length_append, List.length_cons] at h2
    have hqg := h3 (q ++ g) (List.mem_append_right _ (List.mem_cons_self ..))
    have hC : ∀ p ∈ C, labB p = true := fun p hp => h3 p (List.mem_append_left _ hp)
    have lt : (H.take i).length = i := by rw [List.length_take]; omega
    suffices beginsB (H.take i) = true by rw [this, Bool.or_true]
    unfold beginsB
    by_cases hq : q = []
    · have : hostB (H.take i ++ [97]) = true := by
        refine hostB_of (L := C ++ [[97]]) (by rw [sp1_glue 46 _ [97] C q [97] [] e1 (by decide), hq]; rfl) (by rw [List.length_append, lt]; simp; omega) (by rw [List.length_append]; simp; omega) (fun p hp => ?_) (by rw [lastL_snoc]; exact labB_a.2)
        rcases List.mem_append.mp hp with m | m
        · exact hC p m
        · rw [List.mem_singleton.mp m]; exact labB_a.1
      rw [this]; simp
    · rcases Nat.lt_or_ge q.length 20 with h20 | h20
      · obtain ⟨o1, o2⟩ := labB_open hqg hq (by omega)
        have : hostB (H.take i ++ [97]) = true := by
          refine hostB_of (L := C ++ [q ++ [97]]) (sp1_glue 46 _ [97] C q [97] [] e1 (by decide)) (by rw [List.length_append, lt]; simp; omega) (by rw [List.length_append]; simp; omega) (fun p hp => ?_) (by rw [lastL_snoc]; exact o2)
          rcases List.mem_append.mp hp with m | m
          · exact hC p m
          · rw [List.mem_singleton.mp m]; exact o1
        rw [this]; simp
      · have hlab := lab_len hqg
        rw [List.length_append] at hlab
        have hg : g = [] := List.eq_nil_of_length_eq_zero (by omega)
        subst hg
        rw [List.append_nil] at hqg
        obtain ⟨x, s, es⟩ := List.exists_cons_of_ne_nil hs
        have hx : x = 46 := by
          by_cases hx : x = 46
          · exact hx
          · obtain ⟨a, r, e⟩ := sp1_cons 46 s
            rw [es, sp1_miss hx e] at e2
            simp at e2
        subst hx
        rw [es, sp1_hit, List.cons.injEq] at e2
        have hT : T ≠ [] := by rw [← e2.2]; exact sp1_ne _ _
        obtain ⟨t, T2, rfl⟩ := List.exists_cons_of_ne_nil hT
        have ht := lab_ne (h3 t (List.mem_append_right _ (List.mem_cons_of_mem _ (List.mem_cons_self ..))))
        have hsn : s ≠ [] := fun e => by
          have e3 := e2.2
          rw [e] at e3
          simp [sp1] at e3
          exact ht e3.1
        have hlen : 2 ≤ (H.drop i).length := by
          rw [es, List.length_cons]
          have := List.length_pos_iff.mpr hsn
          omega
        rw [List.length_drop] at hlen
        rw [List.length_cons] at h2
        have : hostB (H.take i ++ [46, 97]) = true := by
          refine hostB_of (L := (C ++ [q]) ++ [[97]]) (by rw [sp1_glue 46 _ [46, 97] C q [] [[97]] e1 (by decide), List.append_nil, List.append_assoc]; rfl) (by rw [List.length_append, lt]; simp; omega) (by rw [List.length_append, List.length_append]; simp; omega) (fun p hp => ?_) (by rw [lastL_snoc]; exact labB_a.2)
          rcases List.mem_append.mp hp with m | m
          · rcases List.mem_append.mp m with m | m
            · exact hC p m
            · rw [List.mem_singleton.mp m]; exact hqg
          · rw [List.mem_singleton.mp m]; exact labB_a.1
        rw [this]; simp
  · rw [List.take_of_length_le (by omega)]
    unfold beginsB
    rw [h]; simp
/-- the signs of a host -/
theorem host_sign {l : List Nat} (h : hostB l = true) : ∀ s ∈ l, s = 46 ∨ s ∈ lsig := fun s hs => by
  have hl : ∀ p ∈ sp1 46 l, labB p = true := by
    unfold hostB hostL at h
    simp only [Bool.and_eq_true, List.all_eq_true] at h
    exact h.2.2.1
  by_cases e : s = 46
  · exact .inl e
  · rw [← joinL_sp1 46 l] at hs
    have : ∀ L : List (List Nat), (∀ p ∈ L, labB p = true) → s ∈ joinL [46] L → s ∈ lsig := by
      intro L
      induction L with
      | nil => intro _ hs; cases hs
      | cons p L ih =>
        intro hL hs
        cases L with
        | nil => exact lab_sign (hL p (List.mem_cons_self ..)) hs
        | cons q r =>
          have hs : s ∈ p ++ (46 :: joinL [46] (q :: r)) := hs
          rcases List.mem_append.mp hs with a | a
          · exact lab_sign (hL p (List.mem_cons_self ..)) a
          · rcases List.mem_cons.mp a with a | a
            · exact absurd a e
            · exact ih (fun l hl => hL l (List.mem_cons_of_mem _ hl)) a
    exact .inr (this _ hl hs)
theorem hsign_ok {s : Nat} (h : s = 46 ∨ s ∈ lsig) : stop3 s = false ∧ lo1 s = s ∧ s < 128 := by
  rcases h with rfl | h
  · decide
  · simp only [lsig, List.mem_cons, List.not_mem_nil, or_false] at h
    have : ∀ s, s < 128 → (s = 45 ∨ (48 ≤ s ∧ s ≤ 57) ∨ (97 ≤ s ∧ s ≤ 122)) → stop3 s = false ∧ lo1 s = s ∧ s < 128 := by decide +kernel
    exact this s (by omega) (by omega)
theorem lows_host {l : List Nat} (h : ∀ s ∈ l, s = 46 ∨ s ∈ lsig) : lows l = l := by
  unfold lows
  exact (List.map_congr_left fun s hs => (hsign_ok (h s hs)).2.1).trans (List.map_id l)
theorem host_tells {l : List Nat} (h : hostB l = true) : tellsL l = true ∧ stripDot l = l ∧ tellsL (l ++ [46]) = true ∧ stripDot (l ++ [46]) = l := by
  have e : l.getLast? ≠ some 46 := fun e => by rw [host_dot e] at h; cases h
  have e2 := strip_other e
  refine ⟨by unfold tellsL; rw [e2]; exact h, e2, ?_, strip_dot⟩
  unfold tellsL
  rw [strip_dot]; exact h
end Kb
namespace Kb
open PySem PySem.Spec PyProof.Rows L2 TL
/-! ### texts that are put together -/
def Sch (sc : List Nat) (n : Nat) : Prop := (sc = [104, 116, 116, 112] ∧ n = 7) ∨ (sc = [104, 116, 116, 112, 115] ∧ n = 8)
theorem Sch.at {sc : List Nat} {n : Nat} (h : Sch sc n) (X : List Nat) : schN (sc ++ ([58, 47, 47] ++ X)) = some (sc, n) := by
  rcases h with ⟨rfl, rfl⟩ | ⟨rfl, rfl⟩ <;> rfl
theorem addr_built {sc A W R : List Nat} {n k : Nat} (hs : Sch sc n) (hA : lows A = sc ++ [58, 47, 47]) (hW : ∀ s ∈ W, stop3 s = false) (ht : tellsL (lows W) = true)
    (hR : ∀ c r, R = c :: r → stop3 c = true) (hk : pathR R = .ok k) : AddrOk (A ++ (W ++ R)) sc (stripDot (lows W)) (if k = 0 then [47] else R.take k) := by
  have hn : A.length = n := by
    have := congrArg List.length hA
    unfold lows at this
    rw [List.length_map] at this
    rw [this]
    rcases hs with ⟨rfl, rfl⟩ | ⟨rfl, rfl⟩ <;> rfl
  have hd : (A ++ (W ++ R)).drop n = W ++ R := by rw [← hn, List.drop_left]
  have hall : W.all (fun c => !stop3 c) = true := List.all_eq_true.mpr fun s h => by rw [hW s h]; rfl
  have he : hEnd (W ++ R) = W.length := by
    cases R with
    | nil => rw [List.append_nil]; exact hEnd_all hall
    | cons c r => exact hEnd_at (i := W.length) (by rw [List.take_left]; exact hall) (by rw [List.getElem?_append_right (Nat.le_refl _), Nat.sub_self]; rfl) (hR c r rfl)
  refine ⟨n, k, ?_, ?_, ?_, ?_, ?_⟩
  · unfold lows at *
    rw [List.map_append, hA, List.append_assoc]
    exact hs.at _
  · rw [hd, he, List.take_left]; exact ht
  · rw [hd, he, List.take_left]
  · rw [hd, he, List.drop_left]; exact hk
  · rw [hd, he, List.drop_left]
theorem path_tail {P t : List Nat} (h : P.all psign = true) (hl : P.length ≤ 200) (ht : ∀ c r, t = c :: r → stop2 c = true) : pathR (P ++ t) = .ok P.length := by
  cases t with
  | nil => rw [List.append_nil]; exact pathR_end h hl
  | cons c r => exact pathR_stop (i := P.length) (by rw [List.take_left]; exact h) hl (by rw [List.getElem?_append_right (Nat.le_refl _), Nat.sub_self]; rfl) (ht c r rfl)
theorem stop23 {c : Nat} (h : stop2 c = true) : stop3 c = true := by
  unfold stop3
  unfold stop2 at h
  rw [h, Bool.or_true]
theorem pathB_parts {P : List Nat} (h : pathB P = true) : P.all psign = true ∧ P.length ≤ 200 ∧ ∃ r, P = 47 :: r := by
  unfold pathB at h
  rw [Bool.and_eq_true, Bool.and_eq_true, decide_eq_true_eq, List.isPrefixOf_iff_prefix] at h
  obtain ⟨r, e⟩ := h.2.1
  exact ⟨h.2.2, h.1, r, e.symm⟩
/-- a beginning of an address's text -/
theorem addr_prefix {sc W P : List Nat} {n z : Nat} (hs : Sch sc n) (hW : hostB W = true) (hP : pathB P = true) (hz : z < (sc ++ ([58, 47, 47] ++ (W ++ P))).length) :
    AddrBad ((sc ++ ([58, 47, 47] ++ (W ++ P))).take z) (z + 1) ∨ ∃ ho pa, AddrOk ((sc ++ ([58, 47, 47] ++ (W ++ P))).take z) sc ho pa ∧ hostB ho = true ∧ pathB pa = true ∧
      ((sc ++ ([58, 47, 47] ++ (W ++ P))).take z = sc ++ ([58, 47, 47] ++ (ho ++ pa)) ∨ (sc ++ ([58, 47, 47] ++ (W ++ P))).take z = (sc ++ ([58, 47, 47] ++ (ho ++ pa))).dropLast ∨ ((sc ++ ([58, 47, 47] ++ (W ++ P))).take z).getLast? = some 46) := by
  obtain ⟨p1, p2, r, rfl⟩ := pathB_parts hP
  have hsg := host_sign hW
  have hn : (sc ++ [58, 47, 47]).length = n := by rcases hs with ⟨rfl, rfl⟩ | ⟨rfl, rfl⟩ <;> rfl
  have eA : sc ++ ([58, 47, 47] ++ (W ++ 47 :: r)) = (sc ++ [58, 47, 47]) ++ (W ++ 47 :: r) := by rw [List.append_assoc]
  have lA : lows (sc ++ [58, 47, 47]) = sc ++ [58, 47, 47] := by rcases hs with ⟨rfl, rfl⟩ | ⟨rfl, rfl⟩ <;> decide
  rcases Nat.lt_or_ge z n with h1 | h1
  · left
    have e : (sc ++ ([58, 47, 47] ++ (W ++ 47 :: r))).take z = (sc ++ [58, 47, 47]).take z := by rw [eA, List.take_append_of_le_length (by omega)]
    rw [e]
    left
    have k1 : ∀ z, z < 7 → schN (lows (([104, 116, 116, 112] ++ [58, 47, 47]).take z)) = none ∧ ∀ j, j < z → schB ((lows (([104, 116, 116, 112] ++ [58, 47, 47]).take z)).take (j + 1)) = true := by decide +kernel
    have k2 : ∀ z, z < 8 → schN (lows (([104, 116, 116, 112, 115] ++ [58, 47, 47]).take z)) = none ∧ ∀ j, j < z → schB ((lows (([104, 116, 116, 112, 115] ++ [58, 47, 47]).take z)).take (j + 1)) = true := by decide +kernel
    have lz : (lows ((sc ++ [58, 47, 47]).take z)).length = z := by
      unfold lows
      rw [List.length_map, List.length_take]; omega
    rcases hs with ⟨rfl, rfl⟩ | ⟨rfl, rfl⟩
    · exact ⟨(k1 z h1).1, .inl ⟨by rw [lz], fun j hj => (k1 z h1).2 j (by rw [lz] at hj; exact hj)⟩⟩
    · exact ⟨(k2 z h1).1, .inl ⟨by rw [lz], fun j hj => (k2 z h1).2 j (by rw [lz] at hj; exact hj)⟩⟩
  · have e : (sc ++ ([58, 47, 47] ++ (W ++ 47 :: r))).take z = (sc ++ [58, 47, 47]) ++ (W ++ 47 :: r).take (z - n) := by
      rw [eA, List.take_append, List.take_of_length_le (by omega), hn]
    have hz2 : z - n < (W ++ 47 :: r).length := by
      rw [eA, List.length_append] at hz; omega
    rw [e]
    rw [List.length_append] at hz2
    rcases Nat.lt_or_ge (z - n) (W.length + 1) with h2 | h2
    · -- within the host
      have e2 : (W ++ 47 :: r).take (z - n) = W.take (z - n) := List.take_append_of_le_length (by omega)
      rw [e2]
      have hsg2 : ∀ s ∈ W.take (z - n), s = 46 ∨ s ∈ lsig := fun s h => hsg s (List.mem_of_mem_take h)
      have lw : (W.take (z - n)).length = z - n := by rw [List.length_take]; omega
      generalize hQ : W.take (z - n) = U at hsg2 lw
      have lU := lows_host hsg2
      cases ht : tellsL U with
      | true =>
        right
        have b := addr_built (R := []) (k := 0) hs lA (fun s h => (hsign_ok (hsg2 s h)).1) (by rw [lU]; exact ht) (fun c r e => by cases e) rfl
        rw [List.append_nil, lU, if_pos rfl] at b
        refine ⟨_, _, b, ht, by decide, .inr ?_⟩
        by_cases hd : U.getLast? = some 46
        · right
          have hne : U ≠ [] := fun e => by rw [e] at hd; cases hd
          obtain ⟨u, d, rfl⟩ := snoc_of_ne hne
          rw [List.getLast?_concat] at hd
          rw [← List.append_assoc, List.getLast?_concat]
          exact hd
        · left
          rw [strip_other hd, show sc ++ ([58, 47, 47] ++ (U ++ [47])) = ((sc ++ [58, 47, 47]) ++ U) ++ [47] by simp, List.dropLast_concat]
      | false =>
        left; right
        have hn2 : ((sc ++ [58, 47, 47]) ++ U).drop n = U := by rw [← hn, List.drop_left]
        have he : hEnd U = U.length := hEnd_all (List.all_eq_true.mpr fun s h => by rw [(hsign_ok (hsg2 s h)).1]; rfl)
        refine ⟨sc, n, ?_, .inl ?_⟩
        · unfold lows at lA ⊢
          rw [List.map_append, lA, List.append_assoc]
          exact hs.at _
        · rw [hn2, he, List.take_length, lU]
          refine ⟨ht, U.length + 1, .inl ⟨rfl, fun j hj => ?_⟩, by omega⟩
          rw [← hQ, List.take_take, Nat.min_eq_left (by omega)]
          exact host_prefix hW (by omega) (by omega)
    · -- within the path
      obtain ⟨i, hi⟩ : ∃ i, z - n = W.length + (i + 1) := ⟨z - n - W.length - 1, by omega⟩
      have e2 : (W ++ 47 :: r).take (z - n) = W ++ 47 :: r.take i := by
        rw [hi, List.take_length_add_append, List.take_succ_cons]
      rw [e2]
      have hp : pathB (47 :: r.take i) = true := by
        unfold pathB
        rw [List.all_cons, Bool.and_eq_true] at p1
        rw [decide_eq_true (by rw [List.length_cons] at p2 ⊢; rw [List.length_take]; omega), Bool.true_and, List.all_cons, p1.1, Bool.true_and, Bool.and_eq_true]
        exact ⟨by simp [List.isPrefixOf], List.all_eq_true.mpr fun s h => List.all_eq_true.mp p1.2 s (List.mem_of_mem_take h)⟩
      obtain ⟨q1, q2, _⟩ := pathB_parts hp
      right
      have ht := host_tells hW
      have lU := lows_host hsg
      have b := addr_built (R := 47 :: r.take i) (k := (47 :: r.take i).length) hs lA (fun s h => (hsign_ok (hsg s h)).1) (by rw [lU]; exact ht.1) (fun c r e => by cases e; decide) (pathR_end q1 q2)
      rw [lU, ht.2.1, if_neg (by simp), List.take_length] at b
      exact ⟨_, _, b, hW, hp, .inl (by simp)⟩
end Kb
namespace Kb
open PySem PySem.Spec PyProof.Rows L2 TL
theorem cutS_two (z : Str) (n i : Nat) : tl (cutS z (some (n : Int)) (some ((n + i : Nat) : Int))) = ((tl z).drop n).take i := by
  show ((tl z).drop (HT.sIx z.length 0 (some (n : Int)))).take (HT.sIx z.length z.length (some ((n + i : Nat) : Int)) - HT.sIx z.length 0 (some (n : Int))) = _
  rw [HT.sIx_nat, HT.sIx_nat, len_tl]
  rcases Nat.le_total (tl z).length n with h | h
  · rw [Nat.min_eq_right h, List.drop_eq_nil_of_le h, List.drop_eq_nil_of_le (Nat.le_refl _), List.take_nil, List.take_nil]
  · rw [Nat.min_eq_left h]
    rcases Nat.le_total (tl z).length (n + i) with g | g
    · rw [Nat.min_eq_right g, List.take_of_length_le (by rw [List.length_drop]; omega), List.take_of_length_le (by rw [List.length_drop]; omega)]
    · rw [Nat.min_eq_left g, show n + i - n = i by omega]
end Kb
namespace Kb
theorem pathR_le {r : List Nat} {k : Nat} (h : pathR r = .ok k) : k ≤ r.length := by
  have t := (List.takeWhile_prefix psign (l := r)).length_le
  unfold pathR at h
  split at h
  · cases h
  · split at h
    · cases h; exact t
    · split at h
      · cases h; exact t
      · cases h
end Kb
namespace Kb
open PySem PySem.Spec PyProof.Rows L2 TL
def schemes2 : List Str := [("http" : Str), "https"]
theorem schemes_at {i : Nat} {e : Str} (h : schemes2[i]? = some e) : (i = 0 ∧ e = "http") ∨ (i = 1 ∧ e = "https") := by
  rcases i with _ | _ | i
  · cases h; exact .inl ⟨rfl, rfl⟩
  · cases h; exact .inr ⟨rfl, rfl⟩
  · cases h
theorem tl_mark0 : tl (("http" : Str) ++ ("://" : Str)) = hS := by decide +kernel
theorem tl_mark1 : tl (("https" : Str) ++ ("://" : Str)) = sS := by decide +kernel
theorem marks_len {e : Str} (h : e ∈ schemes2) : e.length + ("://" : Str).length ≤ 8 := by
  have : ∀ e ∈ schemes2, e.length + ("://" : Str).length ≤ 8 := by decide +kernel
  exact this e h
theorem tl_mark3 : tl ("://" : Str) = [58, 47, 47] := by decide +kernel
end Kb
namespace Kb
open PySem PySem.Spec PyProof.Rows L2 TL
theorem addr_mk {sc A W P t ho : List Nat} {n : Nat} (hs : Sch sc n) (hA : lows A = sc ++ [58, 47, 47]) (hW : ∀ s ∈ W, stop3 s = false) (ht : tellsL (lows W) = true) (hh : stripDot (lows W) = ho) (hP : pathB P = true)
    (hT : ∀ c r, t = c :: r → stop2 c = true) : AddrOk (A ++ (W ++ (P ++ t))) sc ho P := by
  obtain ⟨p1, p2, r, rfl⟩ := pathB_parts hP
  have := addr_built (R := (47 :: r) ++ t) (k := (47 :: r).length) hs hA hW ht (fun c r2 e => by cases e; decide) (path_tail p1 p2 hT)
  rw [hh, if_neg (by simp), List.take_left] at this
  exact this
theorem addr_mk0 {sc A W t ho : List Nat} {n : Nat} (hs : Sch sc n) (hA : lows A = sc ++ [58, 47, 47]) (hW : ∀ s ∈ W, stop3 s = false) (ht : tellsL (lows W) = true) (hh : stripDot (lows W) = ho)
    (hT : ∀ c r, t = c :: r → stop2 c = true) : AddrOk (A ++ (W ++ t)) sc ho [47] := by
  have := addr_built (R := t) (k := 0) hs hA hW ht (fun c r2 e => stop23 (hT c r2 e)) (path_tail (P := []) rfl (Nat.zero_le _) hT)
  rw [hh, if_pos rfl] at this
  exact this
theorem sch_of {x : Str} (h : x ∈ schemes2) : ∃ n, Sch (tl x) n ∧ lows (tl x ++ [58, 47, 47]) = tl x ++ [58, 47, 47] ∧ lows ((tl x).map up1 ++ [58, 47, 47]) = tl x ++ [58, 47, 47] ∧ ascii x ∧ x.length ≤ 5 := by
  have : x = "http" ∨ x = "https" := by
    unfold schemes2 at h
    simpa using h
  rcases this with rfl | rfl
  · exact ⟨7, .inl ⟨by decide +kernel, rfl⟩, by decide +kernel, by decide +kernel, ascii_lit (by decide +kernel), by decide +kernel⟩
  · exact ⟨8, .inr ⟨by decide +kernel, rfl⟩, by decide +kernel, by decide +kernel, ascii_lit (by decide +kernel), by decide +kernel⟩
theorem sch_in {x y : Str} (h : x ∈ schemes2) (e : tl y = tl x) : y ∈ schemes2 := by rw [ext_tl e]; exact h
theorem up_host {l : List Nat} (h : ∀ s ∈ l, s = 46 ∨ s ∈ lsig) : lows (l.map up1) = l ∧ ∀ s ∈ l.map up1, stop3 s = false := by
  have key : ∀ s, s < 128 → (s = 46 ∨ s = 45 ∨ (48 ≤ s ∧ s ≤ 57) ∨ (97 ≤ s ∧ s ≤ 122)) → lo1 (up1 s) = s ∧ stop3 (up1 s) = false := by decide +kernel
  have k2 : ∀ s ∈ l, lo1 (up1 s) = s ∧ stop3 (up1 s) = false := fun s hs => by
    rcases h s hs with rfl | q
    · decide
    · simp only [lsig, List.mem_cons, List.not_mem_nil, or_false] at q
      exact key s (by omega) (by omega)
  refine ⟨?_, fun s hs => ?_⟩
  · unfold lows
    rw [List.map_map]
    exact (List.map_congr_left fun s hs => (k2 s hs).1).trans (List.map_id l)
  · obtain ⟨c, hc, rfl⟩ := List.mem_map.mp hs
    exact (k2 c hc).2
def big : List Nat := joinL [46] (List.replicate 5 (List.replicate 20 97))
theorem bad108 : AddrBad (hS ++ (big ++ [47])) 108 := by
  have h1 : schN (lows (hS ++ (big ++ [47]))) = some ([104, 116, 116, 112], 7) := by decide +kernel
  have h2 : (hS ++ (big ++ [47])).drop 7 = big ++ [47] := by decide +kernel
  have h3 : hEnd (big ++ [47]) = 104 := by decide +kernel
  have h4 : lows ((big ++ [47]).take 104) = big := by decide +kernel
  have h5 : hostB (big.take 100) = true := by decide +kernel
  refine .inr ⟨_, 7, h1, .inl ?_⟩
  rw [h2, h3, h4]
  refine ⟨by decide +kernel, 101, .inr ⟨by decide, by decide +kernel, by decide +kernel, fun j hj => ?_⟩, rfl⟩
  have := host_prefix h5 (i := j + 1) (by omega) (by rw [show (big.take 100).length = 100 by decide +kernel]; omega)
  rw [List.take_take, Nat.min_eq_left (by omega)] at this
  exact this
theorem lay_strsT {W : List Str} (h : ∀ w ∈ W, ascii w) : SeqAt.shaped (.tuple (W.map PyData.str)) = true := by
  unfold SeqAt.shaped
  rw [PyData.canLay0, canLay_strs W fun w hw => lay_str (h w hw), PyData.depth, depth_strs]; rfl
theorem eqv_strsT (W Z : List Str) : PyData.eqv (.tuple (W.map PyData.str)) (.tuple (Z.map PyData.str)) = decide (W = Z) := by rw [PyData.eqv, eqvAll_strs]
theorem ascii_host {y : Str} (h : hostB (tl y) = true) : ascii y := fun s hs => (hsign_ok (host_sign h s hs)).2.2
theorem ascii_path {y : Str} (h : pathB (tl y) = true) : ascii y := fun s hs => by
  have := List.all_eq_true.mp (pathB_parts h).1 s hs
  unfold psign at this
  simp only [Bool.and_eq_true, decide_eq_true_eq] at this
  omega
end Kb

namespace Kb
open PySem PySem.Spec PyProof.Rows L2
/-! ### a new list, not the table of modules; repr of a list with an empty dict in it -/
def tLstS (ta : TA) : TE := fun σ H Q => ta σ H fun xs H1 => xs.length ≤ sizeLine ∧ ∀ p, H1 p = none → (p == sysModules) = false → Q (.ref p) (upd H1 p (.lst xs))
section
variable {X : Cx}
theorem pe_lstS {es : List Expr} {ta : TA} {pos : Pos} (h : PA X es ta) : PE X (.List es pos) (tLstS ta) := by
  refine ⟨fun pins s σ H Q I hq => ?_⟩
  refine wpAny_List_spliced (thn (h.run pos pins s σ H _ I hq) fun us s1 ⟨xs, H1, I1, r, z, q⟩ => ⟨by rw [← r.length]; exact z, ?_⟩)
  have fr : H1 s1.heap.objs.size = none := I1.hok.fresh (Nat.le_refl _)
  have nm : (s1.heap.objs.size == sysModules) = false := beq_eq_false_iff_ne.mpr (Nat.ne_of_gt I1.big)
  exact ⟨.ref s1.heap.objs.size, upd H1 s1.heap.objs.size (.lst xs), I1.laid (t' := s1.toks) (fun b u e => Heap.get?_push_of_some _ e) (Nat.le_refl _) ⟨z, us, 0, r, Heap.get?_push_size _ rfl⟩, rfl, q _ fr nm⟩
def rReprE (K : PySem.W.Frag) : List V → Hp → VK → Prop := fun xs H Q => rRepr K xs H Q ∨
  ∃ L d : Addr, xs = [.ref L] ∧ H L = some (.lst [.ref d]) ∧ H d = some (.dK []) ∧ (L == sysModules) = false ∧ Q (.str (PyData.list [.dict []]).shown) H
theorem call_reprE (hu : X.A.units + 65 < cLine) (hg : X.A.guards = some []) : CallR X (.builtin "repr") (rReprE X.K) := by
  intro pins s σ H xs us Q I r h
  rcases h with h | ⟨L, d, rfl, hL, hd, nm, q⟩
  · exact call_reprD hu hg pins s σ H xs us Q I r h
  · obtain ⟨u, rfl, r1⟩ := vals1 r
    cases r1
    obtain ⟨_, its, n, hv, eL⟩ := I.hok L _ hL
    obtain ⟨_, sd, vs, kv, dd⟩ := I.hok d _ hd
    have e1 : its = [.ref d] := by
      cases hv with
      | cons a b => cases b; cases a; rfl
    subst e1
    have e2 : vs = [] := by cases kv; rfl
    subst e2
    obtain ⟨o, es, ep, eo, ex, ed, _, hp, _⟩ := dd
    have hes : es.toList = [] := by
      cases h : es.toList with
      | nil => rfl
      | cons x r => rw [h] at hp; cases hp
    have rd : Reads s.heap (.ref L) (.list [.dict []]) (L :: ((d :: [] ++ []) ++ [])) := by
      refine .list eL rfl rfl (.cons (.dict (kvs := []) eo ex.1 ed ?_ ?_) .nil)
      · rw [hes]; exact .nil
      · rw [hes]; exact .nil
    refine repr_of_reads' rd (by simp [PyData.showable, PyData.showableAll, PyData.showableKv]) (fun _ => ?_) hg (by simp [PyData.depth, PyData.depthAll, PyData.depthKv]; omega) (fun _ _ e => e) (fun h' t tk k => ⟨.str _, H, I.kept (t' := tk) k, ⟨t, rfl⟩, q⟩) ?_
    · have n1 : sysModules ≠ L := fun z => by rw [z] at nm; simp at nm
      have n2 : sysModules ≠ d := fun z => by rw [z] at sd; simp at sd
      simp [n1, n2]
    · decide
end
end Kb

namespace Kb
open PySem PySem.Spec PyProof.Rows L2 TL
/-! ### how long the repr of data is -/
mutual
def wtD : PyData → Nat
  | .none => 4
  | .bool _ => 5
  | .int i => (toString i : Str).length
  | .str x => 10 * x.length + 2
  | .list xs => 3 + wtAll xs
  | .tuple xs => 3 + wtAll xs
  | .dict _ => 0
def wtAll : List PyData → Nat
  | [] => 0
  | x :: xs => wtD x + 2 + wtAll xs
end
mutual
def plainD : PyData → Prop
  | .str x => ∀ c ∈ tl x, c < 128
  | .list xs => plainAll xs
  | .tuple xs => plainAll xs
  | .dict _ => False
  | _ => True
def plainAll : List PyData → Prop
  | [] => True
  | x :: xs => plainD x ∧ plainAll xs
end
theorem textFrom_le : ∀ (ts : List Str) (k : Nat) (acc : Str), (textFrom k acc ts).length ≤ acc.length + (ts.map fun t => t.length + 2).sum
  | [], k, acc => by show acc.length ≤ acc.length + 0; omega
  | t :: r, k, acc => by
    show (textFrom (k + 1) (acc ++ (if k > 0 then ", " else "" : String) ++ t) r).length ≤ _
    have ih := textFrom_le r (k + 1) (acc ++ (if k > 0 then ", " else "" : String) ++ t)
    have h2 : ((if k > 0 then ", " else "" : String) : Str).length ≤ 2 := by
      split
      · decide +kernel
      · decide +kernel
    rw [Str.length_append, Str.length_append] at ih
    rw [List.map_cons, List.sum_cons]
    omega
theorem join_le : ∀ ts : List Str, (Str.join ", " ts).length ≤ (ts.map fun t => t.length + 2).sum
  | [] => by show (0 : Nat) ≤ _; omega
  | t :: r => by
    have := join_length_add (t :: r) (by simp)
    have e : piled (t :: r) = ((t :: r).map fun t => t.length + 2).sum := rfl
    omega
mutual
theorem shown_le : ∀ d : PyData, plainD d → d.shown.length ≤ wtD d
  | .none, _ => by decide +kernel
  | .bool b, _ => by cases b <;> decide +kernel
  | .int i, _ => by simp only [PyData.shown, wtD]; exact Nat.le_refl _
  | .str x, h => by
    simp only [PyData.shown, wtD]
    exact PySem.StrLaws.reprText_len x fun c hc => by
      simp only [plainD] at h
      have := h c hc
      omega
  | .list xs, h => by
    simp only [plainD] at h
    simp only [PyData.shown, wtD, listText]
    have a := textFrom_le (PyData.shownAll xs) 0 "["
    have b := shownAll_le xs h
    rw [Str.length_append]
    have c1 : ("[" : Str).length = 1 := by decide +kernel
    have c2 : ("]" : Str).length = 1 := by decide +kernel
    omega
  | .tuple xs, h => by
    simp only [plainD] at h
    simp only [PyData.shown, wtD, tupleText]
    have a := join_le (PyData.shownAll xs)
    have b := shownAll_le xs h
    rw [Str.length_append, Str.length_append]
    have c1 : ("(" : Str).length = 1 := by decide +kernel
    have c2 : ((if (PyData.shownAll xs).length == 1 then ",)" else ")" : String) : Str).length ≤ 2 := by
      split <;> decide +kernel
    omega
  | .dict _, h => by simp only [plainD] at h
theorem shownAll_le : ∀ xs : List PyData, plainAll xs → ((PyData.shownAll xs).map fun t => t.length + 2).sum ≤ wtAll xs
  | [], _ => by simp [PyData.shownAll, wtAll]
  | x :: xs, h => by
    simp only [plainAll] at h
    have a := shown_le x h.1
    have b := shownAll_le xs h.2
    simp only [PyData.shownAll, wtAll, List.map_cons, List.sum_cons]
    omega
end
theorem shown_fits {d : PyData} (h : plainD d) (hw : wtD d ≤ 1000000) : d.shown.length ≤ sizeLine := Nat.le_trans (Nat.le_trans (shown_le d h) hw) (by decide)
end Kb

namespace Kb
open PySem PySem.Spec PyProof.Rows L2 LamX
/-! ### lambdas whose parameters all have defaults, handed to a def -/
/-- the defaults' object -/
def Dfl (H : Hp) (ds : List V) (dV : Value) : Prop := (ds = [] ∧ dV = .none) ∨ ∃ t : Addr, ds ≠ [] ∧ dV = .ref t ∧ H t = some (.tup ds)
abbrev lamO (q : Str) (params : Arguments) (body : Expr) (scope : Scope) (cl : List (Str × Addr)) (dV doc pm : Value) (c' : Addr) (ctv : Value) : Obj :=
  PySem.W.kdv_obj "<lambda>" q params (.expr body) scope cl dV doc pm c' ctv
/-- how it binds where nothing is handed in -/
def LamB (params : Arguments) (body : Expr) (scope : Scope) (ps : List Str) (ds : List V) : Prop :=
  (ds = [] ∧ ps = [] ∧ ∀ (q : Str) (cl : List (Str × Addr)) (doc pm cv ctv : Value), bindArgs (PySem.W.kdv_fn "<lambda>" q params (.expr body) scope cl .none doc pm cv ctv) ⟨[], []⟩ = pure []) ∨
  (ds.length = ps.length ∧ ds ≠ [] ∧ ∀ (q : Str) (cl : List (Str × Addr)) (t : Addr) (doc pm cv ctv : Value) (its : List Value), its.length = ds.length →
    ∃ k, bindArgs (PySem.W.kdv_fn "<lambda>" q params (.expr body) scope cl (.ref t) doc pm cv ctv) ⟨[], []⟩ = seqItems? (.ref t) >>= k ∧ k (some its.toArray) = pure (ps.zip its))
/-- its names: own parameters (none of them a name of the maker), captured ones, globals -/
structure LamP (N : List Str) (sc scope : Scope) (ps : List Str) : Prop where
  kind : scope.kind = .function
  co : scope.isCoroutine = false
  gen : scope.isGenerator = false
  own : ∀ y ∈ scope.names, y.2 ≠ .cell
  loc : ∀ y ∈ scope.names, y.2 = .local → y.1 ∉ N
  par : ∀ x ∈ ps, scope.names.lookup x = some .local
  free : ∀ y ∈ scope.names, y.2 = .free → sc.names.lookup y.1 = some .cell ∨ sc.names.lookup y.1 = some .free
def lamPB (N : List Str) (sc scope : Scope) (ps : List Str) : Bool :=
  decide (scope.kind = .function) && (!scope.isCoroutine && (!scope.isGenerator && ((scope.names.all fun y => !decide (y.2 = .cell)) && ((scope.names.all fun y => !decide (y.2 = .local) || !decide (y.1 ∈ N)) &&
    ((ps.all fun x => decide (scope.names.lookup x = some .local)) && (scope.names.all fun y => !decide (y.2 = .free) || (decide (sc.names.lookup y.1 = some .cell) || decide (sc.names.lookup y.1 = some .free))))))))
theorem lamP_by {N : List Str} {sc scope : Scope} {ps : List Str} (h : lamPB N sc scope ps = true) : LamP N sc scope ps := by
  unfold lamPB at h
  simp only [Bool.and_eq_true, Bool.or_eq_true, Bool.not_eq_true', decide_eq_true_eq, decide_eq_false_iff_not, List.all_eq_true] at h
  obtain ⟨g1, g2, g3, g4, g5, g6, g7⟩ := h
  refine ⟨g1, g2, g3, fun y hy => g4 y hy, fun y hy e => (g5 y hy).elim (fun z => absurd e z) id, g6, fun y hy e => ?_⟩
  rcases g7 y hy with z | z
  · exact absurd e z
  · exact z
theorem LamP.has {X : Cx} {N : List Str} {scope : Scope} {ps : List Str} (L : LamP N X.env.scope scope ps) (ok : X.Ok) : ∀ y ∈ scope.names, y.2 = .free → ∃ c, X.env.cells.lookup y.1 = some c :=
  fun y hy e => ok.has _ (L.free y hy e)
section
variable {X : Cx} {pins : List (Addr × Obj)} {σ : L2.St} {H : Hp} {s : Shared}
/-- made, its defaults at dV -/
theorem lam_tail {T : List (Addr × Str)} {c P : Addr} {params : Arguments} {body : Expr} {scope : Scope} {pos : Pos} {E Q : Value → Shared → Prop} {dV : Value} (I : Inv X pins σ H s) (TB : TabB X.base X.mg c P) (hcode : X.env.code = .ref c)
    (hm : (P, X.env.qual ++ "<lambda>") ∈ T) (hu : ∀ p ∈ T, p.1 = P → p.2 = X.env.qual ++ "<lambda>") (hT : Tabs T H) (hfree : ∀ y ∈ scope.names, y.2 = .free → ∃ c, X.env.cells.lookup y.1 = some c)
    (h : ∀ (f c' : Addr) (doc pm ctv : Value) (H1 : Hp) (s' : Shared), Inv X pins σ H1 s' → ExtN H H1 → Tabs T H1 → s'.heap.get? f = some (lamO (X.env.qual ++ "<lambda>") params body scope (cloFrom X.env.cells scope.names []) dV doc pm c' ctv) →
      H1 f = none → f ∉ frs X.stack → H1 c' = some (CodeO c' (X.env.qual ++ "<lambda>")) → Q (.ref f) s') :
    wpAny (model X.prog X.w) X.A (makeTail "<lambda>" (X.env.qual ++ "<lambda>") params (.expr body) scope X.env dV .none none pos pos.line) Q E s := by
  generalize hq : X.env.qual ++ "<lambda>" = q at *
  obtain ⟨ps, hP, ht, ha⟩ := hT _ hm
  have bP := TB.bm.keeps I.bk
  have gP : s.heap.get? P = some (PySem.W.tabObj ps) := I.hok P _ hP
  have out : ∀ f, s.heap.objs.size ≤ f → f ∉ frs X.stack := fun f hf z => (List.mem_cons.mp (I.stkSub _ z)).elim (fun e => by
    have lt := I.lt
    rw [← e] at lt
    exact Nat.lt_irrefl _ (Nat.lt_of_lt_of_le lt hf)) fun e => I.nofs hf e
  cases hc : codeAmong pos ps.toList with
  | some cv =>
    obtain ⟨c', rfl, hco⟩ := ha pos cv hc
    refine PySem.W.kdv_makeTailHit (closure_ok hfree) I.ok.glob (I.mod.glob.keeps I.bk) hcode (TB.code.keeps I.bk) gP ht hc bP fun ctv doc h' tk hx hsz => ?_
    exact h h'.objs.size c' doc _ ctv H _ (I.kept fun b o e => Heap.get?_push_of_some _ (hx b o e)) (ExtN.refl H) hT (Heap.get?_push_size _ rfl) (I.hok.fresh hsz) (out _ hsz) hco
  | none =>
    refine PySem.W.kdv_makeTail (closure_ok hfree) I.ok.glob (I.mod.glob.keeps I.bk) hcode (TB.code.keeps I.bk) gP ht hc TB.gP bP fun c' ctv doc h' tk hx hge hlt hrec htb => ?_
    obtain ⟨c2, oc, vs, t, e2, hoc, hd, hv⟩ := hrec
    cases e2
    have hsz := Nat.le_trans hge (Nat.le_of_lt hlt)
    have nC : H c' = none := I.hok.fresh hge
    have I1 := inv_table (q := q) (t' := tk) (more := #[rawInt pos.line, rawInt pos.col, .ref c']) (h' := h'.push (lamO q params body scope (cloFrom X.env.cells scope.names []) dV doc ((X.mg "__name__").getD .none) c' ctv)) I hP
      (fun b o hb e => Heap.get?_push_of_some _ (hx b o hb e)) (Heap.get?_push_of_some _ htb) hge ⟨oc, vs, t, Heap.get?_push_of_some _ hoc, hd, hv⟩
    have hE : ExtN H (upd (upd H P (.tbl (ps ++ #[rawInt pos.line, rawInt pos.col, .ref c']))) c' (CodeO c' q)) := fun b o e n => by
      have n1 := ne_of_none e nC
      have n2 : b ≠ P := fun z => n ps (by rw [z, hP] at e; exact (Option.some.inj e).symm)
      rw [upd_ne n1, upd_ne n2, e]
    have more : (ps ++ #[rawInt pos.line, rawInt pos.col, .ref c']).toList = ps.toList ++ [rawInt pos.line, rawInt pos.col, .ref c'] := by simp
    refine h h'.objs.size c' doc _ ctv _ _ I1 hE (fun p hp => ?_) (Heap.get?_push_size _ rfl) ?_ (out _ hsz) upd_same
    · by_cases hb : p.1 = P
      · rw [hu p hp hb, hb]
        refine ⟨_, (upd_ne (ne_of_none hP nC)).trans upd_same, ?_, fun p' cv hcv => ?_⟩
        · rw [more]; exact PySem.TriplesOk_snoc _ _ _ _ ht
        · rw [more] at hcv
          rcases among_app _ ht hcv with z | z
          · obtain ⟨c0, e1, e2⟩ := ha p' cv z
            exact ⟨c0, e1, hE _ _ e2 codeO_ne⟩
          · exact ⟨c', z, upd_same⟩
      · obtain ⟨qs, a1, a2, a3⟩ := hT p hp
        refine ⟨qs, (upd_ne (ne_of_none a1 nC)).trans ((upd_ne hb).trans a1), a2, fun p' cv hcv => ?_⟩
        obtain ⟨c0, e1, e2⟩ := a3 p' cv hcv
        exact ⟨c0, e1, hE _ _ e2 codeO_ne⟩
    · have n2 : h'.objs.size ≠ P := Nat.ne_of_gt (Nat.lt_of_lt_of_le (Heap.lt_size gP) hsz)
      rw [upd_ne (Nat.ne_of_gt hlt), upd_ne n2]
      exact I.hok.fresh hsz
/-- what stands in the place of the defaults: nothing, or one number -/
def DefE (es : List Expr) (ds : List V) : Prop := (es = [] ∧ ds = []) ∨ ∃ (z : Int) (j : Nat) (p : Pos), es = [.Constant (.int z) j p] ∧ ds = [.int z]
theorem lam_new {T : List (Addr × Str)} {c P : Addr} {params : Arguments} {body : Expr} {scope : Scope} {pos : Pos} {E Q : Value → Shared → Prop} {ds : List V} (I : Inv X pins σ H s) (TB : TabB X.base X.mg c P) (hcode : X.env.code = .ref c)
    (hm : (P, X.env.qual ++ "<lambda>") ∈ T) (hu : ∀ p ∈ T, p.1 = P → p.2 = X.env.qual ++ "<lambda>") (hT : Tabs T H) (hfree : ∀ y ∈ scope.names, y.2 = .free → ∃ c, X.env.cells.lookup y.1 = some c) (hk0 : params.kw_defaults = []) (hde : DefE params.defaults ds) (hE : E = X.xe)
    (h : ∀ (f c' : Addr) (dV doc pm ctv : Value) (H1 : Hp) (s' : Shared), Inv X pins σ H1 s' → ExtN H H1 → Tabs T H1 → s'.heap.get? f = some (lamO (X.env.qual ++ "<lambda>") params body scope (cloFrom X.env.cells scope.names []) dV doc pm c' ctv) →
      H1 f = none → f ∉ frs X.stack → H1 c' = some (CodeO c' (X.env.qual ++ "<lambda>")) → Dfl H1 ds dV → Q (.ref f) s') :
    wpAny (model X.prog X.w) X.A (eval (.Lambda params body scope pos) X.env) Q E s := by
  rcases hde with ⟨he, rfl⟩ | ⟨z, j, p, he, rfl⟩
  · refine PySem.W.kla_eval (by rw [defaultsOf_eq, he, hk0]; rfl) ?_
    rw [makeFunction_eq]
    simp only [List.zip_nil_right, List.filterMap_nil, List.isEmpty_nil, if_true, pure_bind]
    exact lam_tail I TB hcode hm hu hT hfree fun f c' doc pm ctv H1 s' I1 e1 T1 h1 h2 h3 h4 => h f c' .none doc pm ctv H1 s' I1 e1 T1 h1 h2 h3 h4 (.inl ⟨rfl, rfl⟩)
  · refine PySem.W.kdv_lam (by rw [he]; rfl) hk0 ?_
    rw [he]
    refine PySem.W.kdv_all1 ?_
    subst hE
    refine thn ((pe_int (X := X) (i := z)).run pins s σ H (fun v H1 => v = .int z ∧ H1 = H) I ⟨rfl, rfl⟩) fun u s1 ⟨v, H1, I1, r1, q1, q2⟩ => PySem.W.kdv_all0 ?_
    subst q1 q2
    rw [makeFunction_eq]
    simp only [List.zip_nil_right, List.filterMap_nil, List.isEmpty_nil, if_true, pure_bind, List.isEmpty_cons, Bool.false_eq_true, if_false]
    refine wpAny_bind (wpAny_newTextTuple ?_)
    have nt : H1 s1.heap.objs.size = none := I1.hok.fresh (Nat.le_refl _)
    have I2 : Inv X pins σ (upd H1 s1.heap.objs.size (.tup [.int z])) { s1 with heap := s1.heap.push { cls := .type "tuple", data := .seq [u].toArray } } :=
      I1.laid (t' := s1.toks) (fun b o e => Heap.get?_push_of_some _ e) (Nat.le_refl _) (show ObjOk X.prog X.w _ _ _ (.tup [.int z]) from ⟨by show 1 ≤ _; decide, [u], .cons r1 .nil, IsTup.new _ _⟩)
    have ex : ∀ b o, H1 b = some o → (upd H1 s1.heap.objs.size (.tup [.int z])) b = some o := fun b o e => by rw [upd_ne (ne_of_none e nt)]; exact e
    exact lam_tail I2 TB hcode hm hu (hT.ext ex) hfree fun f c' doc pm ctv H3 s' I3 e3 T3 h1 h2 h3 h4 => h f c' _ doc pm ctv H3 s' I3 ((ExtN.of ex).trans e3) T3 h1 h2 h3 h4 (.inr ⟨_, by simp, rfl, e3 _ _ upd_same fun qs z => by cases z⟩)
end
end Kb
namespace Kb
open PySem PySem.Spec PyProof.Rows L2 LamX
section
variable {X : Cx} {pins : List (Addr × Obj)} {σ : L2.St} {H HZ : Hp} {s s1 : Shared}
/-- its body is entered -/
theorem lam_enter {A : Around} {outer : List Env} {E : XK} {scope : Scope} {f c' : Addr} {h₁ : Heap} {tk : Nat} {ps : List Str} {m : Str → Option Value} (I : Inv X pins σ H s) (L : LamP X.N X.env.scope scope ps) (e0 : Env0 X.prog X.w X.K X.mg X.base A outer s1 HZ) (hd : A.handled = none)
    (un : Un (frs X.stack) [] H HZ s.heap s1.heap) (hns : h₁.Ns s1.heap.objs.size m) (kp : ∀ b o, s1.heap.get? b = some o → h₁.get? b = some o) :
    Inv (lamCx X A outer s1 HZ E scope f c') [] σ HZ { s1 with heap := h₁, toks := tk } := by
  have cells : ∀ {y c}, (cloFrom X.env.cells scope.names []).lookup y = some c → X.env.cells.lookup y = some c := fun {y c} e => by
    rcases cloFrom_mem (PySem.mem_of_lookup e) with z | ⟨h1, h2⟩
    · cases z
    · obtain ⟨c1, hc⟩ := L.has I.ok _ h1 rfl
      have hc : X.env.cells.lookup y = some c1 := hc
      rw [hc]
      have : c = c1 := by rw [h2, hc]; rfl
      rw [this]
  have look : ∀ {y}, scope.names.lookup y = some .free → ∃ c, (cloFrom X.env.cells scope.names []).lookup y = some c := fun {y} hl =>
    mem_lookup (cloFrom_has (cells := X.env.cells) (acc := []) (PySem.mem_of_lookup hl : (y, NameKind.free) ∈ scope.names))
  have keepC : ∀ {c : Addr} {v : Option Value}, H c = none → s.heap.IsCell c v → h₁.IsCell c v := fun {c v} n ⟨o, ho, hd⟩ => by
    obtain ⟨sl, q⟩ := un.any ho n (by simp)
    exact ⟨_, kp _ _ q, hd⟩
  have nex : ∀ b : Addr, b ∉ (lamCx X A outer s1 HZ E scope f c').ex := fun b z => nomatch (show b ∈ ([] : List Addr) from z)
  have okC : (lamCx X A outer s1 HZ E scope f c').Ok := by
    refine ⟨e0.mod, L.kind, rfl, rfl, Nat.le_refl _, fun y z c e1 e2 => I.ok.inj y z c (cells e1) (cells e2), fun y hy => ?_, fun y c z _ => ?_, fun _ => hd, Around.frames_deeper e0.frames, .inr ⟨rfl, rfl⟩, fun b z => absurd z (nex b),
      e0.bs, e0.bsz, fun b _ _ => nex b, fun b z => absurd z (nex b), e0.funs, e0.frf⟩
    · have hy : scope.names.lookup y = some .cell ∨ scope.names.lookup y = some .free := hy
      rcases hy with hy | hy
      · exact absurd rfl (L.own _ (PySem.mem_of_lookup hy))
      · exact look hy
    · cases (show false = true from z)
  refine ⟨okC, rfl, e0.bare, Un.kept kp, ⟨_, hns, fun i y v e1 e2 e3 => ?_⟩, fun y c e => ?_, e0.hok.fresh (Nat.le_refl _), fun y c e => ?_, fun q hq => (nomatch (show q ∈ ([] : List (Addr × Obj)) ++ [] from hq)), e0.hok.kept kp, I.len⟩
  · have e3 : Vis scope y := e3
    rcases e3 with k | k | k
    · exact absurd (List.mem_of_getElem? (show X.N[i]? = some y from e1)) (L.loc _ (PySem.mem_of_lookup k) rfl)
    · exact absurd rfl (L.own _ (PySem.mem_of_lookup k))
    · obtain ⟨m, hn, hl⟩ := I.loc
      have vis : Vis X.env.scope y := by
        rcases L.free _ (PySem.mem_of_lookup k) rfl with k | k
        · exact .inr (.inl k)
        · exact .inr (.inr k)
      obtain ⟨w', r, q⟩ := hl i y v e1 e2 vis
      obtain ⟨c2, h2⟩ := look k
      have c1 := cells h2
      refine ⟨w', r, .inr ⟨.inr k, c2, h2, ?_⟩⟩
      rcases q with ⟨k', _⟩ | ⟨_, c3, e', z⟩
      · have k' : X.env.scope.names.lookup y = some .local := k'
        exact (L.free _ (PySem.mem_of_lookup k) rfl).elim (fun k2 => by have k2 : X.env.scope.names.lookup y = some .cell := k2; rw [k'] at k2; cases k2) fun k2 => by have k2 : X.env.scope.names.lookup y = some .free := k2; rw [k'] at k2; cases k2
      · rw [c1] at e'
        cases e'
        exact keepC (I.freeC y _ c1) z
  · obtain ⟨w', z⟩ := I.cell y c (cells e)
    exact ⟨w', keepC (I.freeC y c (cells e)) z⟩
  · obtain ⟨v, o, ho, hd⟩ := I.cell y c (cells e)
    exact un.free c o ho (I.freeC y c (cells e)) (by simp)
/-- what a reading says of a lambda: what may be raised, the heap, what is wanted -/
abbrev LT := XK → Hp → VK → Prop
/-- the lambda is called: E holds what it raises -/
def tAct (f : Addr) (ok : Hp → Prop) (tl : LT) (W : WX) : TE := fun σ H Q => σ[0]? = some (some (.ref f)) ∧ ok H ∧ ∃ (E : XK) (Q0 : VK), (∀ cls d H', E cls d H' → W cls d σ H') ∧ (∀ v H', Q0 v H' → Q v H') ∧ tl E H Q0
/-- the frame of a def that calls what it got -/
abbrev gCx (P : Program) (w : World) (K : PySem.W.Frag) (mg : Str → Option Value) (base : Heap) (N : List Str) (x : Str) (sg : Scope) (g : Addr) (cdg : Value) (A : Around) (outer : List Env) (s : Shared) (H : Hp) : Cx :=
  cxOf CX0 P w K mg base N x sg g cdg A outer s H fun _ _ _ => False
theorem lam_act {Ng : List Str} {qg : Str} {sg : Scope} {g f c' : Addr} {cdg dV doc pm ctv : Value} {params : Arguments} {body : Expr} {scope : Scope} {k : Nat} {a : Str} {pn : List (Addr × Obj)} {xe : Value → Shared → Prop} {W : WX} {tb : XK → TE} {p1 p2 : Pos} {ps : List Str} {ds : List V}
    (I : Inv X pins σ H s) (L : LamP X.N X.env.scope scope ps) (B : LamB params body scope ps ds) (hf : s.heap.get? f = some (lamO (X.env.qual ++ "<lambda>") params body scope (cloFrom X.env.cells scope.names []) dV doc pm c' ctv)) (hfn : H f = none) (hfr : f ∉ frs X.stack)
    (hc0 : H c' = some (CodeO c' (X.env.qual ++ "<lambda>")))
    (tk : Takes ((gCx X.prog X.w X.K X.mg X.base Ng qg sg g cdg X.A X.stack s H).tr pn xe) W) (hr : Room (k + 1) (X.A.deeper (envOfC qg sg s.heap.objs.size g cdg)))
    (hbody : ∀ (A : Around) (outer : List Env) (s : Shared) (H : Hp) (E : XK), A.guards = X.A.guards → Room k (A.deeper (lamEnv X scope s.heap.objs.size f c')) → PE (lamCx X A outer s H E scope f c') body (tb E))
    (hN : Ng[0]? = some a) (hv : Vis sg a) (hd : (a == ("__debug__" : Str)) = false := by decide) (hcd : (a == ("__classdict__" : Str)) = false := by decide) :
    PE ((gCx X.prog X.w X.K X.mg X.base Ng qg sg g cdg X.A X.stack s H).tr pn xe) (.Call (.Name a p1) [] [] p2)
      (tAct f (fun HZ => HZ c' = some (CodeO c' (X.env.qual ++ "<lambda>")) ∧ Dfl HZ ds dV) (fun E H' Q' => tb E σ H' Q') W) := by
  refine ⟨fun pinsZ sZ σZ HZ Q IZ ⟨hs, ⟨hc, hD⟩, E, Q0, hW, hQ, ht⟩ => ?_⟩
  refine wpAny_Call_Name_kw (thn ((pe_var (pos := p1) (i := 0) hN hv hd hcd).run pinsZ sZ σZ HZ (fun v H1 => v = .ref f ∧ H1 = HZ) IZ ⟨.ref f, hs, rfl, rfl⟩) fun u s1 ⟨v, H1, I1, r1, q1, q2⟩ => ?_)
  subst q1 q2
  obtain rfl : u = Value.ref f := r1
  have of1 := I1.base.keep f _ hf hfn hfr (fun z => nomatch (show f ∈ ([] : List Addr) from z))
  refine PySem.W.callWith_F0 ⟨_, _, _, _, of1⟩ ?_
  have un : Un (frs X.stack) [] H H1 s.heap s1.heap := I1.base
  obtain ⟨⟨oc, vs, t, hoc, hdc, hvc⟩, _, _⟩ := I1.hok c' _ hc
  obtain ⟨us, hb, hloc⟩ : ∃ us : List Value, BindsTo s1 (PySem.W.kdv_fn "<lambda>" (X.env.qual ++ "<lambda>") params (.expr body) scope (cloFrom X.env.cells scope.names []) dV doc pm (.ref c') ctv) ⟨[], []⟩ (ps.zip us) ∧ ∀ y ∈ ps.zip us, scope.names.lookup y.1 = some .local := by
    rcases B with ⟨e1, e2, e3⟩ | ⟨l1, n1, e3⟩
    · subst e1 e2
      have hdv : dV = .none := by
        rcases hD with ⟨_, z⟩ | ⟨t, z, _⟩
        · exact z
        · exact absurd rfl z
      subst hdv
      exact ⟨[], .of_eq (e3 _ _ _ _ _ _), fun y hy => nomatch hy⟩
    · rcases hD with ⟨z, _⟩ | ⟨t, _, rfl, hz⟩
      · exact absurd z n1
      · obtain ⟨_, its, hv, o, ho, _, n, hdat⟩ := I1.hok t _ hz
        obtain ⟨k, k1, k2⟩ := e3 (X.env.qual ++ "<lambda>") (cloFrom X.env.cells scope.names []) t doc pm (.ref c') ctv its hv.length.symm
        exact ⟨its, BindsTo.of_defaults rfl ho hdat k1 k2, fun y hy => L.par _ (List.of_mem_zip hy).1⟩
  have rc : codeAny (model X.prog X.w) (X.A.deeper (envOfC qg sg s.heap.objs.size g cdg)) (.call (.ref f) ⟨[], []⟩) (CR (L2.CX X.prog X.w) (envOfC qg sg s.heap.objs.size g cdg :: X.stack) X.prog X.w H1 s1 Q0 E) s1 := by
    refine PySem.W.kla_callFunE hr.depth of1 rfl L.co L.gen rfl ⟨c', oc, vs, t, rfl, hoc, hdc, hvc⟩ (hb _ _ _ _ (wpAny_newFunctionEnv L.own hloc (fun h₁ hns hsb => ⟨I1.nolimit.fresh _ hsb, ?_⟩) L.kind))
    show codeAny _ _ (.expr body (lamEnv X scope s1.heap.objs.size f c')) _ _
    have J := lam_enter (E := E) (f := f) (c' := c') (tk := s1.toks + (ps.zip us).length) I L I1.env0 hr.hd un hns fun b o e => hsb.extBut b o (Nat.ne_of_lt (Heap.lt_size e)) (Heap.get?_push_of_some _ e)
    refine PySem.W.kla_codeExpr (wpAny_mono ((hbody (X.A.deeper (envOfC qg sg s.heap.objs.size g cdg)) _ s1 H1 E rfl (hr.deeper _)).run [] _ _ H1 Q0 J ht) (fun v s' ⟨w', H', J', rv, q⟩ => ?_) fun e s' hq => hq)
    exact ⟨w', H', J'.os, J'.bare, J'.base, J'.hok, rv, q⟩
  refine wpAny_call (codeAny_mono rc fun r s' hq => ?_)
  match r, hq with
  | .error e, hq => exact tk e s' (XE.of_call I1 (fun cls d H' z => hW cls d H' z) hq)
  | .ok (.ret u), ⟨v, H', a1, a2, a3, a4, a5, a6⟩ => exact I1.after ⟨v, H', a1, a2, a3, a4, a5, hQ _ _ a6⟩
end
end Kb
namespace Kb
open PySem PySem.Spec PyProof.Rows L2 LamX
/-- what a def does that calls what it got: TT of the lambda's reading -/
def GivesL (P : Program) (w : World) (K : PySem.W.Frag) (mg : Str → Option Value) (base : Heap) (N : List Str) (x : Str) (sg : Scope) (bg : List Stmt) (a : Str) (k : Nat) (TT : LT → Hp → VK → Prop) : Prop :=
  ∀ (g : Addr) (cdg : Value) (A : Around) (outer : List Env) (f : Addr) (s : Shared) (H : Hp) (Q : VK) (ok : Hp → Prop) (tl : LT), A.guards = some [] → Room k (A.deeper (envOfC x sg s.heap.objs.size g cdg)) →
    (∀ (W : WX) (pn : List (Addr × Obj)) (xe : Value → Shared → Prop) (p1 p2 : Pos), Takes ((gCx P w K mg base N x sg g cdg A outer s H).tr pn xe) W → PE ((gCx P w K mg base N x sg g cdg A outer s H).tr pn xe) (.Call (.Name a p1) [] [] p2) (tAct f ok tl W)) →
    ok H → TT tl H Q → ∃ t, PSs (gCx P w K mg base N x sg g cdg A outer s H).nox bg t ∧ t { nx := fun _ H' => Q .non H', rt := Q } (L2.start N [.ref f]) H
/-- x(lambda: body): the tables, what is asked of the heap behind the making -/
def tLamL (P : Addr) (q : Str) (TT : LT → Hp → VK → Prop) (t : XK → TE) : TE := fun σ H Q => TabS H P q ∧ ∀ H1, ExtN H H1 → TabS H1 P q → TT (fun E H' Q' => t E σ H' Q') H1 Q
section
variable {X : Cx}
theorem pe_lamL {TT : LT → Hp → VK → Prop} {x a : Str} {st : Stmt} {N : List Str} {c P : Addr} {j k : Nat} {params : Arguments} {body : Expr} {scope : Scope} {t : XK → TE} {p lpos pos : Pos} {ps : List Str} {ds : List V} (hg : Gl X x) (D : Df X.K X.mg x st [a]) (S : FnScope N [a] (defScope st))
    (h0 : N[0]? = some a) (hva : Vis (defScope st) a) (G : GivesL X.prog X.w X.K X.mg X.base N x (defScope st) (defBody st) a (j + 1) TT) (hgd : X.A.guards = some []) (TB : TabB X.base X.mg c P) (hcode : X.env.code = .ref c) (hr : Room k X.A) (hk : j + 2 ≤ k) (L : LamP X.N X.env.scope scope ps) (B : LamB params body scope ps ds)
    (hk0 : params.kw_defaults = []) (hde : DefE params.defaults ds)
    (hbody : ∀ (A : Around) (outer : List Env) (s : Shared) (H : Hp) (E : XK) (f c' : Addr), A.guards = some [] → Room j (A.deeper (lamEnv X scope s.heap.objs.size f c')) → PE (lamCx X A outer s H E scope f c') body (t E))
    (hdb : (x == ("__debug__" : Str)) = false := by decide) (hd : (a == ("__debug__" : Str)) = false := by decide) (hcd : (a == ("__classdict__" : Str)) = false := by decide) :
    PE X (.Call (.Name x p) [.Lambda params body scope lpos] [] pos) (tLamL P (X.env.qual ++ "<lambda>") TT t) := by
  obtain ⟨g, fd, F, hm, hbi⟩ := D
  have hkp := F.kp
  obtain ⟨oc, od, kV, doc, pm, an, cdv, ct, osl, rfl, lk, hcg⟩ := F.ex
  refine ⟨fun pins s σ H Q I ⟨hT, h⟩ => ?_⟩
  refine wpAny_Call_Name_kw (ld_glob I hg hm ?_ hdb)
  refine PySem.W.callWith_K (h₀ := X.base) I.ok.mod.kin hkp ?_ (by rfl) (by rfl)
  show wpAny _ _ (spliced ((false, eval (.Lambda params body scope lpos) X.env) :: backTo pos (starEach [] X.env))) _ _ s
  have only : ∀ p ∈ [(P, X.env.qual ++ "<lambda>")], p.1 = P → p.2 = X.env.qual ++ "<lambda>" := fun p hp _ => by rw [List.mem_singleton.mp hp]
  refine Calls.spliced_cons (lam_new (T := [(P, X.env.qual ++ "<lambda>")]) I TB hcode (List.mem_singleton.mpr rfl) only (fun p hp => by rw [List.mem_singleton.mp hp]; exact hT) (L.has I.ok) hk0 hde rfl fun f c' dV doc' pm' ctv H1 s' I1 eN T1 hf hfn hfr hco hD => ?_)
  refine Calls.spliced_nil ⟨I1.kIn, ?_⟩
  have rc : codeAny (model X.prog X.w) X.A (.call (.ref g) ⟨[.ref f], []⟩) (CR CX0 X.stack X.prog X.w H1 s' Q fun _ _ _ => False) s' := by
    refine run_ofS (N := N) (ps := [a]) (us := [.ref f]) (vs := [.ref f]) lk hcg S (hr.mono hk) I1.env0 (BindsTo.of_eq (hbi [.ref f] rfl)) (.cons rfl .nil) rfl fun hr' => ?_
    obtain ⟨t', ht', hq'⟩ := G g cdv X.A X.stack f s' H1 Q (fun HZ => HZ c' = some (CodeO c' (X.env.qual ++ "<lambda>")) ∧ Dfl HZ ds dV) (fun E H' Q' => t E σ H' Q') hgd hr'
      (fun W pn xe p1 p2 tk => lam_act I1 L B hf hfn hfr hco tk hr' (fun A outer s H E hg2 hr2 => hbody A outer s H E f c' (hg2.trans hgd) hr2) h0 hva hd hcd) ⟨hco, hD⟩ (h H1 eN (T1 _ (List.mem_singleton.mpr rfl)))
    exact ⟨t', ht'.nox, hq'⟩
  refine wpAny_call (codeAny_mono rc fun r s2 hq => ?_)
  match r, hq with
  | .error e, hq => exact (show False from hq).elim
  | .ok (.ret u), hq => exact I1.after hq
end
/-! ### what stays -/
theorem TabS.same {H H' : Hp} {P : Addr} {q : Str} (t : TabS H P q) (s : Same H H') : TabS H' P q := TabS.ext t s
theorem ExtN.seqL {K : PySem.W.Frag} {H H' : Hp} {a : Addr} {xs : List V} (e : ExtN H H') (h : SqL K H a xs) : SqL K H' a xs := by
  rcases h with (h | ⟨o, h⟩) | h
  · exact .inl (.inl (e _ _ h fun ps z => by cases z))
  · exact .inl (.inr ⟨o, e _ _ h fun ps z => by cases z⟩)
  · exact .inr h
theorem ExtN.seqT {K : PySem.W.Frag} {H H' : Hp} {a : Addr} {xs : List V} (e : ExtN H H') (h : SqT K H a xs) : SqT K H' a xs := by
  rcases h with (h | ⟨o, h⟩) | h
  · exact .inl (.inl (e _ _ h fun ps z => by cases z))
  · exact .inl (.inr ⟨o, e _ _ h fun ps z => by cases z⟩)
  · exact .inr h
theorem ExtN.ofSame {H H' : Hp} (s : Same H H') : ExtN H H' := ExtN.of s
end Kb
namespace Kb
open PySem PySem.Spec PyProof.Rows L2 LamX
theorem TabS.keep {H H' : Hp} {P d : Addr} {q : Str} {kvs : List (Key × V)} (t : TabS H P q) (k : Keep d H H') (hd : H d = some (.dK kvs)) : TabS H' P q := by
  obtain ⟨ps, h1, h2, h3⟩ := t
  refine ⟨ps, k _ _ h1 (fun z => by rw [z, hd] at h1; cases h1), h2, fun pos cv hc => ?_⟩
  obtain ⟨c, e1, e2⟩ := h3 pos cv hc
  exact ⟨c, e1, k _ _ e2 fun z => by rw [z, hd] at e2; unfold CodeO at e2; cases e2⟩
theorem TabS.keepD {H H' : Hp} {P d : Addr} {q : Str} {n : Nat} (t : TabS H P q) (k : Keep d H H') (hd : DrawAt H d n) : TabS H' P q :=
  let ⟨_, _, _, h, _⟩ := hd; TabS.keep t k h
theorem DrawAt.ext {H H' : Hp} {d : Addr} {n : Nat} (h : DrawAt H d n) (e : ExtN H H') : DrawAt H' d n :=
  let ⟨l, c, t, h1, h2⟩ := h; ⟨l, c, t, e _ _ h1 (fun ps z => by cases z), h2⟩
/-! ### a def whose code object is told -/
def DfC (K : PySem.W.Frag) (mg : Str → Option Value) (x : Str) (st : Stmt) (ps : List Str) (c Tb : Addr) : Prop :=
  ∃ (f : Addr) (fd : FuncData), Fun K x x st f fd ∧ fd.code = .ref c ∧ mg x = some (.ref f) ∧ PySem.W.tabIn K x = some (c, Tb) ∧ ∀ us : List Value, us.length = ps.length → bindArgs fd ⟨us, []⟩ = pure (ps.zip us)
theorem DfC.mk {K : PySem.W.Frag} {mg : Str → Option Value} {h : Heap} {x : Str} {st : Stmt} {ps : List Str} {f c Tb : Addr} {oc ec : Value} {od an dc : Option Addr} {sl s2 : Array (Option Value)} {cvs : Array Value} {kV doc pm ct : Value} (X : K.In h) (G : h.Ns PySem.mainGlobals mg)
    (b : ∀ (kV doc pm : Value) (an : Option Addr) (cdv ct : Value) (us : List Value), us.length = ps.length → bindArgs (PySem.W.fnOf x x (defArgs st) (defBody st) (defScope st) .none kV doc pm an cdv ct) ⟨us, []⟩ = pure (ps.zip us))
    (a : PySem.W.nsIn K PySem.mainGlobals x = some (some (.ref f)))
    (l : K.lookup f = some ⟨oc, od, .func (PySem.W.fnOf x x (defArgs st) (defBody st) (defScope st) .none kV doc pm an (.ref c) ct), sl⟩)
    (cc : PySem.W.codeIn K (.ref c) x = true) (k : PySem.W.keepIn K (.ref f) = true) (lc : K.lookup c = some ⟨ec, dc, .fields cvs, s2⟩) (h11 : cvs[11]? = some (.ref Tb)) : DfC K mg x st ps c Tb :=
  ⟨f, _, fun_mk l cc k, rfl, PySem.W.mg_of X G a, by unfold PySem.W.tabIn; simp only [a, l, lc, h11], b kV doc pm an (.ref c) ct⟩
theorem Fun.okGC {P : Program} {w : World} {K : PySem.W.Frag} {mg : Str → Option Value} {base : Heap} {k : Nat} {f c : Addr} {x qual : Str} {st : Stmt} {fd : FuncData} {N ps : List Str} {sp : Sp} (F : Fun K x qual st f fd) (hc : fd.code = .ref c) (S : FnScope N ps (defScope st)) (len : ∀ vs H Q E, sp vs H Q E → vs.length = ps.length)
    (hbody : ∀ (A : Around) (outer : List Env) (s : Shared) (H : Hp) (vs : List V) (Q : VK) (E : XK), A.guards = some [] → Room k (A.deeper (envOfC qual (defScope st) s.heap.objs.size f (.ref c))) → sp vs H Q E →
      ∃ t, PSs (cxOf CX0 P w K mg base N qual (defScope st) f (.ref c) A outer s H E).nox (defBody st) t ∧ t { nx := fun _ H' => Q .non H', rt := Q } (start N vs) H) : FnG P w K mg base CX0 (k + 1) f fd ps sp := by
  obtain ⟨oc, od, kV, doc, pm, an, cdv, ct, osl, rfl, lk, hcd⟩ := F.ex
  obtain rfl : cdv = .ref c := hc
  have F2 : Fun K x qual st f (PySem.W.fnOf x qual (defArgs st) (defBody st) (defScope st) .none kV doc pm an (.ref c) ct) := F
  refine ⟨len, fun A outer s H args us vs Q E hgd hr e0 hb r hsp => ?_⟩
  have KX : K.In s.heap := e0.mod.kin.keeps fun b o e => (e0.bs b o e).1
  have hkind : ∀ y ∈ ps.zip us, (defScope st).names.lookup y.1 = some .local ∨ ((defScope st).names.lookup y.1 = some .cell ∧ ((cellsFrom (s.heap.objs.size + 1) (defScope st).names []).lookup y.1).isSome = true) := fun ⟨n, v⟩ hy =>
    (S.par n (List.of_mem_zip hy).1).elim .inl fun q => .inr ⟨q, PySem.W.cellsFrom_some _ _ _ (.inl q)⟩
  refine codeAny_call_function hr.depth (KX _ _ lk) rfl S.co S.gen rfl (PySem.W.codeRec_of KX hcd) (hb _ _ _ _ (wpAny_newFunctionEnv_cells S.kind hkind fun env he s1 x => ?_))
  subst he
  refine ⟨(e0.mod.nolimit.keeps fun b o e => (e0.bs b o e).1).keeps x.toInCall.keep, codeAny_func ?_⟩
  obtain ⟨t, ht, hq⟩ := hbody A outer s H vs Q E hgd (hr.deeper _) hsp
  refine wpAny_mono (ht.nox.run [] s1 (start N vs) H _ (inv_start S hr.hd e0 (len _ _ _ _ hsp) r x) hq) (fun fl s' hs => ?_) fun e s' hs => hs
  cases fl with
  | ret u => obtain ⟨v, σ', H', J, rv, q⟩ := hs; exact ⟨v, H', J.os, J.bare, J.base, J.hok, rv, q⟩
  | next => obtain ⟨σ', H', J, q⟩ := hs; exact ⟨V.non, H', J.os, J.bare, J.base, J.hok, rfl, q⟩
  | brk => obtain ⟨_, _, _, q⟩ := hs; exact q.elim
  | cont => obtain ⟨_, _, _, q⟩ := hs; exact q.elim
/-! ### the law's call where the law makes lambdas: the script and its table are tracked -/
theorem law_callGT {P : Program} {w : World} {K : PySem.W.Frag} {mg mb : Str → Option Value} {CX : CXT} {k : Nat} {fa a c Tb : Addr} {fd : FuncData} {x : Str} {sp : Sp} {s₁ : Shared} {vs : List Value} {ns : List Int}
    (KX : K.In s₁.heap) (hns : s₁.heap.Ns PySem.mainGlobals mg) (hb : s₁.heap.Ns builtinsNs mb) (hbb : ∀ x : Str, x ≠ "__name__" → mb x = bootBuiltins x) (hlim : s₁.heap.NoLimit) (hg : s₁.gens = #[])
    (hT : s₁.heap.get? Tb = some (PySem.W.tabObj #[])) (nT : K.lookup Tb = none) (C : PySem.W.CodeHd s₁.heap c Tb)
    (hbm : ∃ (bm : Addr) (ob : Obj), mg "__builtins__" = some (.ref bm) ∧ bm ≠ builtinsNs ∧ s₁.heap.get? bm = some ob ∧ ob.cls = .type "module" ∧ ob.dict = some builtinsNs ∧ ob.data = .plain)
    (ha : s₁.heap.get? a = some { cls := .type "list", data := .seq vs.toArray }) (hi : IntsAre vs ns) (hl : ns.length ≤ sizeLine) (hr : Room k callerA)
    (F : ∀ base : Heap, K.In base → base.Ns PySem.mainGlobals mg → TabB base mg c Tb → FnG P w K mg base CX k fa fd [x] sp) (hbind : ∀ (s : Shared) (u : Value), BindsTo s fd ⟨[u], []⟩ [(x, u)])
    (hsp : ∀ H : Hp, H Tb = some (.tbl #[]) → SqL K H a (ns.map V.int) → sp [.ref a] H (fun v _ => v = .bl true) fun _ _ _ => False)
    (hCX : ∀ H e s', CX [] H s₁ (fun _ _ _ => False) e s' → False) :
    codeAny (model P w) callerA (.call (.ref fa) ⟨[.ref a], []⟩) (fun r s' => r = .ok (.ret (.bool true)) ∧ OldK s₁.heap s'.heap ∧ s'.os = s₁.os ∧ AllBare s'.gens) s₁ := by
  have rv := vals_ints hi
  have aT : a ≠ Tb := fun z => by
    rw [← z, ha] at hT
    cases hT
  have core : ∀ H : Hp, H Tb = some (.tbl #[]) → (∀ b, H b = none ∨ b = Tb ∨ ∃ o xs, H b = some (.frz o (.lst xs))) → SqL K H a (ns.map V.int) → HOk P w H s₁.heap → (∀ b, H b ≠ none → b = a ∨ b = Tb) → (H a ≠ none → K.lookup a = none) →
      codeAny (model P w) callerA (.call (.ref fa) ⟨[.ref a], []⟩) (fun r s' => r = .ok (.ret (.bool true)) ∧ OldK s₁.heap s'.heap ∧ s'.os = s₁.os ∧ AllBare s'.gens) s₁ := by
    intro H hH hO hS hok hA hK
    have one : ∀ b, b ≠ a → b ≠ Tb → H b = none := fun b n1 n2 => Classical.byContradiction fun q => (hA b q).elim n1 n2
    have plain : ∀ {b : Addr} {o : Obj}, s₁.heap.get? b = some o → o ≠ { cls := .type "list", data := .seq vs.toArray } → o ≠ PySem.W.tabObj #[] → (hidT s₁.heap H).get? b = some o := fun {b o} e n1 n2 =>
      hidT_get e (one b (fun z => n1 (by rw [z, ha] at e; exact (Option.some.inj e).symm)) fun z => n2 (by rw [z, hT] at e; exact (Option.some.inj e).symm))
    have spaces : ∀ {b : Addr} {m : Str → Option Value}, s₁.heap.Ns b m → (hidT s₁.heap H).Ns b m := fun ⟨o, es, ep, e, d, r⟩ => ⟨o, es, ep, plain e (fun z => by rw [z] at d; cases d) (fun z => by rw [z] at d; cases d), d, r⟩
    have kin : K.In (hidT s₁.heap H) := fun b o e => hidT_get (KX b o e) (Classical.byContradiction fun q => by
      rcases hA b q with z | z
      · subst z
        rw [hK q] at e
        cases e
      · rw [z, nT] at e
        cases e)
    have TB : TabB (hidT s₁.heap H) mg c Tb := by
      refine ⟨?_, ?_, fun z => ?_⟩
      · obtain ⟨o, us, file, tf, flags, tg, inF, text, tt, e1, r1, r2, r3, r4⟩ := C
        refine ⟨o, us, file, tf, flags, tg, inF, text, tt, plain e1 (fun z => ?_) (fun z => ?_), r1, r2, r3, r4⟩
        · rw [z] at r2; cases r2
        · rw [z] at r2; cases r2; simp at r3
      · obtain ⟨bm, ob, b1, b2, b3, b4, b5, b6⟩ := hbm
        have nG : bm ≠ PySem.mainGlobals := fun q => by
          obtain ⟨o, es, ep, e, hd, _⟩ := hns
          rw [q, e] at b3
          cases b3
          rw [hd] at b6
          cases b6
        have nP : bm ≠ Tb := fun q => by
          rw [q, hT] at b3
          cases b3
          cases b6
        exact ⟨bm, ob, b1, b2, nG, nP, plain b3 (fun z => by rw [z] at b6; cases b6) (fun z => by rw [z] at b6; cases b6), b4, b5, b6⟩
      · obtain ⟨o, es, ep, e, hd, _⟩ := hns
        rw [z, hT] at e
        cases e
        cases hd
    obtain ⟨mc, l1, l2⟩ := hlim
    refine codeAny_mono ((F _ kin (spaces hns) TB).run callerA [] s₁ H ⟨[.ref a], []⟩ [.ref a] [.ref a] _ _ rfl hr
      ⟨rfl, ⟨kin, spaces hns, ⟨mb, spaces hb, hbb⟩, ⟨mc, spaces l1, l2⟩⟩, fun b o e => of_hidT e, Nat.le_of_eq (hidT_size _ _), trivial, fun b hb => absurd (show b ∈ ([] : List Addr) from hb) (by simp), hok, .of_eq hg⟩
      (hbind s₁ (.ref a)) (.cons rfl .nil) (hsp H hH hS)) fun r s' h => ?_
    match r, h with
    | .error e, h => exact (hCX H e s' h).elim
    | .ok (.ret u), ⟨v, H', os, bare, un, hok', r', q⟩ =>
      cases (show v = .bl true from q)
      cases (show u = Value.bool true from r')
      obtain ⟨more, hm⟩ := un.tbls Tb #[] hH
      have grown : s'.heap.get? Tb = some { cls := .none, data := .fields (#[] ++ more) } := hok' Tb _ hm
      have key : ∀ b o, b ≠ Tb → s₁.heap.get? b = some o → s'.heap.get? b = some o := fun b o n e => by
        rcases hO b with z | z | ⟨ob, xs, z⟩
        · exact un.keep b o e z (fun y => absurd (show b ∈ ([] : List Addr) from y) (by simp)) (by simp)
        · exact absurd z n
        · obtain ⟨e1, _⟩ := hok b _ z
          obtain ⟨e2, _⟩ := hok' b _ (un.frzs b ob _ z)
          rw [e] at e1
          cases e1
          exact e2
      refine ⟨rfl, ⟨fun b o e => ?_, fun b o e => ?_⟩, os, bare⟩
      · by_cases hbT : b = Tb
        · subst hbT
          rw [hT] at e
          cases e
          exact .inr (.inl ⟨(C.tab hT).isCodeTable, rfl, #[], more, rfl, grown⟩)
        · exact .inl (key b o hbT e)
      · by_cases hbT : b = Tb
        · subst hbT
          exact ⟨_, grown⟩
        · exact ⟨o, key b o hbT e⟩
  cases hk : K.lookup a with
  | some o =>
    have e := KX a o hk
    rw [ha] at e
    cases e
    have at' : ∀ b, b ≠ Tb → (if b = Tb then some (HO.tbl #[]) else none) = none := fun b n => if_neg n
    refine core (fun b => if b = Tb then some (.tbl #[]) else none) (if_pos rfl) (fun b => ?_) (.inr ⟨_, vs.toArray, _, hk, rfl, rfl, rfl, by rw [List.size_toArray, hi.length]; exact hl, by simpa using rv⟩) (fun b u z => ?_) (fun b z => .inr (Classical.byContradiction fun n => z (at' b n))) fun z => absurd (at' a aT) z
    · by_cases hbT : b = Tb
      · exact .inr (.inl hbT)
      · exact .inl (at' b hbT)
    · by_cases hbT : b = Tb
      · subst hbT
        cases (if_pos rfl).symm.trans z
        exact hT
      · cases (at' b hbT).symm.trans z
  | none =>
    have at1 : ∀ b, b ≠ a → b ≠ Tb → (if b = a then some (HO.frz { cls := .type "list", data := .seq vs.toArray } (.lst (ns.map V.int))) else if b = Tb then some (.tbl #[]) else none) = none := fun b n1 n2 => (if_neg n1).trans (if_neg n2)
    have at2 : (if Tb = a then some (HO.frz { cls := .type "list", data := .seq vs.toArray } (.lst (ns.map V.int))) else if Tb = Tb then some (.tbl #[]) else none) = some (.tbl #[]) := (if_neg (Ne.symm aT)).trans (if_pos rfl)
    refine core (fun b => if b = a then some (.frz { cls := .type "list", data := .seq vs.toArray } (.lst (ns.map V.int))) else if b = Tb then some (.tbl #[]) else none) at2 (fun b => ?_) (.inl (.inr ⟨{ cls := .type "list", data := .seq vs.toArray }, if_pos rfl⟩)) (fun b u z => ?_)
      (fun b z => Classical.byContradiction fun n => z (at1 b (fun q => n (.inl q)) fun q => n (.inr q))) fun _ => hk
    · by_cases hba : b = a
      · exact .inr (.inr ⟨_, _, if_pos hba⟩)
      · by_cases hbT : b = Tb
        · exact .inr (.inl hbT)
        · exact .inl (at1 b hba hbT)
    · by_cases hba : b = a
      · subst hba
        cases (if_pos rfl).symm.trans z
        exact ⟨ha, by rw [List.length_map]; exact hl, vs, _, rv, ha⟩
      · by_cases hbT : b = Tb
        · subst hbT
          cases at2.symm.trans z
          exact hT
        · cases (at1 b hba hbT).symm.trans z
theorem walkGT {l : PySem.W.OpenLaw} {n k : Nat} {q : Program} {loose : List Str} {XP : (Str → Option Value) → Heap → Prop} {YP : World → Heap → Prop} {d : DefRec} {K : Params → PySem.W.Frag} {CX : World → CXT} {sp : World → Addr → Sp} {x : Str}
    (hn : l.most = some n) (hn2 : n ≤ sizeLine) (hdf : d.params.defaults = []) (hr : Room k callerA) (hY : ∀ (w : World) (h : Heap), YP w h → (K w.params).In h) (hrec : (recsOf q).find? (fun e => e.name == d.name) = some d)
    (F : ∀ (w : World) (mg : Str → Option Value) (fa : Addr) (h : Heap), (K w.params).In h → h.Ns PySem.mainGlobals mg → mg d.name = some (.ref fa) →
      ∃ (fd : FuncData) (c Tb : Addr), PySem.W.tabIn (K w.params) d.name = some (c, Tb) ∧ (K w.params).lookup Tb = none ∧ (∀ (s : Shared) (u : Value), BindsTo s fd ⟨[u], []⟩ [(x, u)]) ∧
        ∀ base : Heap, (K w.params).In base → base.Ns PySem.mainGlobals mg → TabB base mg c Tb → FnG l.prog w (K w.params) mg base (CX w) k fa fd [x] (sp w Tb))
    (hsp : ∀ (w : World) (H : Hp) (a Tb : Addr) (ns : List Int), ns.length ≤ n → H Tb = some (.tbl #[]) → SqL (K w.params) H a (ns.map V.int) → sp w Tb [.ref a] H (fun v _ => v = .bl true) fun _ _ _ => False)
    (hCX : ∀ (w : World) (H : Hp) (s : Shared) (e : Value) (s' : Shared), CX w [] H s (fun _ _ _ => False) e s' → False) :
    PySem.W.WalkO q loose XP YP l.row.toRowW d [] (fun f vs => PySem.call f vs) := by
  refine Att.attach_call hn hdf fun w s₀ s₁ mg mb fa o pm cd doc a vs ns G Y ho hd hcd hmg hobj hints hlen hg => ?_
  have KX := hY w _ Y
  obtain ⟨fd, c, Tb, tb, nT, hb, hF⟩ := F w mg fa _ KX G.T.g hmg
  obtain ⟨C, hT⟩ := PySem.W.tab_of G.T KX hrec tb
  exact law_callGT KX G.T.g G.T.b G.T.builtins G.T.nolimit hg hT nT C G.T.bmain hobj hints (Nat.le_trans hlen hn2) hr hF hb (fun H h1 h2 => hsp w H a Tb ns hlen h1 h2) fun H e s' => hCX w H s₁ e s'
end Kb

namespace Kb
open PySem PySem.Spec PyProof.Rows L2 TL
/-! ### what a law that makes lambdas keeps -/
def qLaw : Str := ("law" : Str) ++ ".<locals>." ++ "<lambda>"
/-- the heap's objects but tables stay, the law's table tells lambdas -/
def LamInv (Tb : Addr) (H H' : Hp) : Prop := LamX.ExtN H H' ∧ LamX.TabS H' Tb qLaw
theorem LamInv.same {Tb : Addr} {H H1 H2 : Hp} (h : LamInv Tb H H1) (s : Same H1 H2) : LamInv Tb H H2 := ⟨h.1.trans (.of s), TabS.same h.2 s⟩
theorem LamInv.ext {Tb : Addr} {H H1 H2 : Hp} (h : LamInv Tb H H1) (e : LamX.ExtN H1 H2) (t : LamX.TabS H2 Tb qLaw) : LamInv Tb H H2 := ⟨h.1.trans e, t⟩
/-- nothing but a table may have stood there -/
def FreshN (H : Hp) (d : Addr) : Prop := ∀ o, H d = some o → ∃ ps, o = .tbl ps
theorem FreshN.of {H H1 : Hp} {d : Addr} (e : LamX.ExtN H H1) (h : H1 d = none) : FreshN H d := fun o ho => by
  cases o with
  | tbl ps => exact ⟨ps, rfl⟩
  | _ => exact absurd ((e _ _ ho fun ps z => by cases z).symm.trans h) (by simp)
theorem LamInv.keep {Tb d : Addr} {H H1 H2 : Hp} {n : Nat} (h : LamInv Tb H H1) (k : Keep d H1 H2) (hd : FreshN H d) (D : DrawAt H1 d n) : LamInv Tb H H2 :=
  ⟨fun b o e m => k b o (h.1 b o e m) fun z => by subst z; obtain ⟨ps, q⟩ := hd o e; exact m ps q, TabS.keepD h.2 k D⟩
theorem LamInv.put {Tb p : Addr} {H H1 : Hp} {xs ys : List V} (h : LamInv Tb H H1) (fr : FreshN H p) (hp : H1 p = some (.lst xs)) : LamInv Tb H (upd H1 p (.lst ys)) := by
  refine ⟨fun b o e m => ?_, ?_⟩
  · have : b ≠ p := fun z => by subst z; obtain ⟨ps, q⟩ := fr o e; exact m ps q
    rw [upd_ne this]; exact h.1 b o e m
  · obtain ⟨ps, h1, h2, h3⟩ := h.2
    have n1 : Tb ≠ p := fun z => by rw [z, hp] at h1; cases h1
    refine ⟨ps, (upd_ne n1).trans h1, h2, fun pos cv hc => ?_⟩
    obtain ⟨c, e1, e2⟩ := h3 pos cv hc
    have n2 : c ≠ p := fun z => by rw [z, hp] at e2; unfold LamX.CodeO at e2; cases e2
    exact ⟨c, e1, (upd_ne n2).trans e2⟩
theorem repr_bb {K : PySem.W.Frag} {H : Hp} {p : Addr} {a b : Bool} (h : SqL K H p [V.bl a, V.bl b]) : Dp K H (.ref p) (.list [.bool a, .bool b]) ∧ (PyData.list [.bool a, .bool b]).showable = true ∧ (PyData.list [.bool a, .bool b]).hasDict = false ∧ (PyData.list [.bool a, .bool b]).shown.length ≤ sizeLine ∧ (PyData.list [.bool a, .bool b]).depth ≤ 64 :=
  ⟨.lst h (.cons (.bl _) (.cons (.bl _) .nil)), rfl, rfl, shown_fits (by simp only [plainD, plainAll, and_self]) (by simp only [wtD, wtAll]; cases a <;> cases b <;> decide), by simp [PyData.depth, PyData.depthAll]⟩
theorem ty_ext {K : PySem.W.Frag} {H H' : Hp} {v : V} {t : Value} (s : LamX.ExtN H H') (h : TyX K H v t) : TyX K H' v t := by
  cases h with
  | base h =>
    refine .base ?_
    cases h with
    | non => exact .non
    | bl x => exact .bl x
    | int i => exact .int i
    | str x => exact .str x
    | flt x => exact .flt x
    | lst e => exact .lst (s _ _ e fun ps z => by cases z)
    | frz e => exact .frz (s _ _ e fun ps z => by cases z)
    | tup e => exact .tup (s _ _ e fun ps z => by cases z)
    | dK e => exact .dK (s _ _ e fun ps z => by cases z)
    | dT e => exact .dT (s _ _ e fun ps z => by cases z)
    | ins e cl ha hn htk hm => exact .ins (s _ _ e fun ps z => by cases z) cl ha hn htk hm
  | byt b => exact .byt b
  | set e => exact .set (s _ _ e fun ps z => by cases z)
  | kList e c => exact .kList e c
  | kTuple e c => exact .kTuple e c
  | kDict e c => exact .kDict e c
  | fTuple e => exact .fTuple (s _ _ e fun ps z => by cases z)
  | fDict e => exact .fDict (s _ _ e fun ps z => by cases z)
end Kb

namespace Pf
open PySem PySem.Spec PyProof.Rows L2 TL Kb
def top (i : Nat) : Stmt := PySem.Challenge.pw_crumbjar_k02_hosts_told.main.body.getD i (.Pass ⟨0, 0, 0, 0⟩)
def clsInit : Stmt → Stmt
  | .ClassDef _ _ _ body _ _ _ _ _ _ _ => body.getD 0 (.Pass ⟨0, 0, 0, 0⟩)
  | s => s
abbrev si_BadHost : Stmt := clsInit (top 2)
theorem sci_BadHost : FnScope ["self", "place"] ["self", "place"] (defScope si_BadHost) := ⟨rfl, rfl, rfl, by decide +kernel, rfl, by decide +kernel, by decide +kernel⟩
theorem oki_BadHost {K : PySem.W.Frag} {mg : Str → Option Value} {C fI : Addr} {fd : FuncData} (P : Program) (w : World) (base : Heap) (F : Fun K "__init__" "BadHost.__init__" si_BadHost fI fd) : FnOk P w K mg base CX0 1 fI fd ["self", "place"] (spInit K C "place") := by
  refine F.ok sci_BadHost (fun vs H Q E h => ?_) (fun cdv A outer s H vs Q E hr h => ?_)
  · obtain ⟨_, _, rfl, _⟩ := h; rfl
  · refine ⟨_, pss_one (ps_ost (pv 0) (pv 1)), ?_⟩
    obtain ⟨a, v, rfl, ha, T, no, hQ⟩ := h
    exact ⟨_, rfl, _, rfl, a, C, rfl, T, no, .inl ⟨ha, fun dx h1 h2 => hQ dx h1 h2⟩⟩
theorem bi_BadHost : ∀ (kV doc pm : Value) (an : Option Addr) (cdv ct : Value) (us : List Value), us.length = (["self", "place"] : List Str).length → bindArgs (PySem.W.fnOf "__init__" "BadHost.__init__" (defArgs si_BadHost) (defBody si_BadHost) (defScope si_BadHost) .none kV doc pm an cdv ct) ⟨us, []⟩ = pure ((["self", "place"] : List Str).zip us) :=
  fun _ _ _ _ _ _ us hl => match us, hl with | [_, _], _ => rfl
abbrev s_has_only : Stmt := top 5
theorem sc_has_only : FnScope ["text", "signs"] ["text", "signs"] (defScope s_has_only) := ⟨rfl, rfl, rfl, by decide +kernel, rfl, by decide +kernel, by decide +kernel⟩
abbrev s_is_digits : Stmt := top 6
theorem sc_is_digits : FnScope ["text"] ["text"] (defScope s_is_digits) := ⟨rfl, rfl, rfl, by decide +kernel, rfl, by decide +kernel, by decide +kernel⟩
abbrev s__is_label : Stmt := top 20
theorem sc__is_label : FnScope ["text"] ["text"] (defScope s__is_label) := ⟨rfl, rfl, rfl, by decide +kernel, rfl, by decide +kernel, by decide +kernel⟩
abbrev s_are_labels : Stmt := top 19
theorem sc_are_labels : FnScope ["texts", "text"] ["texts"] (defScope s_are_labels) := ⟨rfl, rfl, rfl, by decide +kernel, rfl, by decide +kernel, by decide +kernel⟩
abbrev s__is_number : Stmt := top 22
theorem sc__is_number : FnScope ["label"] ["label"] (defScope s__is_number) := ⟨rfl, rfl, rfl, by decide +kernel, rfl, by decide +kernel, by decide +kernel⟩
abbrev s__are_four_numbers : Stmt := top 21
theorem sc__are_four_numbers : FnScope ["labels", "label"] ["labels"] (defScope s__are_four_numbers) := ⟨rfl, rfl, rfl, by decide +kernel, rfl, by decide +kernel, by decide +kernel⟩
abbrev s_is_host : Stmt := top 14
theorem sc_is_host : FnScope ["value", "labels"] ["value"] (defScope s_is_host) := ⟨rfl, rfl, rfl, by decide +kernel, rfl, by decide +kernel, by decide +kernel⟩
abbrev s_is_address_host : Stmt := top 15
theorem sc_is_address_host : FnScope ["value"] ["value"] (defScope s_is_address_host) := ⟨rfl, rfl, rfl, by decide +kernel, rfl, by decide +kernel, by decide +kernel⟩
abbrev s__begins_host : Stmt := top 24
theorem sc__begins_host : FnScope ["text", "end"] ["text"] (defScope s__begins_host) := ⟨rfl, rfl, rfl, by decide +kernel, rfl, by decide +kernel, by decide +kernel⟩
abbrev s__place : Stmt := top 23
theorem sc__place : FnScope ["text", "many"] ["text"] (defScope s__place) := ⟨rfl, rfl, rfl, by decide +kernel, rfl, by decide +kernel, by decide +kernel⟩
abbrev s_need_host : Stmt := top 18
theorem sc_need_host : FnScope ["host"] ["host"] (defScope s_need_host) := ⟨rfl, rfl, rfl, by decide +kernel, rfl, by decide +kernel, by decide +kernel⟩
abbrev s_labels_of : Stmt := top 16
theorem sc_labels_of : FnScope ["host"] ["host"] (defScope s_labels_of) := ⟨rfl, rfl, rfl, by decide +kernel, rfl, by decide +kernel, by decide +kernel⟩
abbrev s_host_fits : Stmt := top 17
theorem sc_host_fits : FnScope ["host", "domain"] ["host", "domain"] (defScope s_host_fits) := ⟨rfl, rfl, rfl, by decide +kernel, rfl, by decide +kernel, by decide +kernel⟩
abbrev s__law_draw : Stmt := top 27
theorem sc__law_draw : FnScope ["cell", "k"] ["cell", "k"] (defScope s__law_draw) := ⟨rfl, rfl, rfl, by decide +kernel, rfl, by decide +kernel, by decide +kernel⟩
abbrev s__law_mixed : Stmt := top 26
theorem sc__law_mixed : FnScope ["cell", "k", "one"] ["cell", "k"] (defScope s__law_mixed) := ⟨rfl, rfl, rfl, by decide +kernel, rfl, by decide +kernel, by decide +kernel⟩
abbrev s__law_digit : Stmt := top 28
theorem sc__law_digit : FnScope ["draw", "span", "j", "found"] ["draw", "span"] (defScope s__law_digit) := ⟨rfl, rfl, rfl, by decide +kernel, rfl, by decide +kernel, by decide +kernel⟩
abbrev s__law_is_label : Stmt := top 30
theorem sc__law_is_label : FnScope ["text", "sign"] ["text"] (defScope s__law_is_label) := ⟨rfl, rfl, rfl, by decide +kernel, rfl, by decide +kernel, by decide +kernel⟩
abbrev s__law_is_numeric : Stmt := top 31
theorem sc__law_is_numeric : FnScope ["text", "j"] ["text"] (defScope s__law_is_numeric) := ⟨rfl, rfl, rfl, by decide +kernel, rfl, by decide +kernel, by decide +kernel⟩
abbrev s__law_is_host : Stmt := top 32
theorem sc__law_is_host : FnScope ["text", "words", "word", "sign"] ["text"] (defScope s__law_is_host) := ⟨rfl, rfl, rfl, by decide +kernel, rfl, by decide +kernel, by decide +kernel⟩
abbrev s__law_label : Stmt := top 29
theorem sc__law_label : FnScope ["draw", "size", "signs", "j"] ["draw"] (defScope s__law_label) := ⟨rfl, rfl, rfl, by decide +kernel, rfl, by decide +kernel, by decide +kernel⟩
abbrev s__law_text : Stmt := top 33
theorem sc__law_text : FnScope ["draw", "many", "words", "text", "at", "sign", "way", "j"] ["draw"] (defScope s__law_text) := ⟨rfl, rfl, rfl, by decide +kernel, rfl, by decide +kernel, by decide +kernel⟩
abbrev s__law_due : Stmt := top 34
theorem sc__law_due : FnScope ["text", "at", "tail"] ["text"] (defScope s__law_due) := ⟨rfl, rfl, rfl, by decide +kernel, rfl, by decide +kernel, by decide +kernel⟩
abbrev s__law_place : Stmt := top 35
theorem sc__law_place : FnScope ["call", "e"] ["call"] (defScope s__law_place) := ⟨rfl, rfl, rfl, by decide +kernel, rfl, by decide +kernel, by decide +kernel⟩
abbrev s_law : Stmt := top 36
theorem sc_law : FnScope ["script", "k", "amount", "draw", "turn", "text", "good", "due", "words", "is_number", "told", "odd"] ["script"] (defScope s_law) := ⟨rfl, rfl, rfl, by decide +kernel, rfl, by decide +kernel, by decide +kernel⟩
/-- what the top has written -/
structure Txt (K : PySem.W.Frag) (mg : Str → Option Value) : Prop where
  b_enumerate : mg "enumerate" = none
  b_int : mg "int" = none
  b_isinstance : mg "isinstance" = none
  b_len : mg "len" = none
  b_range : mg "range" = none
  b_repr : mg "repr" = none
  b_str : mg "str" = none
  b_sum : mg "sum" = none
  b_tuple : mg "tuple" = none
  c_DIGITS : ∃ u, mg "DIGITS" = some u ∧ RelV (.str "0123456789") u
  c_MOST_OF_LABEL : ∃ u, mg "MOST_OF_LABEL" = some u ∧ RelV (.int 20) u
  c_MOST_LABELS : ∃ u, mg "MOST_LABELS" = some u ∧ RelV (.int 10) u
  c_MOST_OF_HOST : ∃ u, mg "MOST_OF_HOST" = some u ∧ RelV (.int 100) u
  c_MOST_OF_NUMBER : ∃ u, mg "MOST_OF_NUMBER" = some u ∧ RelV (.int 255) u
  c_LABEL_SIGNS : ∃ u, mg "LABEL_SIGNS" = some u ∧ RelV (.str "abcdefghijklmnopqrstuvwxyz0123456789-") u
  c_ENDS : ∃ a, mg "ENDS" = some (.ref a) ∧ ∀ H, SqT K H a [(.str ""), (.str "a"), (.str ".a")]
  e_BadHost : ∃ C, Err K mg "BadHost" "place" C
  d_has_only : Df K mg "has_only" s_has_only ["text", "signs"]
  d_is_digits : Df K mg "is_digits" s_is_digits ["text"]
  d__is_label : Df K mg "_is_label" s__is_label ["text"]
  d_are_labels : Df K mg "are_labels" s_are_labels ["texts"]
  d__is_number : Df K mg "_is_number" s__is_number ["label"]
  d__are_four_numbers : Df K mg "_are_four_numbers" s__are_four_numbers ["labels"]
  d_is_host : Df K mg "is_host" s_is_host ["value"]
  d_is_address_host : Df K mg "is_address_host" s_is_address_host ["value"]
  d__begins_host : Df K mg "_begins_host" s__begins_host ["text"]
  d__place : Df K mg "_place" s__place ["text"]
  d_need_host : Df K mg "need_host" s_need_host ["host"]
  d_labels_of : Df K mg "labels_of" s_labels_of ["host"]
  d_host_fits : Df K mg "host_fits" s_host_fits ["host", "domain"]
  d__law_draw : Df K mg "_law_draw" s__law_draw ["cell", "k"]
  d__law_mixed : Df K mg "_law_mixed" s__law_mixed ["cell", "k"]
  d__law_digit : Df K mg "_law_digit" s__law_digit ["draw", "span"]
  d__law_is_label : Df K mg "_law_is_label" s__law_is_label ["text"]
  d__law_is_numeric : Df K mg "_law_is_numeric" s__law_is_numeric ["text"]
  d__law_is_host : Df K mg "_law_is_host" s__law_is_host ["text"]
  d__law_label : Df K mg "_law_label" s__law_label ["draw"]
  d__law_text : Df K mg "_law_text" s__law_text ["draw"]
  d__law_due : Df K mg "_law_due" s__law_due ["text"]
  d__law_place : Df K mg "_law_place" s__law_place ["call"]
def sp_has_only : Sp := fun vs H Q _ => ∃ x g : Str, vs = [.str x, .str g] ∧ x.length ≤ 1000000 ∧ Q (.bl (onlyB (tl g) (tl x))) H
def sp_is_digits : Sp := fun vs H Q _ => ∃ x : Str, vs = [.str x] ∧ x.length ≤ 1000000 ∧ Q (.bl (digB (tl x))) H
def sp__is_label : Sp := fun vs H Q _ => ∃ x : Str, vs = [.str x] ∧ x.length ≤ 1000000 ∧ Q (.bl (labB (tl x))) H
theorem one_dash (c : Nat) : decide (V.str ⟨#[c]⟩ = V.str ("-" : Str)) = decide (c = 45) := by
  rw [show ("-" : Str) = ⟨#[45]⟩ from ext_tl (by decide +kernel), dec_str, Bool.eq_iff_iff, beq_iff_eq, decide_eq_true_eq, str_eq_iff]
  show [c] = [45] ↔ _
  simp
def sp_are_labels (K : PySem.W.Frag) : Sp := fun vs H Q _ => ∃ (p : Addr) (xs : List Str), vs = [.ref p] ∧ SqL K H p (xs.map V.str) ∧ (∀ x ∈ xs, x.length ≤ 1000000) ∧ Q (.bl ((xs.map tl).all labB)) H
def sp__is_number : Sp := fun vs H Q _ => ∃ x : Str, vs = [.str x] ∧ x.length ≤ 640 ∧ Q (.bl (numB (tl x))) H
theorem one_zero (c : Nat) : decide (V.str ⟨#[c]⟩ = V.str ("0" : Str)) = decide (c = 48) := by
  rw [show ("0" : Str) = ⟨#[48]⟩ from ext_tl (by decide +kernel), dec_str, Bool.eq_iff_iff, beq_iff_eq, decide_eq_true_eq, str_eq_iff]
  show [c] = [48] ↔ _
  simp
theorem str_zero (x : Str) : decide (V.str x = V.str ("0" : Str)) = decide (tl x = [48]) := by
  rw [Bool.eq_iff_iff, decide_eq_true_eq, decide_eq_true_eq]
  exact ⟨fun e => by rw [V.str.inj e]; decide +kernel, fun e => by rw [show x = ("0" : Str) from ext_tl (by rw [e]; decide +kernel)]⟩
def sp__are_four_numbers (K : PySem.W.Frag) : Sp := fun vs H Q _ => ∃ (p : Addr) (xs : List Str), vs = [.ref p] ∧ SqL K H p (xs.map V.str) ∧ (∀ x ∈ xs, x.length ≤ 640) ∧ Q (.bl ((xs.map tl).all numB && decide (xs.length = 4))) H
def sp_is_host (K : PySem.W.Frag) : Sp := fun vs H Q _ => ∃ (v : V) (b : Bool), vs = [v] ∧ TxV hostB K H v b ∧ ∀ H', Same H H' → Q (.bl b) H'
theorem lastL_map {P : List Str} {z : Str} {P0 : List Str} (e : P = P0 ++ [z]) : lastL (P.map tl) = tl z := by
  rw [e, List.map_append]; exact lastL_snoc _ _
def sp_is_address_host (K : PySem.W.Frag) : Sp := fun vs H Q _ => ∃ (v : V) (b : Bool), vs = [v] ∧ TxV addrB K H v b ∧ ∀ H', Same H H' → Q (.bl b) H'
def sp__begins_host : Sp := fun vs H Q _ => ∃ x : Str, vs = [.str x] ∧ x.length ≤ 1000 ∧ ∀ H' : Hp, Same H H' → Q (.bl (beginsB (tl x))) H'
def tails3 : List Str := [("" : Str), "a", ".a"]
def sp__place : Sp := fun vs H Q _ => ∃ x : Str, vs = [.str x] ∧ x.length ≤ 1000 ∧ ∀ (k : Nat) (H' : Hp), PlaceB (tl x) k → Same H H' → Q (.int (k : Nat)) H'
/-- a text, or a value that is none -/
def TxtV (K : PySem.W.Frag) (H : Hp) (v : V) : Prop := (∃ x : Str, v = .str x ∧ x.length ≤ 1000) ∨ ∃ t : Value, TyX K H v t ∧ PySem.W.kitOne K t (.type "str") = some false
/-- a value that is no host, and the place that is told of it -/
def NoHost (v : V) (k : Nat) : Prop := (∃ x : Str, v = .str x ∧ hostB (tl x) = false ∧ PlaceB (tl x) k) ∨ ((∀ x : Str, v ≠ .str x) ∧ k = 0)
def Refuses (mg : Str → Option Value) (H : Hp) (E : XK) (v : V) : Prop := ∀ (k : Nat) (C d : Addr) (H' : Hp), NoHost v k → mg "BadHost" = some (.ref C) → Same H H' → H' d = none → E (.ref C) (some d) (L2.upd H' d (.xd [(("place" : Str), .int (k : Nat))]))
theorem ty_nostr {K : PySem.W.Frag} {H : Hp} {v : V} {t : Value} (h : TyX K H v t) (hk : PySem.W.kitOne K t (.type "str") = some false) : ∀ x : Str, v ≠ .str x := fun x e => by
  subst e
  cases h with
  | base h =>
    cases h
    rw [kit_str K] at hk
    cases hk
def sp_need_host (K : PySem.W.Frag) (mg : Str → Option Value) : Sp := fun vs H Q E => ∃ v : V, vs = [v] ∧ TxtV K H v ∧ (∀ x : Str, v = .str x → hostB (tl x) = true → ∀ H', Same H H' → Q .non H') ∧ Refuses mg H E v
def sp_labels_of (K : PySem.W.Frag) (mg : Str → Option Value) : Sp := fun vs H Q E => ∃ v : V, vs = [v] ∧ TxtV K H v ∧
  (∀ x : Str, v = .str x → hostB (tl x) = true → ∀ (p : Addr) (P : List Str) (H' : Hp), Same H H' → P.map tl = sp1 46 (tl x) → H' p = some (.tup (P.map V.str)) → Q (.ref p) H') ∧ Refuses mg H E v
def sp_host_fits (K : PySem.W.Frag) (mg : Str → Option Value) : Sp := fun vs H Q E => ∃ v u : V, vs = [v, u] ∧ TxtV K H v ∧ TxtV K H u ∧
  (∀ x y : Str, v = .str x → u = .str y → hostB (tl x) = true → hostB (tl y) = true → ∀ H', Same H H' → Q (.bl (fitB (tl x) (tl y))) H') ∧ Refuses mg H E v ∧ ((∃ x : Str, v = .str x ∧ hostB (tl x) = true) → Refuses mg H E u)
/-- a new draw -/
def sp__law_draw : Sp := fun vs H Q _ => ∃ c k : Int, vs = [.int c, .int k] ∧ 0 ≤ k ∧ k ≤ 1000 ∧ ∀ (d : Addr) (H' : Hp), Same H H' → H d = none → DrawAt H' d 200000000 → Q (.ref d) H'
theorem dkv_merge (l c t : Int) : mergeK [] (dkv l c t) = dkv l c t := by
  simp [mergeK, dkv, putK, kne1, kne2, kne3]
/-- some number below 2147483647 -/
def sp__law_mixed : Sp := fun vs H Q _ => ∃ c k : Int, vs = [.int c, .int k] ∧ 0 ≤ k ∧ k ≤ 1000000000 ∧ ∀ (r : Int) (H' : Hp), Same H H' → 0 ≤ r → r < 2147483647 → Q (.int r) H'
/-- some number below the span -/
def sp__law_digit : Sp := fun vs H Q _ => ∃ (d : Addr) (sp : Int) (n : Nat), vs = [.ref d, .int sp] ∧ 0 < sp ∧ sp < 4000000000 ∧ DrawAt H d (n + 1) ∧
  ∀ (r : Int) (H' : Hp), 0 ≤ r → r < sp → Keep d H H' → DrawAt H' d n → Q (.int r) H'
theorem small15 {n : Nat} (h : n ≤ 15) : n < sizeLine := Nat.lt_of_le_of_lt h (by decide)
def sp__law_is_label : Sp := fun vs H Q _ => ∃ x : Str, vs = [.str x] ∧ smallS x ∧ ∀ H', Same H H' → Q (.bl (labB (tl x))) H'
theorem one_dash2 (c : Nat) : decide (V.str ⟨#[c]⟩ = V.str ("-" : Str)) = decide (c = 45) := by
  rw [show ("-" : Str) = ⟨#[45]⟩ from ext_tl (by decide +kernel), dec_str, Bool.eq_iff_iff, beq_iff_eq, decide_eq_true_eq, str_eq_iff]
  show [c] = [45] ↔ _
  simp
def numS (j : Nat) : Str := toString ((0 : Int) + (j : Int))
def nums : List Str := (List.range 256).map numS
def sp__law_is_numeric : Sp := fun vs H Q _ => ∃ x : Str, vs = [.str x] ∧ ∀ H', Same H H' → Q (.bl (numB (tl x))) H'
def sp__law_is_host : Sp := fun vs H Q _ => ∃ x : Str, vs = [.str x] ∧ smallS x ∧ ∀ H', Same H H' → Q (.bl (hostB (tl x))) H'
def sp__law_label : Sp := fun vs H Q _ => ∃ (d : Addr) (n : Nat), vs = [.ref d] ∧ DrawAt H d (n + 30) ∧
  ∀ (x : Str) (H' : Hp), x.length ≤ 22 → ascii x → Keep d H H' → DrawAt H' d n → Q (.str x) H'
theorem abz_ascii : ascii ("abz019-" : Str) := by unfold ascii; decide +kernel
def sp__law_text : Sp := fun vs H Q _ => ∃ (d : Addr) (n : Nat), vs = [.ref d] ∧ DrawAt H d (n + 400) ∧
  ∀ (x : Str) (H' : Hp), x.length ≤ 300 → ascii x → Keep d H H' → DrawAt H' d n → Q (.str x) H'
/-- what the law tells of a text -/
def Due02 (x : Str) (r : V) : Prop := (hostB (tl x) = true ∧ r = .non) ∨ (hostB (tl x) = false ∧ ∃ k : Nat, r = .int (k : Nat) ∧ PlaceB (tl x) k)
def sp__law_due : Sp := fun vs H Q _ => ∃ x : Str, vs = [.str x] ∧ x.length ≤ 900 ∧ ascii x ∧ ∀ r H', Same H H' → Due02 x r → Q r H'
def tailsQ : List Str := [("" : Str), "a", ".a"]
theorem begins3 (m : List Nat) : beginsB m = !((tailsQ.map fun e => !hostB (m ++ tl e)).all id) := by
  unfold beginsB tailsQ
  simp only [List.map_cons, List.map_nil, List.all_cons, List.all_nil, id, Bool.and_true]
  rw [show tl ("" : Str) = [] by decide +kernel, show tl ("a" : Str) = [97] by decide +kernel, show tl (".a" : Str) = [46, 97] by decide +kernel, List.append_nil]
  cases hostB m <;> cases hostB (m ++ [97]) <;> cases hostB (m ++ [46, 97]) <;> rfl
/-- what is told of a call: the place of a refused host, or nothing -/
def tt__law_place (mg : Str → Option Value) : LT → Hp → VK → Prop := fun tl H Q => tl (fun cls d H' => ∃ (C dx : Addr) (k : Nat), mg "BadHost" = some (.ref C) ∧ cls = .ref C ∧ d = some dx ∧ H' dx = some (.xd [(("place" : Str), .int (k : Nat))]) ∧ Q (.int (k : Nat)) H') H (fun _ H' => Q .non H')
def sp_law (K : PySem.W.Frag) (Tb : Addr) : Sp := fun vs H Q _ => ∃ (a : Addr) (ns : List Int), vs = [.ref a] ∧ SqL K H a (ns.map V.int) ∧ ns.length ≤ 63 ∧ LamX.TabS H Tb qLaw ∧ ∀ H', Q (.bl true) H'
/-- what is told of a value -/
def DueV (v r : V) : Prop := (∃ x : Str, v = .str x ∧ Due02 x r) ∨ ((∀ x : Str, v ≠ .str x) ∧ r = .int 0)
theorem NoHost.due {v : V} {k : Nat} (h : NoHost v k) : DueV v (.int (k : Nat)) := by
  rcases h with ⟨x, rfl, h1, h2⟩ | ⟨h1, rfl⟩
  · exact .inl ⟨x, rfl, .inr ⟨h1, k, rfl, h2⟩⟩
  · exact .inr ⟨h1, rfl⟩
theorem Due02.uniq {x : Str} {r s : V} (a : Due02 x r) (b : Due02 x s) : r = s := by
  rcases a with ⟨a1, rfl⟩ | ⟨a1, k, rfl, a2⟩ <;> rcases b with ⟨b1, rfl⟩ | ⟨b1, j, rfl, b2⟩
  · rfl
  · rw [a1] at b1; cases b1
  · rw [a1] at b1; cases b1
  · rw [a2.uniq b2]
theorem DueV.uniq {v r s : V} (a : DueV v r) (b : DueV v s) : r = s := by
  rcases a with ⟨x, rfl, a1⟩ | ⟨a1, rfl⟩ <;> rcases b with ⟨y, e, b1⟩ | ⟨b1, rfl⟩
  · cases e; exact a1.uniq b1
  · exact absurd rfl (b1 x)
  · exact absurd e (a1 y)
  · rfl
abbrev told02 (mg : Str → Option Value) (Q : VK) : XK := fun cls d H' => ∃ (C dx : Addr) (k : Nat), mg "BadHost" = some (.ref C) ∧ cls = .ref C ∧ d = some dx ∧ H' dx = some (.xd [(("place" : Str), .int (k : Nat))]) ∧ Q (.int (k : Nat)) H'
theorem refuses02 {mg : Str → Option Value} {H : Hp} {Q : VK} {v : V} (h : ∀ r H', Same H H' → DueV v r → (∀ x : Str, v = .str x → hostB (tl x) = false) → Q r H') : Refuses mg H (told02 mg Q) v := by
  intro k C d H' hn hC s hd
  refine ⟨C, d, k, hC, rfl, rfl, upd_same, h _ _ (s.trans (Same.new hd)) hn.due fun x e => ?_⟩
  rcases hn with ⟨y, e2, h1, _⟩ | ⟨h1, _⟩
  · rw [e] at e2; cases e2; exact h1
  · exact absurd e (h1 x)
/-- labels_of -/
theorem tell1 {K : PySem.W.Frag} {mg : Str → Option Value} {H : Hp} {v : V} {Q : VK} (hv : TxtV K H v) (h : ∀ r H', Same H H' → DueV v r → Q r H') : sp_labels_of K mg [v] H (fun _ H' => Q .non H') (told02 mg Q) :=
  ⟨v, rfl, hv, fun x e hb p P H' s _ _ => h _ _ s (.inl ⟨x, e, .inl ⟨hb, rfl⟩⟩), refuses02 fun r H' s d _ => h r H' s d⟩
/-- host_fits -/
theorem tell2 {K : PySem.W.Frag} {mg : Str → Option Value} {H : Hp} {x y : Str} {Q : VK} (hx : x.length ≤ 1000) (hy : y.length ≤ 1000) (h1 : hostB (tl x) = false → ∀ r H', Same H H' → Due02 x r → Q r H') (h2 : hostB (tl x) = true → ∀ r H', Same H H' → Due02 y r → Q r H') :
    sp_host_fits K mg [.str x, .str y] H (fun _ H' => Q .non H') (told02 mg Q) := by
  refine ⟨.str x, .str y, rfl, .inl ⟨x, rfl, hx⟩, .inl ⟨y, rfl, hy⟩, fun a b ea eb ha hb H' s => ?_, refuses02 fun r H' s d n => ?_, fun ⟨a, ea, ha⟩ => refuses02 fun r H' s d n => ?_⟩
  · cases ea; cases eb
    exact h2 ha _ _ s (.inl ⟨hb, rfl⟩)
  · rcases d with ⟨a, ea, d⟩ | ⟨d, _⟩
    · cases ea; exact h1 (n _ rfl) r H' s d
    · exact absurd rfl (d x)
  · cases ea
    rcases d with ⟨b, eb, d⟩ | ⟨d, _⟩
    · cases eb; exact h2 ha r H' s d
    · exact absurd rfl (d y)
def Fits02 (x y : Str) (r : V) : Prop := (hostB (tl x) = false ∧ Due02 x r) ∨ (hostB (tl x) = true ∧ Due02 y r)
theorem tell2' {K : PySem.W.Frag} {mg : Str → Option Value} {H : Hp} {x y : Str} {Q : VK} (hx : x.length ≤ 1000) (hy : y.length ≤ 1000) (h : ∀ r H', Same H H' → Fits02 x y r → Q r H') :
    sp_host_fits K mg [.str x, .str y] H (fun _ H' => Q .non H') (told02 mg Q) := tell2 hx hy (fun a r H' s d => h r H' s (.inl ⟨a, d⟩)) fun a r H' s d => h r H' s (.inr ⟨a, d⟩)
theorem tellL1 {K : PySem.W.Frag} {mg : Str → Option Value} {H : Hp} {v : V} {Q : VK} {tl' : LT} (ht : ∀ E H' Q', sp_labels_of K mg [v] H' Q' E → tl' E H' Q') (hv : TxtV K H v) (h : ∀ r H', Same H H' → DueV v r → Q r H') : tt__law_place mg tl' H Q := ht _ _ _ (tell1 hv h)
theorem tellL2 {K : PySem.W.Frag} {mg : Str → Option Value} {H : Hp} {x y : Str} {Q : VK} {tl' : LT} (ht : ∀ E H' Q', sp_host_fits K mg [.str x, .str y] H' Q' E → tl' E H' Q') (hx : x.length ≤ 1000) (hy : y.length ≤ 1000) (h : ∀ r H', Same H H' → Fits02 x y r → Q r H') : tt__law_place mg tl' H Q := ht _ _ _ (tell2' hx hy h)
def SmD (d : PyData) : Prop := d = .none ∨ ∃ k : Int, d = .int k
theorem due_dp {K : PySem.W.Frag} {x : Str} {r : V} (h : Due02 x r) : ∃ d, SmD d ∧ ∀ H : Hp, Dp K H r d := by
  rcases h with ⟨_, rfl⟩ | ⟨_, k, rfl, _⟩
  · exact ⟨_, .inl rfl, fun _ => .non⟩
  · exact ⟨_, .inr ⟨_, rfl⟩, fun _ => .int _⟩
theorem lay_sm {d : PyData} (h : SmD d) : d.canLay0 = true ∧ d.depth = 0 := by
  rcases h with rfl | ⟨k, rfl⟩ <;> exact ⟨by simp [PyData.canLay0], by simp [PyData.depth]⟩
theorem lay_sm3 {a b c : PyData} (ha : SmD a) (hb : SmD b) (hc : SmD c) : SeqAt.shaped (.list [a, b, c]) = true := by
  obtain ⟨a1, a2⟩ := lay_sm ha
  obtain ⟨b1, b2⟩ := lay_sm hb
  obtain ⟨c1, c2⟩ := lay_sm hc
  simp [SeqAt.shaped, PyData.canLay0, PyData.canLayAll0, PyData.depth, PyData.depthAll, a1, a2, b1, b2, c1, c2]
theorem dash_no : hostB (tl ("-" : Str)) = false ∧ PlaceB (tl ("-" : Str)) 1 := ⟨by decide +kernel, .inr ⟨by decide, by decide +kernel, by decide +kernel, fun j hj => absurd hj (by omega)⟩⟩
theorem bc_yes : hostB (tl ("b.c" : Str)) = true := by decide +kernel
theorem fit_self02 (l : List Nat) : fitB l l = true := by unfold fitB; rw [decide_eq_true rfl, Bool.true_or]
theorem tl_xdot : tl ("x." : Str) = [120, 46] := by decide +kernel
theorem fit_more {l : List Nat} (h : hostB ([120, 46] ++ l) = true) : fitB ([120, 46] ++ l) l = true := by
  have e1 : sp1 46 ([120, 46] ++ l) = [120] :: sp1 46 l := by
    show sp1 46 ([120] ++ 46 :: l) = _
    rw [sp1_app, sp1_of_free (show (46 : Nat) ∉ [120] by decide)]
    rfl
  have hne := sp1_ne 46 l
  have el : lastL (sp1 46 ([120, 46] ++ l)) = lastL (sp1 46 l) := by
    rw [e1, show [120] :: sp1 46 l = ([[120]] ++ (sp1 46 l).dropLast) ++ [(sp1 46 l).getLast hne] by rw [List.append_assoc, List.dropLast_concat_getLast hne]; rfl, lastL_snoc]
    conv => rhs; rw [← List.dropLast_concat_getLast hne, lastL_snoc]
  have na : addrB ([120, 46] ++ l) = false := by
    have h2 := h
    unfold addrB
    rw [h, Bool.true_and]
    cases hd : digB (lastL (sp1 46 ([120, 46] ++ l))) with
    | false => rfl
    | true =>
      unfold hostB hostL at h2
      rw [hd, e1] at h2
      simp only [Bool.and_eq_true, Bool.not_true, Bool.false_or, List.all_cons] at h2
      have : numB [120] = true := h2.2.2.2.1.1
      exact absurd this (by decide +kernel)
  unfold fitB
  rw [na, Bool.not_false, Bool.true_and, Bool.or_eq_true]
  exact .inr (List.isSuffixOf_iff_suffix.mpr ⟨[120], rfl⟩)
structure OddV (K : PySem.W.Frag) (H : Hp) (v : V) : Prop where
  t : TxtV K H v
  h : TxV hostB K H v false
  a : TxV addrB K H v false
theorem OddV.str {K : PySem.W.Frag} {H : Hp} {x : Str} (h1 : x.length ≤ 1000) (h2 : hostB (tl x) = false) : OddV K H (.str x) :=
  ⟨.inl ⟨x, rfl, h1⟩, .inl ⟨x, rfl, by omega, h2.symm⟩, .inl ⟨x, rfl, by omega, by unfold addrB; rw [h2]; rfl⟩⟩
theorem OddV.ty {K : PySem.W.Frag} {H : Hp} {v : V} {t : Value} (h : TyX K H v t) (hk : PySem.W.kitOne K t (.type "str") = some false) : OddV K H v := ⟨.inr ⟨t, h, hk⟩, .inr ⟨t, h, hk, rfl⟩, .inr ⟨t, h, hk, rfl⟩⟩
theorem OddV.same {K : PySem.W.Frag} {H H' : Hp} {v : V} (o : OddV K H v) (s : Same H H') : OddV K H' v := by
  rcases o.t with ⟨x, rfl, h1⟩ | ⟨t, h, hk⟩
  · rcases o.h with ⟨y, e, _, h2⟩ | ⟨t, h, hk, _⟩
    · cases e; exact .str h1 h2.symm
    · exact absurd rfl (ty_nostr h hk x)
  · exact .ty (ty_same s h) hk
theorem TxtV.ext {K : PySem.W.Frag} {H H' : Hp} {v : V} (o : TxtV K H v) (e : LamX.ExtN H H') : TxtV K H' v := by
  rcases o with ⟨x, rfl, h1⟩ | ⟨t, h, hk⟩
  · exact .inl ⟨x, rfl, h1⟩
  · exact .inr ⟨t, ty_ext e h, hk⟩
theorem host_refuses {mg : Str → Option Value} {H : Hp} {x : Str} {E : XK} (h : hostB (tl x) = true) : Refuses mg H E (.str x) := by
  intro k C d H' hn _ _ _
  rcases hn with ⟨y, e, h1, _⟩ | ⟨h1, _⟩
  · cases e; rw [h] at h1; cases h1
  · exact absurd rfl (h1 x)
section
variable {P : Program} {w : World} {K : PySem.W.Frag} {mg : Str → Option Value} {base : Heap}
theorem ok_has_only (T : Txt K mg) : Cal P w K mg base CX0 1 "has_only" ["text", "signs"] sp_has_only := by
  refine T.d_has_only.ok0 sc_has_only (fun vs H Q E h => ?_) (fun f cdv A outer s H vs Q E hr h => ?_)
  · first | (obtain ⟨_, rfl, _⟩ := h; rfl) | (obtain ⟨_, _, rfl, _⟩ := h; rfl) | (obtain ⟨_, _, _, rfl, _⟩ := h; rfl) | (obtain ⟨_, _, _, _, rfl, _⟩ := h; rfl) | (obtain ⟨_, _, _, _, _, rfl, _⟩ := h; rfl)
  · refine ⟨_, (pss_one (ps_ret (pe_and (pe_cmpR (op_ne) (pv 0) pe_str (nomark _)) (pe_one (pe_cmpR (op_eq) (pe_m1 PySem.F.slot_str_strip PySem.F.type_str_strip mt_stripChars (pv 0) (pv 1)) pe_str (nomark _)))))), ?_⟩
    obtain ⟨x, g, rfl, hx, hQ⟩ := h
    rw [← strip_only] at hQ
    refine ⟨_, rfl, rfl, _, rfl, ?_⟩
    cases hz : (!decide (V.str x = V.str ("" : Str))) with
    | false => rw [hz, Bool.false_and] at hQ; exact iteF hQ
    | true =>
      rw [hz, Bool.true_and] at hQ
      exact iteT ⟨_, rfl, ⟨_, rfl⟩, _, rfl, _, _, rfl, rfl, Nat.le_trans hx (by decide), rfl, hQ⟩
theorem ok_is_digits (T : Txt K mg) : Cal P w K mg base CX0 2 "is_digits" ["text"] sp_is_digits := by
  refine T.d_is_digits.ok0 sc_is_digits (fun vs H Q E h => ?_) (fun f cdv A outer s H vs Q E hr h => ?_)
  · first | (obtain ⟨_, rfl, _⟩ := h; rfl) | (obtain ⟨_, _, rfl, _⟩ := h; rfl) | (obtain ⟨_, _, _, rfl, _⟩ := h; rfl) | (obtain ⟨_, _, _, _, rfl, _⟩ := h; rfl) | (obtain ⟨_, _, _, _, _, rfl, _⟩ := h; rfl)
  · refine ⟨_, (pss_one (ps_ret (pe_c (ok_has_only T) hr (by decide) (by rfl) pass0 (pa_cons (pv 0) (pa_cons (pe_gc (by rfl) T.c_DIGITS) pa_nil))))), ?_⟩
    obtain ⟨x, rfl, hx, hQ⟩ := h
    exact ⟨_, rfl, x, _, rfl, hx, by rw [tl_digs]; exact hQ⟩
theorem ok__is_label (T : Txt K mg) : Cal P w K mg base CX0 2 "_is_label" ["text"] sp__is_label := by
  refine T.d__is_label.ok0 sc__is_label (fun vs H Q E h => ?_) (fun f cdv A outer s H vs Q E hr h => ?_)
  · first | (obtain ⟨_, rfl, _⟩ := h; rfl) | (obtain ⟨_, _, rfl, _⟩ := h; rfl) | (obtain ⟨_, _, _, rfl, _⟩ := h; rfl) | (obtain ⟨_, _, _, _, rfl, _⟩ := h; rfl) | (obtain ⟨_, _, _, _, _, rfl, _⟩ := h; rfl)
  · refine ⟨_, (pss_cons (ps_if (PW.pt (pw_or (pt_cmpR (op_gt) (pe_callB call_len_str (by rfl) T.b_len (by decide +kernel) (pa_cons (pv 0) pa_nil)) (pe_gc (by rfl) T.c_MOST_OF_LABEL) (nomark _)) (pw_or1 (pt_not (pt_val (pe_c (ok_has_only T) hr (by decide) (by rfl) pass0 (pa_cons (pv 0) (pa_cons (pe_gc (by rfl) T.c_LABEL_SIGNS) pa_nil))))))))
      (pss_one (ps_ret pe_bl))
      pss_nil)
      (pss_one (ps_ret (pe_and (pe_cmpR (op_ne) (pe_ix ix_str (pv 0) pe_int (fun _ _ => rfl)) pe_str (nomark _)) (pe_one (pe_cmpR (op_ne) (pe_ix ix_str (pv 0) (pe_un un_neg pe_int) (fun _ _ => rfl)) pe_str (nomark _))))))), ?_⟩
    obtain ⟨x, rfl, hx, hQ⟩ := h
    refine ⟨_, rfl, x, rfl, Nat.le_trans hx (by decide), _, _, rfl, rfl, _, rfl, iteB (fun h1 => ?_) (fun h1 => ?_)⟩
    · have h1 : (20 : Int) < (x.length : Int) := of_decide_eq_true h1
      have e : labB (tl x) = false := by
        unfold labB
        rw [decide_eq_false (by rw [len_tl] at h1; omega), Bool.false_and]
      rw [e] at hQ
      exact hQ
    have h1 : ¬ (20 : Int) < (x.length : Int) := of_decide_eq_false h1
    have hl : (tl x).length ≤ 20 := by rw [len_tl] at h1; omega
    unfold labB at hQ
    rw [decide_eq_true hl, Bool.true_and] at hQ
    refine ⟨_, rfl, x, _, rfl, hx, ?_⟩
    rw [tl_lsig]
    refine ⟨_, rfl, ?_⟩
    cases h2 : onlyB lsig (tl x) with
    | false =>
      rw [h2, Bool.false_and] at hQ
      exact iteT hQ
    | true =>
      rw [h2, Bool.true_and] at hQ
      refine iteF ?_
      have hne : tl x ≠ [] := by
        unfold onlyB at h2
        rw [Bool.and_eq_true, decide_eq_true_eq] at h2
        exact h2.2
      obtain ⟨r, d, er⟩ := snoc_of_ne hne
      obtain ⟨a, r2, ea⟩ : ∃ a r2, tl x = a :: r2 := List.exists_cons_of_ne_nil hne
      have h0 : atI x.cps.toList 0 = some a := by show atI (tl x) ((0 : Nat) : Int) = _; rw [ea]; exact atI_nat rfl
      have hz : atI x.cps.toList (-1) = some d := by show atI (tl x) (-1) = _; rw [er]; exact atI_last r d
      have e1 : (tl x).head? = some a := by rw [ea]; rfl
      have e2 : (tl x).getLast? = some d := by rw [er, List.getLast?_concat]
      rw [e1, e2] at hQ
      refine ⟨_, rfl, x, _, a, rfl, rfl, Nat.le_trans hx (by decide), h0, rfl, _, rfl, ?_⟩
      rw [one_dash]
      have e3 : decide (some a ≠ some 45) = !decide (a = 45) := by rw [Bool.eq_iff_iff]; simp
      have e4 : decide (some d ≠ some 45) = !decide (d = 45) := by rw [Bool.eq_iff_iff]; simp
      rw [e3, e4] at hQ
      cases h3 : decide (a = 45) with
      | true =>
        rw [h3] at hQ
        exact iteF hQ
      | false =>
        rw [h3] at hQ
        refine iteT ⟨_, rfl, _, rfl, x, _, d, rfl, rfl, Nat.le_trans hx (by decide), hz, rfl, ?_⟩
        rw [one_dash]
        exact hQ
theorem ok_are_labels (T : Txt K mg) : Cal P w K mg base CX0 3 "are_labels" ["texts"] (sp_are_labels K) := by
  refine T.d_are_labels.ok0 sc_are_labels (fun vs H Q E h => ?_) (fun f cdv A outer s H vs Q E hr h => ?_)
  · first | (obtain ⟨_, rfl, _⟩ := h; rfl) | (obtain ⟨_, _, rfl, _⟩ := h; rfl) | (obtain ⟨_, _, _, rfl, _⟩ := h; rfl) | (obtain ⟨_, _, _, _, rfl, _⟩ := h; rfl) | (obtain ⟨_, _, _, _, _, rfl, _⟩ := h; rfl)
  · refine ⟨_, (pss_cons (ps_for PassesOwn.never rfl (pi_list (pv 0)) (pg_name (i := 1) sc_are_labels.nd rfl (by first | exact Or.inl rfl | exact Or.inr rfl))
      (pss_one (ps_if (pt_not (pt_val (pe_c (ok__is_label T) hr (by decide) (by rfl) pass0 (pa_cons (pv 1) pa_nil))))
      (pss_one (ps_ret pe_bl))
      pss_nil)))
      (pss_one (ps_ret pe_bl))), ?_⟩
    obtain ⟨p, xs, rfl, hp, hx, hQ⟩ := h
    refine ⟨_, rfl, p, rfl, ⟨_, hp⟩, for_list (K := K) (a := p) (xs := xs.map V.str) (fun i σ H1 => ∃ sv, σ = [some (.ref p), sv] ∧ H1 = H ∧ ((xs.take i).map tl).all labB = true) ⟨none, rfl, rfl, by simp⟩ (fun i σ H1 _ ⟨_, _, e, _⟩ => by rw [e]; exact hp) ?_ ?_⟩
    · rintro i v σ H1 hi ⟨sv, rfl, rfl, ha⟩
      obtain ⟨x, hxi, rfl⟩ := strAt hi
      refine ⟨_, rfl, x, rfl, hx x (List.mem_of_getElem? hxi), _, rfl, ?_⟩
      cases hl : labB (tl x) with
      | true => exact iteF ⟨_, rfl, rfl, by rw [allS_at hxi, ha, hl]; rfl⟩
      | false =>
        have e : (xs.map tl).all labB = false := by
          rw [List.all_eq_false]
          exact ⟨tl x, List.mem_map.mpr ⟨x, List.mem_of_getElem? hxi, rfl⟩, by rw [hl]; exact Bool.false_ne_true⟩
        rw [e] at hQ
        exact iteT hQ
    · rintro σ H1 ⟨sv, rfl, rfl, ha⟩
      rw [List.length_map, List.take_length] at ha
      rw [ha] at hQ
      exact hQ
theorem ok__is_number (T : Txt K mg) : Cal P w K mg base CX0 3 "_is_number" ["label"] sp__is_number := by
  refine T.d__is_number.ok0 sc__is_number (fun vs H Q E h => ?_) (fun f cdv A outer s H vs Q E hr h => ?_)
  · first | (obtain ⟨_, rfl, _⟩ := h; rfl) | (obtain ⟨_, _, rfl, _⟩ := h; rfl) | (obtain ⟨_, _, _, rfl, _⟩ := h; rfl) | (obtain ⟨_, _, _, _, rfl, _⟩ := h; rfl) | (obtain ⟨_, _, _, _, _, rfl, _⟩ := h; rfl)
  · refine ⟨_, (pss_cons (ps_if (PW.pt (pw_or (pt_not (pt_val (pe_c (ok_is_digits T) hr (by decide) (by rfl) pass0 (pa_cons (pv 0) pa_nil)))) (pw_or1 (pt_cmpR (op_gt) (pe_callTy call_int_str (by rfl) T.b_int (by decide +kernel) (pa_cons (pv 0) pa_nil)) (pe_gc (by rfl) T.c_MOST_OF_NUMBER) (nomark _)))))
      (pss_one (ps_ret pe_bl))
      pss_nil)
      (pss_one (ps_ret (pe_or (pe_cmpR (op_eq) (pv 0) pe_str (nomark _)) (pe_one (pe_cmpR (op_ne) (pe_ix ix_str (pv 0) pe_int (fun _ _ => rfl)) pe_str (nomark _))))))), ?_⟩
    obtain ⟨x, rfl, hx, hQ⟩ := h
    unfold numB at hQ
    refine ⟨_, rfl, x, rfl, Nat.le_trans hx (by decide), _, rfl, ?_⟩
    cases h1 : digB (tl x) with
    | false =>
      rw [h1, Bool.false_and] at hQ
      exact iteT hQ
    | true =>
      rw [h1, Bool.true_and] at hQ
      refine iteF ⟨_, rfl, x, _, rfl, int_dig h1 hx, hx, _, _, rfl, rfl, _, rfl, ?_⟩
      refine iteB (fun h2 => ?_) (fun h2 => ?_)
      · have h2 : (255 : Int) < ((NumText.digitsVal (tl x) : Nat) : Int) := of_decide_eq_true h2
        rw [decide_eq_false (by omega), Bool.false_and] at hQ
        exact hQ
      · have h2 : ¬ (255 : Int) < ((NumText.digitsVal (tl x) : Nat) : Int) := of_decide_eq_false h2
        rw [decide_eq_true (by omega), Bool.true_and] at hQ
        refine ⟨_, rfl, rfl, _, rfl, ?_⟩
        rw [str_zero]
        cases h3 : decide (tl x = [48]) with
        | true =>
          rw [h3, Bool.true_or] at hQ
          exact iteT hQ
        | false =>
          rw [h3, Bool.false_or] at hQ
          obtain ⟨a, r2, ea⟩ : ∃ a r2, tl x = a :: r2 := List.exists_cons_of_ne_nil (digB_iff.mp h1).2
          have h0 : atI x.cps.toList 0 = some a := by show atI (tl x) ((0 : Nat) : Int) = _; rw [ea]; exact atI_nat rfl
          refine iteF ⟨_, rfl, x, _, a, rfl, rfl, Nat.le_trans hx (by decide), h0, rfl, ?_⟩
          rw [one_zero]
          have e3 : decide ((tl x).head? ≠ some 48) = !decide (a = 48) := by rw [ea, Bool.eq_iff_iff]; simp
          rw [e3] at hQ
          exact hQ
theorem ok__are_four_numbers (T : Txt K mg) : Cal P w K mg base CX0 4 "_are_four_numbers" ["labels"] (sp__are_four_numbers K) := by
  refine T.d__are_four_numbers.ok0 sc__are_four_numbers (fun vs H Q E h => ?_) (fun f cdv A outer s H vs Q E hr h => ?_)
  · first | (obtain ⟨_, rfl, _⟩ := h; rfl) | (obtain ⟨_, _, rfl, _⟩ := h; rfl) | (obtain ⟨_, _, _, rfl, _⟩ := h; rfl) | (obtain ⟨_, _, _, _, rfl, _⟩ := h; rfl) | (obtain ⟨_, _, _, _, _, rfl, _⟩ := h; rfl)
  · refine ⟨_, (pss_cons (ps_for PassesOwn.never rfl (pi_list (pv 0)) (pg_name (i := 1) sc__are_four_numbers.nd rfl (by first | exact Or.inl rfl | exact Or.inr rfl))
      (pss_one (ps_if (pt_not (pt_val (pe_c (ok__is_number T) hr (by decide) (by rfl) pass0 (pa_cons (pv 1) pa_nil))))
      (pss_one (ps_ret pe_bl))
      pss_nil)))
      (pss_one (ps_ret (pe_cmpR (op_eq) (pe_callB call_len_seq (by rfl) T.b_len (by decide +kernel) (pa_cons (pv 0) pa_nil)) pe_int (nomark _))))), ?_⟩
    obtain ⟨p, xs, rfl, hp, hx, hQ⟩ := h
    refine ⟨_, rfl, p, rfl, ⟨_, hp⟩, for_list (K := K) (a := p) (xs := xs.map V.str) (fun i σ H1 => ∃ sv, σ = [some (.ref p), sv] ∧ H1 = H ∧ ((xs.take i).map tl).all numB = true) ⟨none, rfl, rfl, by simp⟩ (fun i σ H1 _ ⟨_, _, e, _⟩ => by rw [e]; exact hp) ?_ ?_⟩
    · rintro i v σ H1 hi ⟨sv, rfl, rfl, ha⟩
      obtain ⟨x, hxi, rfl⟩ := strAt hi
      refine ⟨_, rfl, x, rfl, hx x (List.mem_of_getElem? hxi), _, rfl, ?_⟩
      cases hl : numB (tl x) with
      | true => exact iteF ⟨_, rfl, rfl, by rw [allS_at hxi, ha, hl]; rfl⟩
      | false =>
        have e : (xs.map tl).all numB = false := by
          rw [List.all_eq_false]
          exact ⟨tl x, List.mem_map.mpr ⟨x, List.mem_of_getElem? hxi, rfl⟩, by rw [hl]; exact Bool.false_ne_true⟩
        rw [e, Bool.false_and] at hQ
        exact iteT hQ
    · rintro σ H1 ⟨sv, rfl, rfl, ha⟩
      rw [List.length_map, List.take_length] at ha
      rw [ha, Bool.true_and] at hQ
      refine ⟨_, rfl, p, _, rfl, .inl hp, rfl, ?_⟩
      have e : decide (V.int ((xs.map V.str).length : Nat) = V.int 4) = decide (xs.length = 4) := by
        rw [dec_int, Bool.eq_iff_iff, beq_iff_eq, decide_eq_true_eq, List.length_map]; omega
      rw [e]
      exact hQ
theorem ok_is_host (T : Txt K mg) : Cal P w K mg base CX0 5 "is_host" ["value"] (sp_is_host K) := by
  refine T.d_is_host.ok0 sc_is_host (fun vs H Q E h => ?_) (fun f cdv A outer s H vs Q E hr h => ?_)
  · first | (obtain ⟨_, rfl, _⟩ := h; rfl) | (obtain ⟨_, _, rfl, _⟩ := h; rfl) | (obtain ⟨_, _, _, rfl, _⟩ := h; rfl) | (obtain ⟨_, _, _, _, rfl, _⟩ := h; rfl) | (obtain ⟨_, _, _, _, _, rfl, _⟩ := h; rfl)
  · refine ⟨_, (pss_cons (ps_if (PW.pt (pw_or (pt_not (pt_val (pe_callB call_isi (by rfl) T.b_isinstance (by decide +kernel) (pa_cons (pv 0) (pa_cons (pe_bltn (v := .ty "str") (by rfl) T.b_str (by decide +kernel) rfl) pa_nil))))) (pw_or1 (pt_cmpR (op_gt) (pe_callB call_len_str (by rfl) T.b_len (by decide +kernel) (pa_cons (pv 0) pa_nil)) (pe_gc (by rfl) T.c_MOST_OF_HOST) (nomark _)))))
      (pss_one (ps_ret pe_bl))
      pss_nil)
      (pss_cons (ps_set (i := 1) sc_is_host.nd rfl (by first | exact Or.inl rfl | exact Or.inr rfl) (pe_split (pv 0) pe_str))
      (pss_cons (ps_if (PW.pt (pw_or (pt_cmpR (op_gt) (pe_callB call_len_seq (by rfl) T.b_len (by decide +kernel) (pa_cons (pv 1) pa_nil)) (pe_gc (by rfl) T.c_MOST_LABELS) (nomark _)) (pw_or1 (pt_not (pt_val (pe_c (ok_are_labels T) hr (by decide) (by rfl) pass0 (pa_cons (pv 1) pa_nil)))))))
      (pss_one (ps_ret pe_bl))
      pss_nil)
      (pss_one (ps_ret (pe_or (pe_not (pe_c (ok_is_digits T) hr (by decide) (by rfl) pass0 (pa_cons (pe_ix ix_list (pv 1) (pe_un un_neg pe_int) (fun _ _ => rfl)) pa_nil))) (pe_one (pe_c (ok__are_four_numbers T) hr (by decide) (by rfl) pass0 (pa_cons (pv 1) pa_nil))))))))), ?_⟩
    obtain ⟨v, b, rfl, hv, hQ⟩ := h
    rcases hv with ⟨x, rfl, hx, rfl⟩ | ⟨t, ht, hk, rfl⟩
    · refine ⟨_, rfl, _, _, _, _, true, rfl, .ty _, .base (.str x), kit_str K, _, rfl, iteF ?_⟩
      refine ⟨_, rfl, x, rfl, Nat.le_trans hx (by decide), _, _, rfl, rfl, _, rfl, iteB (fun h1 => ?_) (fun h1 => ?_)⟩
      · have h1 : (100 : Int) < (x.length : Int) := of_decide_eq_true h1
        have e : hostB (tl x) = false := by
          unfold hostB
          rw [decide_eq_false (by rw [len_tl] at h1; omega), Bool.false_and]
        rw [e] at hQ
        exact hQ _ (Same.refl _)
      have h1 : ¬ (100 : Int) < (x.length : Int) := of_decide_eq_false h1
      have hl : (tl x).length ≤ 100 := by rw [len_tl] at h1; omega
      have hl2 : x.length ≤ 100 := by rw [len_tl]; exact hl
      unfold hostB at hQ
      rw [decide_eq_true hl, Bool.true_and] at hQ
      refine ⟨_, rfl, ⟨_, rfl⟩, _, _, rfl, rfl, by decide +kernel, Nat.le_trans (by omega : _ ≤ 10000) (by decide), fun p hp => ?_⟩
      have e1 := split_sp1 x (c := 46) (by decide)
      have ml : ∀ p ∈ Txt.split x ⟨#[46]⟩, p.length ≤ x.length := fun p hp => split_mem_len (c := 46) (by decide) hp
      rw [← dot_eq] at e1 ml
      rw [← e1] at hQ
      have hne : Txt.split x ("." : Str) ≠ [] := fun e => by rw [e] at e1; exact sp1_ne _ _ e1.symm
      generalize Txt.split x ("." : Str) = P at *
      obtain ⟨P0, z, eP⟩ : ∃ P0 z, P = P0 ++ [z] := ⟨P.dropLast, P.getLast hne, (List.dropLast_concat_getLast hne).symm⟩
      have s1 := Same.new (o := HO.lst (P.map V.str)) hp
      have m1 : (upd H p (.lst (P.map V.str))) p = some (.lst (P.map V.str)) := upd_same
      generalize upd H p (.lst (P.map V.str)) = H1 at s1 m1 ⊢
      unfold hostL at hQ
      refine ⟨_, rfl, p, _, rfl, .inl (SqL.of m1), _, _, rfl, rfl, _, rfl, iteB (fun h2 => ?_) (fun h2 => ?_)⟩
      · have h2 : (10 : Int) < ((P.map V.str).length : Int) := of_decide_eq_true h2
        rw [List.length_map] at h2
        rw [decide_eq_false (by rw [List.length_map]; omega), Bool.false_and] at hQ
        exact hQ _ s1
      have h2 : ¬ (10 : Int) < ((P.map V.str).length : Int) := of_decide_eq_false h2
      rw [List.length_map] at h2
      rw [decide_eq_true (by rw [List.length_map]; omega), Bool.true_and] at hQ
      refine ⟨_, rfl, p, P, rfl, SqL.of m1, fun y hy => Nat.le_trans (ml y hy) (by omega), _, rfl, ?_⟩
      cases h3 : (P.map tl).all labB with
      | false =>
        rw [h3, Bool.false_and] at hQ
        exact iteT (hQ _ s1)
      | true =>
        rw [h3, Bool.true_and, lastL_map eP] at hQ
        refine iteF ?_
        have ha : atI (P.map V.str) (-1) = some (.str z) := by rw [eP, List.map_append]; exact atI_last _ _
        refine ⟨_, rfl, _, rfl, p, _, _, _, rfl, rfl, SqL.of m1, ha, z, rfl, Nat.le_trans (ml z (by rw [eP]; simp)) (by omega), _, rfl, _, rfl, ?_⟩
        cases h4 : digB (tl z) with
        | false =>
          rw [h4] at hQ
          exact iteT (hQ _ s1)
        | true =>
          rw [h4] at hQ
          refine iteF ⟨_, rfl, p, P, rfl, SqL.of m1, fun y hy => Nat.le_trans (ml y hy) (by omega), ?_⟩
          rw [List.length_map] at hQ
          exact hQ _ s1
    · refine ⟨_, rfl, _, _, _, _, false, rfl, .ty _, ht, hk, _, rfl, iteT ?_⟩
      exact hQ _ (Same.refl _)
theorem ok_is_address_host (T : Txt K mg) : Cal P w K mg base CX0 6 "is_address_host" ["value"] (sp_is_address_host K) := by
  refine T.d_is_address_host.ok0 sc_is_address_host (fun vs H Q E h => ?_) (fun f cdv A outer s H vs Q E hr h => ?_)
  · first | (obtain ⟨_, rfl, _⟩ := h; rfl) | (obtain ⟨_, _, rfl, _⟩ := h; rfl) | (obtain ⟨_, _, _, rfl, _⟩ := h; rfl) | (obtain ⟨_, _, _, _, rfl, _⟩ := h; rfl) | (obtain ⟨_, _, _, _, _, rfl, _⟩ := h; rfl)
  · refine ⟨_, (pss_one (ps_ret (pe_and (pe_c (ok_is_host T) hr (by decide) (by rfl) pass0 (pa_cons (pv 0) pa_nil)) (pe_one (pe_c (ok_is_digits T) hr (by decide) (by rfl) pass0 (pa_cons (pe_ix ix_list (pe_split (pv 0) pe_str) (pe_un un_neg pe_int) (fun _ _ => rfl)) pa_nil)))))), ?_⟩
    obtain ⟨v, b, rfl, hv, hQ⟩ := h
    rcases hv with ⟨x, rfl, hx, rfl⟩ | ⟨t, ht, hk, rfl⟩
    · refine ⟨_, rfl, .str x, _, rfl, .inl ⟨x, rfl, hx, rfl⟩, fun H1 s1 => ⟨_, rfl, ?_⟩⟩
      unfold addrB at hQ
      cases h1 : hostB (tl x) with
      | false =>
        rw [h1, Bool.false_and] at hQ
        exact iteF (hQ _ s1)
      | true =>
        rw [h1, Bool.true_and] at hQ
        have hl := hostB_len h1
        refine iteT ⟨_, rfl, ⟨_, rfl⟩, _, _, rfl, rfl, by decide +kernel, Nat.le_trans (by omega : _ ≤ 10000) (by decide), fun p hp => ?_⟩
        have e1 := split_sp1 x (c := 46) (by decide)
        rw [← dot_eq] at e1
        rw [← e1] at hQ
        have hne : Txt.split x ("." : Str) ≠ [] := fun e => by rw [e] at e1; exact sp1_ne _ _ e1.symm
        generalize ePx : Txt.split x ("." : Str) = P at *
        obtain ⟨P0, z, eP⟩ : ∃ P0 z, P = P0 ++ [z] := ⟨P.dropLast, P.getLast hne, (List.dropLast_concat_getLast hne).symm⟩
        rw [eP] at ePx
        have s2 := Same.new (o := HO.lst (P.map V.str)) hp
        rw [lastL_map eP] at hQ
        have hz : z.length ≤ 1000000 := Nat.le_trans (split_mem_len (x := x) (c := 46) (by decide) (by rw [← dot_eq, ePx]; simp)) hx
        have ha : atI (P.map V.str) (-1) = some (.str z) := by rw [eP, List.map_append]; exact atI_last _ _
        exact ⟨_, rfl, p, _, _, _, rfl, rfl, SqL.of upd_same, ha, z, rfl, hz, hQ _ (s1.trans s2)⟩
    · refine ⟨_, rfl, v, false, rfl, .inr ⟨t, ht, hk, rfl⟩, fun H1 s1 => ⟨_, rfl, iteF ?_⟩⟩
      exact hQ _ s1
theorem ok__begins_host (T : Txt K mg) : Cal P w K mg base CX0 6 "_begins_host" ["text"] sp__begins_host := by
  refine T.d__begins_host.ok0 sc__begins_host (fun vs H Q E h => ?_) (fun f cdv A outer s H vs Q E hr h => ?_)
  · first | (obtain ⟨_, rfl, _⟩ := h; rfl) | (obtain ⟨_, _, rfl, _⟩ := h; rfl) | (obtain ⟨_, _, _, rfl, _⟩ := h; rfl) | (obtain ⟨_, _, _, _, rfl, _⟩ := h; rfl) | (obtain ⟨_, _, _, _, _, rfl, _⟩ := h; rfl)
  · obtain ⟨a_ENDS, hm_ENDS, sq_ENDS⟩ := T.c_ENDS
    refine ⟨_, (pss_cons (ps_for PassesOwn.never rfl (pi_tup (pe_gt (by rfl) hm_ENDS)) (pg_name (i := 1) sc__begins_host.nd rfl (by first | exact Or.inl rfl | exact Or.inr rfl))
      (pss_one (ps_if (pt_val (pe_c (ok_is_host T) hr (by decide) (by rfl) pass0 (pa_cons (pe_op op_add_str (pv 0) (pv 1)) pa_nil)))
      (pss_one (ps_ret pe_bl))
      pss_nil)))
      (pss_one (ps_ret pe_bl))), ?_⟩
    obtain ⟨x, rfl, hx, hQ⟩ := h
    have hE : ∀ e ∈ tails3, e.length ≤ 2 := by decide +kernel
    have eB : beginsB (tl x) = (tails3.map fun e => hostB (tl x ++ tl e)).any id := by
      unfold beginsB tails3
      simp only [List.map_cons, List.map_nil, List.any_cons, List.any_nil, id, Bool.or_false]
      rw [show tl ("" : Str) = [] by decide +kernel, show tl ("a" : Str) = [97] by decide +kernel, show tl (".a" : Str) = [46, 97] by decide +kernel, List.append_nil]
    have sq : ∀ H1 : Hp, SqT K H1 a_ENDS (tails3.map V.str) := sq_ENDS
    refine ⟨_, rfl, ⟨_, sq H⟩, for_tup (K := K) (a := a_ENDS) (xs := tails3.map V.str) (fun i σ H1 => ∃ sv, σ = [some (.str x), sv] ∧ Same H H1 ∧ ((tails3.take i).map fun e => hostB (tl x ++ tl e)).any id = false) ⟨none, rfl, Same.refl _, rfl⟩ (fun i σ H1 _ _ => sq H1) ?_ ?_⟩
    · rintro i v σ H1 hi ⟨sv, rfl, s1, hno⟩
      obtain ⟨e, he, rfl⟩ := strAt hi
      have hem := hE e (List.mem_of_getElem? he)
      refine ⟨_, rfl, _, rfl, _, _, rfl, rfl, Nat.le_trans (by omega : _ ≤ 2000) (by decide), .str (x ++ e), _, rfl, .inl ⟨_, rfl, by rw [Str.length_append]; omega, rfl⟩, fun H2 s2 => ⟨_, rfl, ?_⟩⟩
      rw [tl_append]
      cases hb : hostB (tl x ++ tl e) with
      | true =>
        refine iteT ?_
        have q := hQ _ (s1.trans s2)
        rw [eB, show (tails3.map fun e => hostB (tl x ++ tl e)).any id = true from List.any_eq_true.mpr ⟨true, List.mem_map.mpr ⟨e, List.mem_of_getElem? he, hb⟩, rfl⟩] at q
        exact q
      | false =>
        refine iteF ⟨_, rfl, s1.trans s2, ?_⟩
        rw [List.take_succ, he]
        show ((tails3.take i ++ [e]).map fun e => hostB (tl x ++ tl e)).any id = false
        rw [List.map_append, List.any_append, hno]
        simp [hb]
    · rintro σ H1 ⟨sv, rfl, s1, hno⟩
      rw [List.length_map, List.take_length] at hno
      have q := hQ _ s1
      rw [eB, hno] at q
      exact q
theorem ok__place (T : Txt K mg) : Cal P w K mg base CX0 7 "_place" ["text"] sp__place := by
  refine T.d__place.ok0 sc__place (fun vs H Q E h => ?_) (fun f cdv A outer s H vs Q E hr h => ?_)
  · first | (obtain ⟨_, rfl, _⟩ := h; rfl) | (obtain ⟨_, _, rfl, _⟩ := h; rfl) | (obtain ⟨_, _, _, rfl, _⟩ := h; rfl) | (obtain ⟨_, _, _, _, rfl, _⟩ := h; rfl) | (obtain ⟨_, _, _, _, _, rfl, _⟩ := h; rfl)
  · refine ⟨_, (pss_cons (ps_for PassesOwn.never rfl (pi_range2 (by rfl) T.b_range (pa_cons pe_int (pa_cons (pe_op op_add (pe_callB call_len_str (by rfl) T.b_len (by decide +kernel) (pa_cons (pv 0) pa_nil)) pe_int) pa_nil))) (pg_name (i := 1) sc__place.nd rfl (by first | exact Or.inl rfl | exact Or.inr rfl))
      (pss_one (ps_if (pt_not (pt_val (pe_c (ok__begins_host T) hr (by decide) (by rfl) pass0 (pa_cons (pe_slice sl_str (pv 0) po_none (po_some (pv 1))) pa_nil))))
      (pss_one (ps_ret (pv 1)))
      pss_nil)))
      (pss_one (ps_ret (pe_op op_add (pe_callB call_len_str (by rfl) T.b_len (by decide +kernel) (pa_cons (pv 0) pa_nil)) pe_int)))), ?_⟩
    obtain ⟨x, rfl, hx, hQ⟩ := h
    have sz : x.length ≤ sizeLine := Nat.le_trans (by omega : _ ≤ 1000) (by decide)
    refine ⟨_, rfl, x, rfl, sz, _, _, rfl, rfl, 1, _, rfl, ⟨by decide, by decide, by omega, by omega⟩, ?_⟩
    rw [show ((x.length : Int) + 1 - 1).toNat = x.length by omega]
    refine for_range (n := x.length) (fun i σ H1 => ∃ v1, σ = [some (.str x), v1] ∧ Same H H1 ∧ ∀ j, j < i → beginsB ((tl x).take (j + 1)) = true) ⟨none, rfl, Same.refl _, fun j hj => absurd hj (Nat.not_lt_zero j)⟩ ?_ ?_
    · rintro i σ H1 hi ⟨v1, rfl, s1, hg⟩
      refine ⟨_, rfl, _, rfl, _, rfl, x, rfl, sz, _, rfl, Nat.le_trans cut_len hx, fun H2 s2 => ⟨_, rfl, ?_⟩⟩
      rw [cutS_to x (by omega), show (1 + (i : Int)).toNat = i + 1 by omega]
      cases hb : beginsB ((tl x).take (i + 1)) with
      | true =>
        refine iteF ⟨_, rfl, s1.trans s2, fun j hj => ?_⟩
        rcases Nat.lt_succ_iff_lt_or_eq.mp hj with q | q
        · exact hg j q
        · rw [q]; exact hb
      | false =>
        refine iteT ⟨_, rfl, ?_⟩
        have := hQ (i + 1) _ (.inr ⟨by omega, by rw [← len_tl]; omega, hb, fun j hj => hg j (by omega)⟩) (s1.trans s2)
        rw [show ((i + 1 : Nat) : Int) = 1 + (i : Int) by omega] at this
        exact this
    · rintro σ H1 ⟨v1, rfl, s1, hg⟩
      refine ⟨_, rfl, x, rfl, sz, _, _, rfl, rfl, ?_⟩
      have := hQ (x.length + 1) _ (.inl ⟨by rw [← len_tl], fun j hj => hg j (by rw [len_tl]; exact hj)⟩) s1
      exact this
theorem ok_need_host (T : Txt K mg) : Cal P w K mg base (L2.CX P w) 8 "need_host" ["host"] (sp_need_host K mg) := by
  refine T.d_need_host.okX sc_need_host (fun vs H Q E h => ?_) (fun f cdv A outer s H vs Q E hr h => ?_)
  · first | (obtain ⟨_, rfl, _⟩ := h; rfl) | (obtain ⟨_, _, rfl, _⟩ := h; rfl) | (obtain ⟨_, _, _, rfl, _⟩ := h; rfl) | (obtain ⟨_, _, _, _, rfl, _⟩ := h; rfl) | (obtain ⟨_, _, _, _, _, rfl, _⟩ := h; rfl)
  · obtain ⟨C_BadHost, e_BadHost⟩ := T.e_BadHost
    refine ⟨_, (pss_cons (ps_if (pt_not (pt_val (pe_callB call_isi (by rfl) T.b_isinstance (by decide +kernel) (pa_cons (pv 0) (pa_cons (pe_bltn (v := .ty "str") (by rfl) T.b_str (by decide +kernel) rfl) pa_nil)))))
      (pss_one (ps_raiseE rfl e_BadHost hr (by decide) pass0 (takes_of rfl rfl rfl rfl) (pa_cons pe_int pa_nil) (by rfl)))
      pss_nil)
      (pss_one (ps_if (pt_not (pt_val (pe_c (ok_is_host T) hr (by decide) (by rfl) pass0 (pa_cons (pv 0) pa_nil))))
      (pss_one (ps_raiseE rfl e_BadHost hr (by decide) pass0 (takes_of rfl rfl rfl rfl) (pa_cons (pe_c (ok__place T) hr (by decide) (by rfl) pass0 (pa_cons (pv 0) pa_nil)) pa_nil) (by rfl)))
      pss_nil))), ?_⟩
    obtain ⟨v, rfl, h, q1, q2⟩ := h
    rcases h with ⟨x, rfl, hx⟩ | ⟨t, ht, hk⟩
    · refine ⟨_, rfl, _, _, _, _, true, rfl, .ty _, .base (.str x), kit_str K, _, rfl, iteF ?_⟩
      refine ⟨_, rfl, .str x, _, rfl, .inl ⟨x, rfl, by omega, rfl⟩, fun H1 s1 => ⟨_, rfl, ?_⟩⟩
      cases hb : hostB (tl x) with
      | true => exact iteF (q1 x rfl hb _ s1)
      | false => exact iteT ⟨_, rfl, x, rfl, hx, fun k H2 hk s2 => ⟨_, rfl, fun d hd => q2 k C_BadHost d _ (.inl ⟨x, rfl, hb, hk⟩) e_BadHost.g (s1.trans s2) hd⟩⟩
    · exact ⟨_, rfl, _, _, _, _, false, rfl, .ty _, ht, hk, _, rfl, iteT ⟨_, rfl, fun d hd => q2 0 C_BadHost d _ (.inr ⟨ty_nostr ht hk, rfl⟩) e_BadHost.g (Same.refl _) hd⟩⟩
theorem ok_labels_of (T : Txt K mg) : Cal P w K mg base (L2.CX P w) 9 "labels_of" ["host"] (sp_labels_of K mg) := by
  refine T.d_labels_of.okX sc_labels_of (fun vs H Q E h => ?_) (fun f cdv A outer s H vs Q E hr h => ?_)
  · first | (obtain ⟨_, rfl, _⟩ := h; rfl) | (obtain ⟨_, _, rfl, _⟩ := h; rfl) | (obtain ⟨_, _, _, rfl, _⟩ := h; rfl) | (obtain ⟨_, _, _, _, rfl, _⟩ := h; rfl) | (obtain ⟨_, _, _, _, _, rfl, _⟩ := h; rfl)
  · refine ⟨_, (pss_cons (ps_expr (pe_cX (ok_need_host T) hr (by decide) (by rfl) (takes_of rfl rfl rfl rfl) (pa_cons (pv 0) pa_nil)))
      (pss_one (ps_ret (pe_callTy call_tuple_of (by rfl) T.b_tuple (by decide +kernel) (pa_cons (pe_split (pv 0) pe_str) pa_nil))))), ?_⟩
    obtain ⟨v, rfl, hv, q1, q2⟩ := h
    refine ⟨_, rfl, v, rfl, hv, fun x ex hb H1 s1 => ?_, fun k C d H' hn hC s1 hd => q2 k C d H' hn hC s1 hd⟩
    subst ex
    have hl := hostB_len hb
    refine ⟨_, rfl, ⟨_, rfl⟩, _, _, rfl, rfl, by decide +kernel, Nat.le_trans (by omega : _ ≤ 10000) (by decide), fun p hp => ?_⟩
    have e1 := split_sp1 x (c := 46) (by decide)
    rw [← dot_eq] at e1
    have s2 := Same.new (o := HO.lst ((Txt.split x ("." : Str)).map V.str)) hp
    refine ⟨p, _, rfl, .inl ⟨SqL.of upd_same, fun l hl => ?_⟩⟩
    exact q1 x rfl hb _ _ _ ((s1.trans s2).trans (Same.new hl)) e1 upd_same
theorem ok_host_fits (T : Txt K mg) : Cal P w K mg base (L2.CX P w) 9 "host_fits" ["host", "domain"] (sp_host_fits K mg) := by
  refine T.d_host_fits.okX sc_host_fits (fun vs H Q E h => ?_) (fun f cdv A outer s H vs Q E hr h => ?_)
  · first | (obtain ⟨_, rfl, _⟩ := h; rfl) | (obtain ⟨_, _, rfl, _⟩ := h; rfl) | (obtain ⟨_, _, _, rfl, _⟩ := h; rfl) | (obtain ⟨_, _, _, _, rfl, _⟩ := h; rfl) | (obtain ⟨_, _, _, _, _, rfl, _⟩ := h; rfl)
  · refine ⟨_, (pss_cons (ps_expr (pe_cX (ok_need_host T) hr (by decide) (by rfl) (takes_of rfl rfl rfl rfl) (pa_cons (pv 0) pa_nil)))
      (pss_cons (ps_expr (pe_cX (ok_need_host T) hr (by decide) (by rfl) (takes_of rfl rfl rfl rfl) (pa_cons (pv 1) pa_nil)))
      (pss_cons (ps_if (pt_cmpR (op_eq) (pv 0) (pv 1) (nomark _))
      (pss_one (ps_ret pe_bl))
      pss_nil)
      (pss_one (ps_ret (pe_and (pe_not (pe_c (ok_is_address_host T) hr (by decide) (by rfl) pass0 (pa_cons (pv 0) pa_nil))) (pe_one (pe_m1 PySem.F.slot_str_endswith PySem.F.type_str_endswith mt_endswith (pv 0) (pe_op op_add_str pe_str (pv 1)))))))))), ?_⟩
    obtain ⟨v, u, rfl, hv, hu', q1, q2, q3⟩ := h
    refine ⟨_, rfl, v, rfl, hv, fun x ex hb H1 s1 => ?_, fun k C d H' hn hC s1 hd => q2 k C d H' hn hC s1 hd⟩
    subst ex
    have hv2 : TxtV K H1 u := by
      rcases hu' with ⟨y, e, hy⟩ | ⟨t, ht, hk⟩
      · exact .inl ⟨y, e, hy⟩
      · exact .inr ⟨t, ty_same s1 ht, hk⟩
    refine ⟨_, rfl, u, rfl, hv2, fun y ey hb2 H2 s2 => ?_, fun k C d H' hn hC s2 hd => q3 ⟨x, rfl, hb⟩ k C d H' hn hC (s1.trans s2) hd⟩
    subst ey
    have hxl := hostB_len hb
    have hyl := hostB_len hb2
    have s12 := s1.trans s2
    have hQ := q1 x y rfl rfl hb hb2
    refine ⟨_, rfl, _, rfl, rfl, _, rfl, iteB (fun h1 => ?_) (fun h1 => ?_)⟩
    · have e : x = y := V.str.inj (of_decide_eq_true h1)
      subst e
      have : fitB (tl x) (tl x) = true := by unfold fitB; rw [decide_eq_true rfl, Bool.true_or]
      rw [this] at hQ
      exact hQ _ s12
    have hne : tl x ≠ tl y := fun e => of_decide_eq_false h1 (by rw [ext_tl e])
    unfold fitB at hQ
    rw [decide_eq_false hne, Bool.false_or] at hQ
    refine ⟨_, rfl, .str x, _, rfl, .inl ⟨x, rfl, by omega, rfl⟩, fun H3 s3 => ⟨_, rfl, ?_⟩⟩
    refine ⟨_, rfl, ?_⟩
    cases h2 : addrB (tl x) with
    | true =>
      rw [h2] at hQ
      exact iteF (hQ _ (s12.trans s3))
    | false =>
      rw [h2] at hQ
      have hd1 : ("." : Str).length = 1 := by decide +kernel
      have hdl : ("." : Str).length + y.length ≤ 10000 := by omega
      refine iteT ⟨_, rfl, ⟨_, rfl⟩, _, rfl, _, _, rfl, rfl, Nat.le_trans hdl (by decide), _, _, rfl, rfl, ?_⟩
      rw [endswith_tl, tl_append, tl_dot]
      exact hQ _ (s12.trans s3)
theorem ok__law_draw (T : Txt K mg) : Cal P w K mg base CX0 1 "_law_draw" ["cell", "k"] sp__law_draw := by
  refine T.d__law_draw.ok0 sc__law_draw (fun vs H Q E h => ?_) (fun f cdv A outer s H vs Q E hr h => ?_)
  · first | (obtain ⟨_, rfl, _⟩ := h; rfl) | (obtain ⟨_, _, rfl, _⟩ := h; rfl) | (obtain ⟨_, _, _, rfl, _⟩ := h; rfl) | (obtain ⟨_, _, _, _, rfl, _⟩ := h; rfl) | (obtain ⟨_, _, _, _, _, rfl, _⟩ := h; rfl)
  · refine ⟨_, (pss_one (ps_ret (pe_disp (pps_cons pe_str (pe_ifExp (pt_cmpR (op_ge) (pv 0) (pe_op op_pow pe_int pe_int) (nomark _)) (pv 0) pe_int) (pps_cons pe_str (pv 0) (pps_cons pe_str (pe_op op_mul pe_int (pv 1)) pps_nil))) rfl rfl (by simp) (by decide)))), ?_⟩
    obtain ⟨c, k, rfl, hk0, hk1, hQ⟩ := h
    have fin : ∀ l : Int, 0 ≤ l → ∀ p, H p = none → Q (.ref p) (upd (upd H p (.dK [])) p (.dK (mergeK [] (dkv l c (1000 * k))))) := fun l hl p hp =>
      hQ _ _ (fun b o e => by rw [upd_ne (ne_of_none e hp), upd_ne (ne_of_none e hp)]; exact e) hp ⟨l, c, 1000 * k, by rw [upd_same, dkv_merge], hl, by omega, by omega⟩
    intro p hp
    refine ⟨_, rfl, _, _, rfl, rfl, ⟨by decide, by decide, by decide⟩, _, _, rfl, rfl, _, rfl, ?_⟩
    refine iteB (fun hb => ?_) (fun hb => ?_)
    · have hc : (10 : Int) ^ (18 : Int).toNat ≤ c := of_decide_eq_true hb
      have h0 : (0 : Int) ≤ (10 : Int) ^ (18 : Int).toNat := by decide
      refine ⟨_, rfl, _, rfl, _, rfl, _, _, rfl, rfl, .inl ⟨by decide, by decide⟩, upd_same, dkv c c (1000 * k), rfl, by show 3 ≤ 15; decide, fin c (by omega) p hp⟩
    · refine ⟨_, rfl, _, rfl, _, _, rfl, rfl, .inl ⟨by decide, by decide⟩, upd_same, dkv 0 c (1000 * k), rfl, by show 3 ≤ 15; decide, fin 0 (by omega) p hp⟩
theorem ok__law_mixed (T : Txt K mg) : Cal P w K mg base CX0 1 "_law_mixed" ["cell", "k"] sp__law_mixed := by
  refine T.d__law_mixed.ok0 sc__law_mixed (fun vs H Q E h => ?_) (fun f cdv A outer s H vs Q E hr h => ?_)
  · first | (obtain ⟨_, rfl, _⟩ := h; rfl) | (obtain ⟨_, _, rfl, _⟩ := h; rfl) | (obtain ⟨_, _, _, rfl, _⟩ := h; rfl) | (obtain ⟨_, _, _, _, rfl, _⟩ := h; rfl) | (obtain ⟨_, _, _, _, _, rfl, _⟩ := h; rfl)
  · refine ⟨_, (pss_cons (ps_set (i := 2) sc__law_mixed.nd rfl (by first | exact Or.inl rfl | exact Or.inr rfl) (pe_op op_add (pe_op op_add (pe_op op_mod (pe_callTy call_int1 (by rfl) T.b_int (by decide +kernel) (pa_cons (pv 0) pa_nil)) (pe_ix ix_list (pe_lst (pa_cons pe_int (pa_cons pe_int (pa_cons pe_int (pa_cons pe_int pa_nil))))) (pe_op op_mod (pe_callTy call_int1 (by rfl) T.b_int (by decide +kernel) (pa_cons (pv 1) pa_nil)) pe_int) (fun _ _ => rfl))) (pe_op op_mul pe_int (pv 1))) pe_int))
      (pss_one (ps_ret (pe_op op_mod (pe_callTy call_int1 (by rfl) T.b_int (by decide +kernel) (pa_cons (pe_op op_mul (pe_op op_mod (pe_callTy call_int1 (by rfl) T.b_int (by decide +kernel) (pa_cons (pe_op op_mul (pv 2) (pv 2)) pa_nil)) pe_int) pe_int) pa_nil)) pe_int)))), ?_⟩
    obtain ⟨c, k, rfl, hk0, hk1, hQ⟩ := h
    refine ⟨_, rfl, .inl ⟨_, rfl, ?_⟩⟩
    refine ⟨by show 4 ≤ sizeLine; decide, fun p hp => ?_⟩
    refine ⟨_, rfl, .inl ⟨_, rfl, ?_⟩⟩
    refine ⟨_, _, rfl, rfl, by show (0 : Int) < 4; decide, ?_⟩
    obtain ⟨v, hv, ha⟩ := menu (xs := [V.int 1000000007, V.int 998244353, V.int 2147483629, V.int 1000000009]) (i := k % 4) (by omega) (by show k % 4 < 4; omega)
    obtain ⟨m, rfl, hm0, hm1⟩ : ∃ m : Int, v = .int m ∧ 0 < m ∧ m < 2147483647 := by
      simp only [List.mem_cons, List.not_mem_nil, or_false] at hv
      rcases hv with rfl | rfl | rfl | rfl <;> exact ⟨_, rfl, by decide, by decide⟩
    refine ⟨p, _, _, _, rfl, rfl, SqL.of upd_same, ha, ?_⟩
    refine ⟨_, _, rfl, rfl, hm0, ?_⟩
    refine ⟨_, rfl, _, _, rfl, rfl, .inl ⟨by decide, by decide⟩, ?_⟩
    refine ⟨_, _, rfl, rfl, ?_⟩
    refine ⟨_, _, rfl, rfl, ?_⟩
    have h1 : 0 ≤ c % m := Int.emod_nonneg _ (by omega)
    have h2 : c % m < m := Int.emod_lt_of_pos _ hm0
    generalize c % m = q at h1 h2 ⊢
    refine ⟨_, rfl, _, rfl, _, _, rfl, rfl, .inl ⟨by show (-(2 ^ 64) : Int) < q + 7919 * k + 13; omega, by show q + 7919 * k + 13 < (2 ^ 64 : Int); omega⟩, ?_⟩
    refine .inl ⟨_, rfl, ?_⟩
    refine ⟨_, _, rfl, rfl, by show (0 : Int) < 2147483647; decide, ?_⟩
    refine ⟨_, _, rfl, rfl, .inr ⟨by decide, by decide⟩, ?_⟩
    refine .inl ⟨_, rfl, ?_⟩
    refine ⟨_, _, rfl, rfl, by show (0 : Int) < 2147483647; decide, ?_⟩
    exact hQ _ _ (Same.new hp) (Int.emod_nonneg _ (by decide)) (Int.emod_lt_of_pos _ (by decide))
theorem ok__law_digit (T : Txt K mg) : Cal P w K mg base CX0 2 "_law_digit" ["draw", "span"] sp__law_digit := by
  refine T.d__law_digit.ok0 sc__law_digit (fun vs H Q E h => ?_) (fun f cdv A outer s H vs Q E hr h => ?_)
  · first | (obtain ⟨_, rfl, _⟩ := h; rfl) | (obtain ⟨_, _, rfl, _⟩ := h; rfl) | (obtain ⟨_, _, _, rfl, _⟩ := h; rfl) | (obtain ⟨_, _, _, _, rfl, _⟩ := h; rfl) | (obtain ⟨_, _, _, _, _, rfl, _⟩ := h; rfl)
  · have hu := hu_of hr
    refine ⟨_, (Evl.pss_cut (ps_if (pt_cmpR (op_eq) (pe_dget hu (pv 0) pe_str (fun _ _ => rfl)) pe_int (nomark _))
      (pss_one (ps_for PassesOwn.never rfl (pi_range1 (by rfl) T.b_range (pa_cons pe_int pa_nil)) (pg_name (i := 2) sc__law_digit.nd rfl (by first | exact Or.inl rfl | exact Or.inr rfl))
      (pss_cons (ps_dput hu (pv 0) pe_str (pe_op op_add (pe_dget hu (pv 0) pe_str (fun _ _ => rfl)) pe_int) rfl)
      (pss_one (ps_dput hu (pv 0) pe_str (pe_op op_add (pe_op op_mul (pe_dget hu (pv 0) pe_str (fun _ _ => rfl)) pe_int) (pe_c (ok__law_mixed T) hr (by decide) (by rfl) pass0 (pa_cons (pe_dget hu (pv 0) pe_str (fun _ _ => rfl)) (pa_cons (pe_dget hu (pv 0) pe_str (fun _ _ => rfl)) pa_nil)))) rfl)))))
      pss_nil)
      (pss_cons (ps_set (i := 3) sc__law_digit.nd rfl (by first | exact Or.inl rfl | exact Or.inr rfl) (pe_op op_mod (pe_callTy call_int1 (by rfl) T.b_int (by decide +kernel) (pa_cons (pe_dget hu (pv 0) pe_str (fun _ _ => rfl)) pa_nil)) (pv 1)))
      (pss_cons (ps_dput hu (pv 0) pe_str (pe_op op_fdivW (pe_callTy call_int1 (by rfl) T.b_int (by decide +kernel) (pa_cons (pe_dget hu (pv 0) pe_str (fun _ _ => rfl)) pa_nil)) (pv 1)) rfl)
      (pss_one (ps_ret (pv 3)))))), ?_⟩
    obtain ⟨d, sp, n, rfl, hs0, hs1, ⟨l, c, t, hd, hl, ht, hn⟩, hQ⟩ := h
    refine ⟨fun σ' H' => ∃ (j : Option V) (l1 t1 : Int), σ' = [some (.ref d), some (.int sp), j, none] ∧ Keep d H H' ∧ H' d = some (.dK (dkv l1 c t1)) ∧ 0 ≤ l1 ∧ 0 ≤ t1 ∧ t1 + 4 * (n : Int) ≤ 1000000000, ?_, ?_⟩
    · refine ⟨_, rfl, d, _, rfl, dget_left hd, rfl, _, rfl, ?_⟩
      refine iteB (fun hb => ?_) (fun hb => ?_)
      · refine ⟨4, rfl, by decide, by decide, for_range (n := 4) (fun i σ H1 => ∃ (j : Option V) (l1 t1 : Int), σ = [some (.ref d), some (.int sp), j, none] ∧ Keep d H H1 ∧ H1 d = some (.dK (dkv l1 c t1)) ∧ 0 ≤ l1 ∧ 0 ≤ t1 ∧ t1 = t + i) ⟨none, l, t, rfl, Keep.refl, hd, hl, ht, by simp⟩ ?_ ?_⟩
        · rintro i σ H1 hi ⟨j, l1, t1, rfl, k1, h1, hl1, ht1, et⟩
          refine ⟨_, rfl, d, _, rfl, dget_turns h1, _, _, rfl, rfl, _, rfl, d, _, rfl, dput_turns _ h1, ?_⟩
          have h2 : (upd H1 d (.dK (dkv l1 c (t1 + 1)))) d = some (.dK (dkv l1 c (t1 + 1))) := upd_same
          refine ⟨_, rfl, d, _, rfl, dget_left h2, _, _, rfl, rfl, .inr ⟨by decide, by decide⟩, _, rfl, d, _, rfl, dget_cell h2, _, rfl, d, _, rfl, dget_turns h2, ?_⟩
          refine ⟨_, _, rfl, by omega, by omega, fun r H3 s3 hr0 hr1 => ?_⟩
          refine ⟨_, _, rfl, rfl, _, rfl, d, _, rfl, dput_left _ (s3 _ _ h2), ?_⟩
          exact ⟨_, _, _, rfl, ((k1.upd).same s3).upd, upd_same, by omega, by omega, by omega⟩
        · rintro σ H1 ⟨j, l1, t1, rfl, k1, h1, hl1, ht1, et⟩
          exact ⟨j, l1, t1, rfl, k1, h1, hl1, ht1, by omega⟩
      · exact ⟨none, l, t, rfl, Keep.refl, hd, hl, ht, by omega⟩
    · rintro σ' H1 ⟨j, l1, t1, rfl, k1, h1, hl1, ht1, ht2⟩
      refine ⟨_, rfl, d, _, rfl, dget_left h1, .inl ⟨_, rfl, _, rfl, _, _, rfl, rfl, hs0, ?_⟩⟩
      refine ⟨_, rfl, d, _, rfl, dget_left h1, .inl ⟨_, rfl, _, rfl, _, _, rfl, rfl, ?_, _, rfl, d, _, rfl, dput_left _ h1, ?_⟩⟩
      · exact wide_div (b := 32) hs0 (by omega) (by decide) (by decide)
      · exact ⟨_, rfl, hQ _ _ (Int.emod_nonneg _ (by omega)) (Int.emod_lt_of_pos _ hs0) k1.upd ⟨_, _, _, upd_same, Int.ediv_nonneg hl1 (by omega), ht1, ht2⟩⟩
theorem ok__law_is_label (T : Txt K mg) : Cal P w K mg base CX0 1 "_law_is_label" ["text"] sp__law_is_label := by
  refine T.d__law_is_label.ok0 sc__law_is_label (fun vs H Q E h => ?_) (fun f cdv A outer s H vs Q E hr h => ?_)
  · first | (obtain ⟨_, rfl, _⟩ := h; rfl) | (obtain ⟨_, _, rfl, _⟩ := h; rfl) | (obtain ⟨_, _, _, rfl, _⟩ := h; rfl) | (obtain ⟨_, _, _, _, rfl, _⟩ := h; rfl) | (obtain ⟨_, _, _, _, _, rfl, _⟩ := h; rfl)
  · refine ⟨_, (pss_cons (ps_if (PW.pt (pw_or (pt_cmpR (op_lt) (pe_callB call_len_str (by rfl) T.b_len (by decide +kernel) (pa_cons (pv 0) pa_nil)) pe_int (nomark _)) (pw_or (pt_cmpR (op_gt) (pe_callB call_len_str (by rfl) T.b_len (by decide +kernel) (pa_cons (pv 0) pa_nil)) pe_int (nomark _)) (pw_or (pt_cmpR (op_eq) (pe_ix ix_str (pv 0) pe_int (fun _ _ => rfl)) pe_str (nomark _)) (pw_or1 (pt_cmpR (op_eq) (pe_ix ix_str (pv 0) (pe_un un_neg pe_int) (fun _ _ => rfl)) pe_str (nomark _)))))))
      (pss_one (ps_ret pe_bl))
      pss_nil)
      (pss_one (ps_ret (pe_cmpR (op_eqD hr.units) (pe_lc (own := [(("sign" : Str), 1)]) rfl sc__law_is_label.nd (pi_str (pv 0)) (blkOk_by (N := ["text", "sign"]) (sc := defScope s__law_is_label) (by decide +kernel)) (fun _ _ _ _ _ => (pg_name (i := 1) sc__law_is_label.nd rfl (by first | exact Or.inl rfl | exact Or.inr rfl))) (fun _ _ _ _ _ => (pts_one (pt_cmpR (op_notIn_sign) (pv 1) pe_str rfl))) (fun _ _ _ _ _ => (pv 1))) (pe_lst pa_nil) (nomark _))))), ?_⟩
    obtain ⟨x, rfl, ⟨hx, ax⟩, hQ⟩ := h
    have sz : x.length ≤ sizeLine := Nat.le_trans (by omega : _ ≤ 1000) (by decide)
    have no : labB (tl x) = false → Q (.bl false) H := fun e => by have := hQ _ (Same.refl _); rw [e] at this; exact this
    refine ⟨_, rfl, x, rfl, sz, _, _, rfl, rfl, _, rfl, iteB (fun h1 => ?_) (fun h1 => ?_)⟩
    · have h1 : (x.length : Int) < 1 := of_decide_eq_true h1
      refine no ?_
      unfold labB onlyB
      have : tl x = [] := List.eq_nil_of_length_eq_zero (by rw [← len_tl]; omega)
      rw [this]; rfl
    have h1 : ¬ (x.length : Int) < 1 := of_decide_eq_false h1
    refine ⟨_, rfl, x, rfl, sz, _, _, rfl, rfl, _, rfl, iteB (fun h2 => ?_) (fun h2 => ?_)⟩
    · have h2 : (20 : Int) < (x.length : Int) := of_decide_eq_true h2
      refine no ?_
      unfold labB
      rw [decide_eq_false (by rw [← len_tl]; omega), Bool.false_and]
    have h2 : ¬ (20 : Int) < (x.length : Int) := of_decide_eq_false h2
    obtain ⟨a, z, hza, hzz, e1, e2⟩ := ends_at (x := x) (by omega)
    unfold labB at hQ
    rw [decide_eq_true (by rw [← len_tl]; omega : (tl x).length ≤ 20), Bool.true_and, e1, e2] at hQ
    refine ⟨_, rfl, x, _, a, rfl, rfl, sz, hza, rfl, _, rfl, ?_⟩
    rw [one_dash2]
    cases h3 : decide (a = 45) with
    | true =>
      have : decide (some a ≠ some 45) = false := by have := of_decide_eq_true h3; simp [this]
      have q := hQ _ (Same.refl _)
      rw [this, Bool.false_and, Bool.and_false] at q
      exact iteT q
    | false =>
      have e3 : decide (some a ≠ some 45) = true := by have := of_decide_eq_false h3; simp [this]
      rw [e3, Bool.true_and] at hQ
      refine iteF ⟨_, rfl, _, rfl, x, _, z, rfl, rfl, sz, hzz, rfl, _, rfl, ?_⟩
      rw [one_dash2]
      cases h4 : decide (z = 45) with
      | true =>
        have : decide (some z ≠ some 45) = false := by have := of_decide_eq_true h4; simp [this]
        have q := hQ _ (Same.refl _)
        rw [this, Bool.and_false] at q
        exact iteT q
      | false =>
        have e4 : decide (some z ≠ some 45) = true := by have := of_decide_eq_false h4; simp [this]
        rw [e4, Bool.and_true] at hQ
        refine iteF ⟨_, rfl, _, rfl, fun L hL => lc_str (z := x) (fun i H1 => ∃ W : List Str, H1 L = some (.lst (W.map V.str)) ∧ W.length ≤ i ∧ (∀ w ∈ W, ascii w) ∧ (W = [] ↔ ((tl x).take i).all (fun c => decide (c ∈ lsig)) = true) ∧ Same H H1) ⟨[], upd_same, Nat.le_refl _, by simp, by simp, Same.new hL⟩ ?_ ?_⟩
        · rintro i c H1 hi ⟨W, hl, hW, hWa, hWe, s1⟩
          refine ⟨rfl, _, rfl, _, _, rfl, rfl, _, rfl, ?_⟩
          rw [tl_lsig2]
          have hin := all_take1 (p := fun c => decide (c ∈ lsig)) hi
          cases hc : decide (c ∈ lsig) with
          | true =>
            rw [hc, Bool.and_true] at hin
            exact iteF ⟨W, hl, by omega, hWa, by rw [hin]; exact hWe, s1⟩
          | false =>
            rw [hc, Bool.and_false] at hin
            refine iteT ⟨_, rfl, _, hl, Nat.lt_of_le_of_lt (by rw [List.length_map]; have := (List.getElem?_eq_some_iff.mp hi).1; rw [← len_tl] at this; omega : _ ≤ 1000) (by decide), W ++ [⟨#[c]⟩], by rw [upd_same, List.map_append]; rfl, by rw [List.length_append, List.length_singleton]; omega, fun w hw => ?_, by rw [hin]; simp, Same.put s1 hL⟩
            rcases List.mem_append.mp hw with q | q
            · exact hWa w q
            · rw [List.mem_singleton.mp q]; exact ascii_mem ax hi
        · rintro H1 ⟨W, hl, hW, hWa, hWe, s1⟩
          refine ⟨by show 0 ≤ sizeLine; decide, fun L2 hL2 => ?_⟩
          have s2 := s1.trans (Same.new (o := HO.lst []) hL2)
          refine ⟨_, _, dp_strs (SqL.of ((Same.new (o := HO.lst []) hL2) _ _ hl)), dp_strs (ys := []) (SqL.of upd_same), lay_strs hWa, lay_strs (W := []) (by simp), ?_⟩
          rw [eqv_nil]
          have q := hQ _ s2
          have e : onlyB lsig (tl x) = decide (W = []) := by
            unfold onlyB
            rw [List.take_length] at hWe
            rw [Bool.eq_iff_iff, Bool.and_eq_true, decide_eq_true_eq, decide_eq_true_eq, hWe]
            refine ⟨fun g => g.1, fun g => ⟨g, fun e => ?_⟩⟩
            rw [len_tl, e] at h1
            simp at h1
          rw [e] at q
          exact q
theorem ok__law_is_numeric (T : Txt K mg) : Cal P w K mg base CX0 1 "_law_is_numeric" ["text"] sp__law_is_numeric := by
  refine T.d__law_is_numeric.ok0 sc__law_is_numeric (fun vs H Q E h => ?_) (fun f cdv A outer s H vs Q E hr h => ?_)
  · first | (obtain ⟨_, rfl, _⟩ := h; rfl) | (obtain ⟨_, _, rfl, _⟩ := h; rfl) | (obtain ⟨_, _, _, rfl, _⟩ := h; rfl) | (obtain ⟨_, _, _, _, rfl, _⟩ := h; rfl) | (obtain ⟨_, _, _, _, _, rfl, _⟩ := h; rfl)
  · refine ⟨_, (pss_one (ps_ret (pe_cmpR (op_in_seq) (pv 0) (pe_lc (own := [(("j" : Str), 1)]) rfl sc__law_is_numeric.nd (pi_range1 (by rfl) T.b_range (pa_cons pe_int pa_nil)) (blkOk_by (N := ["text", "j"]) (sc := defScope s__law_is_numeric) (by decide +kernel)) (fun _ _ _ _ _ => (pg_name (i := 1) sc__law_is_numeric.nd rfl (by first | exact Or.inl rfl | exact Or.inr rfl))) (fun _ _ _ _ _ => pts_nil) (fun _ _ _ _ _ => (pe_callTy call_str_int (by rfl) T.b_str (by decide +kernel) (pa_cons (pv 1) pa_nil)))) (by with_unfolding_all rfl)))), ?_⟩
    obtain ⟨x, rfl, hQ⟩ := h
    refine ⟨_, rfl, 256, rfl, by decide, by decide, fun L hL => ?_⟩
    refine lc_range (n := 256) (fun i H1 => H1 L = some (.lst (((List.range i).map numS).map V.str)) ∧ Same H H1) ⟨upd_same, Same.new hL⟩ ?_ ?_
    · rintro i H1 hi ⟨hl, s1⟩
      refine ⟨rfl, ?_⟩
      refine ⟨_, rfl, _, rfl, ?_, ?_⟩
      · have : ((0 : Int) + (i : Int)).natAbs = i := by omega
        rw [this]
        have h1 := Nat.log2_le_self i
        omega
      refine ⟨_, hl, Nat.lt_of_le_of_lt (by rw [List.length_map, List.length_map, List.length_range]; omega : _ ≤ 1000) (by decide), ?_, Same.put s1 hL⟩
      rw [upd_same, List.range_succ, List.map_append, List.map_append]
      rfl
    · rintro H1 ⟨hl, s1⟩
      refine ⟨L, _, rfl, .inl (SqL.of hl), rfl, flat_strs _, ?_⟩
      rw [in_strs]
      have q := hQ _ s1
      have e : numB (tl x) = decide (x ∈ (List.range 256).map numS) := by
        rw [Bool.eq_iff_iff, numB_iff, decide_eq_true_eq, List.mem_map]
        constructor
        · rintro ⟨j, hj, e⟩
          refine ⟨j, List.mem_range.mpr hj, ext_tl ?_⟩
          unfold numS
          rw [Int.zero_add, tl_num, e]
        · rintro ⟨j, hj, rfl⟩
          refine ⟨j, List.mem_range.mp hj, ?_⟩
          unfold numS
          rw [Int.zero_add, tl_num]
      rw [e] at q
      exact q
theorem ok__law_is_host (T : Txt K mg) : Cal P w K mg base CX0 2 "_law_is_host" ["text"] sp__law_is_host := by
  refine T.d__law_is_host.ok0 sc__law_is_host (fun vs H Q E h => ?_) (fun f cdv A outer s H vs Q E hr h => ?_)
  · first | (obtain ⟨_, rfl, _⟩ := h; rfl) | (obtain ⟨_, _, rfl, _⟩ := h; rfl) | (obtain ⟨_, _, _, rfl, _⟩ := h; rfl) | (obtain ⟨_, _, _, _, rfl, _⟩ := h; rfl) | (obtain ⟨_, _, _, _, _, rfl, _⟩ := h; rfl)
  · refine ⟨_, (pss_cons (ps_set (i := 1) sc__law_is_host.nd rfl (by first | exact Or.inl rfl | exact Or.inr rfl) (pe_split (pv 0) pe_str))
      (pss_cons (ps_if (PW.pt (pw_or (pt_cmpR (op_gt) (pe_callB call_len_str (by rfl) T.b_len (by decide +kernel) (pa_cons (pv 0) pa_nil)) pe_int (nomark _)) (pw_or (pt_cmpR (op_gt) (pe_callB call_len_seq (by rfl) T.b_len (by decide +kernel) (pa_cons (pv 1) pa_nil)) pe_int (nomark _)) (pw_or1 (pt_cmpR (op_neD hr.units) (pe_lc (own := [(("word" : Str), 2)]) rfl sc__law_is_host.nd (pi_list (pv 1)) (blkOk_by (N := ["text", "words", "word", "sign"]) (sc := defScope s__law_is_host) (by decide +kernel)) (fun _ _ _ _ _ => (pg_name (i := 2) sc__law_is_host.nd rfl (by first | exact Or.inl rfl | exact Or.inr rfl))) (fun _ _ _ _ _ => (pts_one (pt_not (pt_val (pe_c (ok__law_is_label T) hr (by decide) (by rfl) pass0 (pa_cons (pv 2) pa_nil)))))) (fun _ _ _ _ _ => (pv 2))) (pe_lst pa_nil) (nomark _))))))
      (pss_one (ps_ret pe_bl))
      pss_nil)
      (pss_cons (ps_if (pt_cmpR (op_neD hr.units) (pe_lc (own := [(("sign" : Str), 3)]) rfl sc__law_is_host.nd (pi_str (pe_ix ix_list (pv 1) (pe_un un_neg pe_int) (fun _ _ => rfl))) (blkOk_by (N := ["text", "words", "word", "sign"]) (sc := defScope s__law_is_host) (by decide +kernel)) (fun _ _ _ _ _ => (pg_name (i := 3) sc__law_is_host.nd rfl (by first | exact Or.inl rfl | exact Or.inr rfl))) (fun _ _ _ _ _ => (pts_one (pt_cmpR (op_notIn_sign) (pv 3) pe_str rfl))) (fun _ _ _ _ _ => (pv 3))) (pe_lst pa_nil) (nomark _))
      (pss_one (ps_ret pe_bl))
      pss_nil)
      (pss_one (ps_ret (pe_and (pe_cmpR (op_eq) (pe_callB call_len_seq (by rfl) T.b_len (by decide +kernel) (pa_cons (pv 1) pa_nil)) pe_int (nomark _)) (pe_one (pe_cmpR (op_eqD hr.units) (pe_lc (own := [(("word" : Str), 2)]) rfl sc__law_is_host.nd (pi_list (pv 1)) (blkOk_by (N := ["text", "words", "word", "sign"]) (sc := defScope s__law_is_host) (by decide +kernel)) (fun _ _ _ _ _ => (pg_name (i := 2) sc__law_is_host.nd rfl (by first | exact Or.inl rfl | exact Or.inr rfl))) (fun _ _ _ _ _ => (pts_one (pt_not (pt_val (pe_c (ok__law_is_numeric T) hr (by decide) (by rfl) pass0 (pa_cons (pv 2) pa_nil)))))) (fun _ _ _ _ _ => (pv 2))) (pe_lst pa_nil) (nomark _))))))))), ?_⟩
    obtain ⟨x, rfl, ⟨hx, ax⟩, hQ⟩ := h
    have sz : x.length ≤ sizeLine := Nat.le_trans (by omega : _ ≤ 1000) (by decide)
    refine ⟨_, rfl, ⟨_, rfl⟩, _, _, rfl, rfl, by decide +kernel, Nat.le_trans (by omega : _ ≤ 100000) (by decide), fun p hp => ?_⟩
    have es := split_sp1 x (c := 46) (by decide)
    have ml : ∀ p ∈ Txt.split x ⟨#[46]⟩, p.length ≤ 1000 := fun p hp => Nat.le_trans (split_mem_len (c := 46) (by decide) hp) hx
    have ma : ∀ p ∈ Txt.split x ⟨#[46]⟩, ascii p := fun p hp s hs => ax s (split_mem (by decide) hp s hs)
    have ll := split_length x (c := 46) (by decide)
    rw [← dot_eq] at es ml ma ll
    generalize hP : Txt.split x ("." : Str) = P at *
    have s1 := Same.new (o := HO.lst (P.map V.str)) hp
    have m1 : (upd H p (.lst (P.map V.str))) p = some (.lst (P.map V.str)) := upd_same
    generalize upd H p (.lst (P.map V.str)) = H1 at s1 m1 ⊢
    unfold hostB hostL at hQ
    rw [← es] at hQ
    rw [← len_tl] at hQ
    refine ⟨_, rfl, x, rfl, sz, _, _, rfl, rfl, _, rfl, iteB (fun h1 => ?_) (fun h1 => ?_)⟩
    · have h1 : (100 : Int) < (x.length : Int) := of_decide_eq_true h1
      rw [decide_eq_false (by omega), Bool.false_and] at hQ
      exact hQ _ s1
    have h1 : ¬ (100 : Int) < (x.length : Int) := of_decide_eq_false h1
    rw [decide_eq_true (by omega), Bool.true_and] at hQ
    refine ⟨_, rfl, p, _, rfl, .inl (SqL.of m1), _, _, rfl, rfl, _, rfl, iteB (fun h2 => ?_) (fun h2 => ?_)⟩
    · have h2 : (10 : Int) < ((P.map V.str).length : Int) := of_decide_eq_true h2
      rw [List.length_map] at h2
      rw [decide_eq_false (by rw [List.length_map]; omega), Bool.false_and] at hQ
      exact hQ _ s1
    have h2 : ¬ (10 : Int) < ((P.map V.str).length : Int) := of_decide_eq_false h2
    rw [List.length_map] at h2
    rw [decide_eq_true (by rw [List.length_map]; omega), Bool.true_and] at hQ
    refine ⟨_, rfl, p, rfl, ⟨_, SqL.of m1⟩, fun L hL => lc_list (K := K) (a := p) (xs := P.map V.str) (fun i H2 => ∃ W : List Str, H2 L = some (.lst (W.map V.str)) ∧ W.length ≤ i ∧ (∀ w ∈ W, ascii w) ∧ (W = [] ↔ ((P.take i).map tl).all labB = true) ∧ Same H1 H2) ⟨[], upd_same, Nat.le_refl _, by simp, by simp, Same.new hL⟩ (fun i H2 _ ⟨_, _, _, _, _, s⟩ => SqL.of (s _ _ m1)) ?_ ?_⟩
    · rintro i v H2 hi ⟨W, hl, hW, hWa, hWe, s2⟩
      obtain ⟨y, hy, rfl⟩ := strAt hi
      have hym := List.mem_of_getElem? hy
      have hin := allS_at (p := labB) hy
      refine ⟨rfl, _, rfl, y, rfl, ⟨ml y hym, ma y hym⟩, fun H3 s3 => ⟨_, rfl, ?_⟩⟩
      cases hc : labB (tl y) with
      | true =>
        rw [hc, Bool.and_true] at hin
        exact iteF ⟨W, s3 _ _ hl, by omega, hWa, by rw [hin]; exact hWe, s2.trans s3⟩
      | false =>
        rw [hc, Bool.and_false] at hin
        refine iteT ⟨_, rfl, _, s3 _ _ hl, Nat.lt_of_le_of_lt (by rw [List.length_map]; have := (List.getElem?_eq_some_iff.mp hy).1; omega : _ ≤ 2000) (by decide), W ++ [y], by rw [upd_same, List.map_append]; rfl, by rw [List.length_append, List.length_singleton]; omega, fun w hw => ?_, by rw [hin]; simp, Same.put (s2.trans s3) hL⟩
        rcases List.mem_append.mp hw with q | q
        · exact hWa w q
        · rw [List.mem_singleton.mp q]; exact ma y hym
    rintro H2 ⟨W, hl, hW, hWa, hWe, s2⟩
    rw [List.length_map, List.take_length] at hWe
    refine ⟨by show 0 ≤ sizeLine; decide, fun L2 hL2 => ?_⟩
    have s3 := (s1.trans s2).trans (Same.new (o := HO.lst []) hL2)
    have m3 := (Same.new (o := HO.lst []) hL2) _ _ (s2 _ _ m1)
    refine ⟨_, _, dp_strs (SqL.of ((Same.new (o := HO.lst []) hL2) _ _ hl)), dp_strs (ys := []) (SqL.of upd_same), lay_strs hWa, lay_strs (W := []) (by simp), _, rfl, ?_⟩
    rw [eqv_nil]
    generalize upd H2 L2 (.lst []) = H3 at s3 m3 ⊢
    cases hW0 : decide (W = []) with
    | false =>
      have e : (P.map tl).all labB = false := by
        rw [Bool.eq_false_iff]
        exact fun q => of_decide_eq_false hW0 (hWe.mpr q)
      rw [e, Bool.false_and] at hQ
      exact iteT (hQ _ s3)
    | true =>
      have e : (P.map tl).all labB = true := hWe.mp (of_decide_eq_true hW0)
      rw [e, Bool.true_and] at hQ
      refine iteF ?_
      have hne : P ≠ [] := fun q => by rw [q] at es; exact sp1_ne _ _ es.symm
      obtain ⟨P0, z, eP⟩ : ∃ P0 z, P = P0 ++ [z] := ⟨P.dropLast, P.getLast hne, (List.dropLast_concat_getLast hne).symm⟩
      have elast : lastL (P.map tl) = tl z := by rw [eP, List.map_append]; exact lastL_snoc _ _
      rw [elast] at hQ
      have hzm : z ∈ P := by rw [eP]; exact List.mem_append_right _ (List.mem_singleton.mpr rfl)
      have hzl : labB (tl z) = true := List.all_eq_true.mp e _ (List.mem_map.mpr ⟨z, hzm, rfl⟩)
      refine ⟨_, rfl, _, rfl, p, _, _, _, rfl, rfl, SqL.of m3, by rw [eP, List.map_append]; exact atI_last _ _, z, rfl, ?_⟩
      intro L4 hL4
      have zx := ml z hzm
      have za := ma z hzm
      refine lc_str (z := z) (fun i H4 => ∃ W : List Str, H4 L4 = some (.lst (W.map V.str)) ∧ W.length ≤ i ∧ (∀ w ∈ W, ascii w) ∧ (W = [] ↔ ((tl z).take i).all (fun c => decide (c ∈ digs)) = true) ∧ Same H3 H4) ⟨[], upd_same, Nat.le_refl _, by simp, by simp, Same.new hL4⟩ ?_ ?_
      · rintro i c H4 hi ⟨W, hl, hW, hWa, hWe, s4⟩
        refine ⟨rfl, _, rfl, _, _, rfl, rfl, _, rfl, ?_⟩
        rw [tl_digs2]
        have hin := all_take1 (p := fun c => decide (c ∈ digs)) hi
        cases hc : decide (c ∈ digs) with
        | true =>
          rw [hc, Bool.and_true] at hin
          exact iteF ⟨W, hl, by omega, hWa, by rw [hin]; exact hWe, s4⟩
        | false =>
          rw [hc, Bool.and_false] at hin
          refine iteT ⟨_, rfl, _, hl, Nat.lt_of_le_of_lt (by rw [List.length_map]; have := (List.getElem?_eq_some_iff.mp hi).1; rw [← len_tl] at this; omega : _ ≤ 2000) (by decide), W ++ [⟨#[c]⟩], by rw [upd_same, List.map_append]; rfl, by rw [List.length_append, List.length_singleton]; omega, fun w hw => ?_, by rw [hin]; simp, Same.put s4 hL4⟩
          rcases List.mem_append.mp hw with q | q
          · exact hWa w q
          · rw [List.mem_singleton.mp q]; exact ascii_mem za hi
      rintro H4 ⟨W4, hl4, _, hWa4, hWe4, s4⟩
      rw [List.take_length] at hWe4
      refine ⟨by show 0 ≤ sizeLine; decide, fun L5 hL5 => ?_⟩
      have s5 := (s3.trans s4).trans (Same.new (o := HO.lst []) hL5)
      have m5 := (Same.new (o := HO.lst []) hL5) _ _ (s4 _ _ m3)
      refine ⟨_, _, dp_strs (SqL.of ((Same.new (o := HO.lst []) hL5) _ _ hl4)), dp_strs (ys := []) (SqL.of upd_same), lay_strs hWa4, lay_strs (W := []) (by simp), _, rfl, ?_⟩
      rw [eqv_nil]
      generalize upd H4 L5 (.lst []) = H5 at s5 m5 ⊢
      have ed : digB (tl z) = decide (W4 = []) := by
        unfold digB onlyB
        rw [Bool.eq_iff_iff, Bool.and_eq_true, decide_eq_true_eq, decide_eq_true_eq, hWe4]
        exact ⟨fun g => g.1, fun g => ⟨g, lab_ne hzl⟩⟩
      rw [ed] at hQ
      cases hW4 : decide (W4 = []) with
      | false =>
        rw [hW4] at hQ
        exact iteT (hQ _ s5)
      | true =>
        rw [hW4, Bool.not_true, Bool.false_or] at hQ
        refine iteF ?_
        refine ⟨_, rfl, p, _, rfl, .inl (SqL.of m5), rfl, _, rfl, iteB (fun h4 => ?_) (fun h4 => ?_)⟩
        · have h4 : P.length = 4 := by
            rw [dec_int, beq_iff_eq, List.length_map] at h4
            omega
          rw [decide_eq_true (by rw [List.length_map]; exact h4 : (P.map tl).length = 4), Bool.and_true] at hQ
          refine ⟨_, rfl, p, rfl, ⟨_, SqL.of m5⟩, fun L6 hL6 => lc_list (K := K) (a := p) (xs := P.map V.str) (fun i H6 => ∃ W : List Str, H6 L6 = some (.lst (W.map V.str)) ∧ W.length ≤ i ∧ (∀ w ∈ W, ascii w) ∧ (W = [] ↔ ((P.take i).map tl).all numB = true) ∧ Same H5 H6) ⟨[], upd_same, Nat.le_refl _, by simp, by simp, Same.new hL6⟩ (fun i H6 _ ⟨_, _, _, _, _, s⟩ => SqL.of (s _ _ m5)) ?_ ?_⟩
          · rintro i v H6 hi ⟨W, hl, hW, hWa, hWe, s6⟩
            obtain ⟨y, hy, rfl⟩ := strAt hi
            have hym := List.mem_of_getElem? hy
            have hin := allS_at (p := numB) hy
            refine ⟨rfl, _, rfl, y, rfl, fun H7 s7 => ⟨_, rfl, ?_⟩⟩
            cases hc : numB (tl y) with
            | true =>
              rw [hc, Bool.and_true] at hin
              exact iteF ⟨W, s7 _ _ hl, by omega, hWa, by rw [hin]; exact hWe, s6.trans s7⟩
            | false =>
              rw [hc, Bool.and_false] at hin
              refine iteT ⟨_, rfl, _, s7 _ _ hl, Nat.lt_of_le_of_lt (by rw [List.length_map]; have := (List.getElem?_eq_some_iff.mp hy).1; omega : _ ≤ 2000) (by decide), W ++ [y], by rw [upd_same, List.map_append]; rfl, by rw [List.length_append, List.length_singleton]; omega, fun w hw => ?_, by rw [hin]; simp, Same.put (s6.trans s7) hL6⟩
              rcases List.mem_append.mp hw with q | q
              · exact hWa w q
              · rw [List.mem_singleton.mp q]; exact ma y hym
          rintro H6 ⟨W6, hl6, _, hWa6, hWe6, s6⟩
          rw [List.length_map, List.take_length] at hWe6
          refine ⟨by show 0 ≤ sizeLine; decide, fun L7 hL7 => ?_⟩
          have s7 := (s5.trans s6).trans (Same.new (o := HO.lst []) hL7)
          refine ⟨_, _, dp_strs (SqL.of ((Same.new (o := HO.lst []) hL7) _ _ hl6)), dp_strs (ys := []) (SqL.of upd_same), lay_strs hWa6, lay_strs (W := []) (by simp), ?_⟩
          rw [eqv_nil]
          have q := hQ _ s7
          rw [show (P.map tl).all numB = decide (W6 = []) by rw [Bool.eq_iff_iff, decide_eq_true_eq, hWe6]] at q
          exact q
        · have h4 : ¬ P.length = 4 := by
            rw [dec_int, beq_eq_false_iff_ne, List.length_map] at h4
            omega
          rw [decide_eq_false (by rw [List.length_map]; exact h4 : ¬ (P.map tl).length = 4), Bool.and_false] at hQ
          exact hQ _ s5
theorem ok__law_label (T : Txt K mg) : Cal P w K mg base CX0 3 "_law_label" ["draw"] sp__law_label := by
  refine T.d__law_label.ok0 sc__law_label (fun vs H Q E h => ?_) (fun f cdv A outer s H vs Q E hr h => ?_)
  · first | (obtain ⟨_, rfl, _⟩ := h; rfl) | (obtain ⟨_, _, rfl, _⟩ := h; rfl) | (obtain ⟨_, _, _, rfl, _⟩ := h; rfl) | (obtain ⟨_, _, _, _, rfl, _⟩ := h; rfl) | (obtain ⟨_, _, _, _, _, rfl, _⟩ := h; rfl)
  · refine ⟨_, (pss_cons (ps_set (i := 1) sc__law_label.nd rfl (by first | exact Or.inl rfl | exact Or.inr rfl) (pe_ix ix_list (pe_lst (pa_cons pe_int (pa_cons pe_int (pa_cons pe_int (pa_cons pe_int (pa_cons pe_int (pa_cons pe_int pa_nil))))))) (pe_c (ok__law_digit T) hr (by decide) (by rfl) pass0 (pa_cons (pv 0) (pa_cons pe_int pa_nil))) (fun _ _ => rfl)))
      (pss_cons (ps_set (i := 2) sc__law_label.nd rfl (by first | exact Or.inl rfl | exact Or.inr rfl) (pe_join pe_str (pe_lc (own := [(("j" : Str), 3)]) rfl sc__law_label.nd (pi_range1 (by rfl) T.b_range (pa_cons (pv 1) pa_nil)) (blkOk_by (N := ["draw", "size", "signs", "j"]) (sc := defScope s__law_label) (by decide +kernel)) (fun _ _ _ _ _ => (pg_name (i := 3) sc__law_label.nd rfl (by first | exact Or.inl rfl | exact Or.inr rfl))) (fun _ _ _ _ _ => pts_nil) (fun _ _ _ _ _ => (pe_ix ix_str pe_str (pe_c (ok__law_digit T) hr (by decide) (by rfl) pass0 (pa_cons (pv 0) (pa_cons pe_int pa_nil))) (fun _ _ => rfl))))))
      (pss_one (ps_ret (pe_ifExp (PW.pt (pw_and (pt_cmpR (op_ne) (pe_ix ix_str (pv 2) pe_int (fun _ _ => rfl)) pe_str (nomark _)) (pw_and1 (pt_cmpR (op_ne) (pe_ix ix_str (pv 2) (pe_un un_neg pe_int) (fun _ _ => rfl)) pe_str (nomark _))))) (pv 2) (pe_op op_add_str (pe_op op_add_str pe_str (pe_slice sl_str (pv 2) (po_some pe_int) (po_some (pe_un un_neg pe_int)))) (pe_op op_mulS pe_str (pe_callTy call_int1 (by rfl) T.b_int (by decide +kernel) (pa_cons (pe_cmpR (op_gt) (pv 1) pe_int (nomark _)) pa_nil))))))))), ?_⟩
    obtain ⟨d, n, rfl, D, hQ⟩ := h
    refine ⟨by show 6 ≤ sizeLine; decide, fun p hp => ?_⟩
    have pd := D.ne hp
    refine ⟨_, rfl, d, 6, n + 29, rfl, by decide, by decide, (D.upd pd.symm).less (by omega), fun r H1 h0 h1 k1 D1 => ?_⟩
    obtain ⟨v, hv, ha⟩ := menu (xs := [V.int 1, V.int 1, V.int 2, V.int 3, V.int 19, V.int 20]) (i := r) h0 (by show r < 6; omega)
    obtain ⟨m, rfl, hm1, hm2⟩ : ∃ m : Nat, v = .int (m : Int) ∧ 1 ≤ m ∧ m ≤ 20 := by
      simp only [List.mem_cons, List.not_mem_nil, or_false] at hv
      rcases hv with rfl | rfl | rfl | rfl | rfl | rfl
      · exact ⟨1, rfl, by decide, by decide⟩
      · exact ⟨1, rfl, by decide, by decide⟩
      · exact ⟨2, rfl, by decide, by decide⟩
      · exact ⟨3, rfl, by decide, by decide⟩
      · exact ⟨19, rfl, by decide, by decide⟩
      · exact ⟨20, rfl, by decide, by decide⟩
    refine ⟨p, _, _, _, rfl, rfl, SqL.of (k1 _ _ upd_same pd), ha, ?_⟩
    have k1' : Keep d H H1 := Same.then (Same.new hp) k1
    refine ⟨⟨_, rfl⟩, _, rfl, _, rfl, by omega, by omega, fun L hL => ?_⟩
    have hdL : L ≠ d := D1.ne hL
    refine lc_range (n := ((m : Nat) : Int).toNat) (fun i H2 => ∃ W : List Str, W.length = i ∧ (∀ w ∈ W, ascii w ∧ (tl w).length ≤ 1) ∧ (∀ w ∈ W, (tl w).length = 1) ∧ H2 L = some (.lst (W.map V.str)) ∧ Keep d H1 H2 ∧ DrawAt H2 d (n + 29 - i)) ⟨[], rfl, by simp, by simp, upd_same, Keep.refl.updN hL, D1.upd hdL.symm⟩ ?_ ?_
    · rintro i H2 hi ⟨W, hW, hw, hw1, hl, kk, D2⟩
      refine ⟨rfl, ?_⟩
      refine ⟨_, rfl, d, 7, n + 29 - i - 1, rfl, by decide, by decide, D2.less (by omega), fun r H3 h0 h1 k3 D3 => ?_⟩
      obtain ⟨c, hc, hca⟩ := sign_at (z := ("abz019-" : Str)) h0 (by rw [show ("abz019-" : Str).length = 7 by decide +kernel]; omega) abz_ascii
      have hl3 : H3 L = some (.lst (W.map V.str)) := k3 L _ hl hdL
      refine ⟨_, _, c, rfl, rfl, by decide +kernel, hc, ?_⟩
      refine ⟨_, hl3, Nat.lt_of_le_of_lt (by rw [List.length_map]; omega : _ ≤ 1000) (by decide), W ++ [⟨#[c]⟩], by rw [List.length_append, hW]; rfl, fun w hw' => ?_, fun w hw' => ?_, by rw [upd_same, List.map_append]; rfl, (kk.trans k3).updN hL, (D3.less (by omega)).upd hdL.symm⟩
      · rcases List.mem_append.mp hw' with q | q
        · exact hw w q
        · rw [List.mem_singleton.mp q]; exact ⟨hca, Nat.le_refl 1⟩
      · rcases List.mem_append.mp hw' with q | q
        · exact hw1 w q
        · rw [List.mem_singleton.mp q]; rfl
    · rintro H2 ⟨W, hW, hw, hw1, hl, kk, D2⟩
      have hWl : W.length = m := by omega
      have e0 : ("" : Str).length = 0 := by decide +kernel
      have hs := words_len (W := W) (B := 1) fun x hx => (hw x hx).2
      refine ⟨_, L, W, rfl, rfl, .inl (SqL.of hl), by rw [e0]; omega, ?_⟩
      have aj : ascii (Txt.join ("" : Str) W) := ascii.join (fun s hs => by rw [show tl ("" : Str) = [] by decide +kernel] at hs; cases hs) fun x hx => (hw x hx).1
      have lj : (Txt.join ("" : Str) W).length = m := by
        rw [len_tl, join_tl, show tl ("" : Str) = [] by decide +kernel, joinE, List.length_flatten, List.map_map]
        have : ∀ W : List Str, (∀ w ∈ W, (tl w).length = 1) → (W.map (List.length ∘ tl)).sum = W.length := by
          intro W
          induction W with
          | nil => intro _; rfl
          | cons a W ih => intro h; rw [List.map_cons, List.sum_cons, ih fun w hw => h w (List.mem_cons_of_mem _ hw), List.length_cons]; have := h a (List.mem_cons_self ..); show (tl a).length + _ = _; omega
        rw [this W hw1, hWl]
      generalize Txt.join ("" : Str) W = x at aj lj ⊢
      have k02 := k1'.trans kk
      have D3 := D2.less (show n ≤ n + 29 - ((m : Nat) : Int).toNat by omega)
      obtain ⟨a, z, hza, hzz, _, _⟩ := ends_at (x := x) (by omega)
      have sz : x.length ≤ sizeLine := Nat.le_trans (by omega : _ ≤ 1000) (by decide)
      have fin : ∀ (c b : Str), tl c = tl (cutS x (some 1) (some (-1))) → (tl b).length ≤ 1 → ascii b → Q (.str ((("q" : Str) ++ cutS x (some 1) (some (-1))) ++ b)) H2 := fun c b _ hb ab =>
        hQ _ _ (by
          rw [Str.length_append, Str.length_append]
          have := cut_len (x := x) (lo := some 1) (hi := some (-1))
          have q1 : ("q" : Str).length = 1 := by decide +kernel
          rw [← len_tl] at hb
          omega) ((ascii.app (ascii_lit (by decide +kernel)) aj.cut).app ab) k02 D3
      have other : tOp (fun x y H Q => ∃ i j, x = V.str i ∧ y = V.str j ∧ i.length + j.length ≤ sizeLine ∧ Q (V.str (i ++ j)) H)
          (tOp (fun x y H Q => ∃ i j, x = V.str i ∧ y = V.str j ∧ i.length + j.length ≤ sizeLine ∧ Q (V.str (i ++ j)) H) (tC (V.str (Str.ofString "q"))) (tSl rSlS (tVar 2) (tPart (tC (V.int 1))) (tPart (tUn (rU fun i => V.int (-i)) (tC (V.int 1))))))
          (tOp rMulS (tC (V.str (Str.ofString "x"))) (tCB (fun xs H Q => (∃ i, xs = [V.int i] ∧ Q (V.int i) H) ∨ ∃ k, xs = [V.bl k] ∧ Q (V.int (if k = true then 1 else 0)) H) (tCons (tOp (rI0 fun i j => V.bl (decide (j < i))) (tVar 1) (tC (V.int 1))) tNil)))
          [some (.ref d), some (.int (m : Nat)), some (.str x), none] H2 Q := by
        have cl := cut_len (x := x) (lo := some 1) (hi := some (-1))
        have q1 : ("q" : Str).length = 1 := by decide +kernel
        refine ⟨_, rfl, _, rfl, _, rfl, _, rfl, x, rfl, sz, _, _, rfl, rfl, Nat.le_trans (by omega : _ ≤ 1000) (by decide), ?_⟩
        refine ⟨_, rfl, _, _, rfl, rfl, .inr ⟨_, rfl, ?_⟩⟩
        refine ⟨_, _, rfl, rfl, by split <;> decide, by split <;> decide, by decide +kernel, fun b eb => ?_⟩
        have hb : (tl b).length ≤ 1 := by
          rw [eb, PyProof.Rows.lm_len_rep_flat, show (tl ("x" : Str)).length = 1 by decide +kernel]
          split <;> decide
        refine ⟨_, _, rfl, rfl, Nat.le_trans (by rw [Str.length_append]; rw [← len_tl] at hb; omega : _ ≤ 1000) (by decide), fin _ b rfl hb (ascii.rep (ascii_lit (by decide +kernel)) eb)⟩
      refine ⟨_, rfl, x, _, a, rfl, rfl, sz, hza, rfl, _, rfl, iteB (fun h1 => ?_) (fun h1 => ?_)⟩
      · exact ⟨_, rfl, _, rfl, x, _, z, rfl, rfl, sz, hzz, rfl, _, rfl, iteB (fun h2 => ⟨_, rfl, hQ x _ (by omega) aj k02 D3⟩) fun h2 => other⟩
      · exact other
theorem ok__law_text (T : Txt K mg) : Cal P w K mg base CX0 4 "_law_text" ["draw"] sp__law_text := by
  refine T.d__law_text.ok0 sc__law_text (fun vs H Q E h => ?_) (fun f cdv A outer s H vs Q E hr h => ?_)
  · first | (obtain ⟨_, rfl, _⟩ := h; rfl) | (obtain ⟨_, _, rfl, _⟩ := h; rfl) | (obtain ⟨_, _, _, rfl, _⟩ := h; rfl) | (obtain ⟨_, _, _, _, rfl, _⟩ := h; rfl) | (obtain ⟨_, _, _, _, _, rfl, _⟩ := h; rfl)
  · refine ⟨_, (pss_cons (ps_set (i := 1) sc__law_text.nd rfl (by first | exact Or.inl rfl | exact Or.inr rfl) (pe_ix ix_list (pe_lst (pa_cons pe_int (pa_cons pe_int (pa_cons pe_int (pa_cons pe_int (pa_cons pe_int (pa_cons pe_int (pa_cons pe_int pa_nil)))))))) (pe_c (ok__law_digit T) hr (by decide) (by rfl) pass0 (pa_cons (pv 0) (pa_cons pe_int pa_nil))) (fun _ _ => rfl)))
      (pss_cons (ps_setLc (i := 2) (own := [(("j" : Str), 7)]) rfl sc__law_text.nd rfl rfl (sw_true rfl rfl rfl (by decide +kernel)) (pi_range1 (by rfl) T.b_range (pa_cons (pv 1) pa_nil)) (blkOk_by (N := ["draw", "many", "words", "text", "at", "sign", "way", "j"]) (sc := defScope s__law_text) (by decide +kernel)) (fun _ _ _ _ _ => (pg_name (i := 7) sc__law_text.nd rfl (by first | exact Or.inl rfl | exact Or.inr rfl))) (fun _ _ _ _ _ => pts_nil) (fun _ _ _ _ _ => (pe_c (ok__law_label T) hr (by decide) (by rfl) pass0 (pa_cons (pv 0) pa_nil))))
      (Evl.pss_cut (ps_if (pt_cmpR (op_eq) (pe_c (ok__law_digit T) hr (by decide) (by rfl) pass0 (pa_cons (pv 0) (pa_cons pe_int pa_nil))) pe_int (nomark _))
      (pss_one (ps_setLc (i := 2) (own := [(("j" : Str), 7)]) rfl sc__law_text.nd rfl rfl (sw_true rfl rfl rfl (by decide +kernel)) (pi_range1 (by rfl) T.b_range (pa_cons (pe_op op_add pe_int (pe_c (ok__law_digit T) hr (by decide) (by rfl) pass0 (pa_cons (pv 0) (pa_cons pe_int pa_nil)))) pa_nil)) (blkOk_by (N := ["draw", "many", "words", "text", "at", "sign", "way", "j"]) (sc := defScope s__law_text) (by decide +kernel)) (fun _ _ _ _ _ => (pg_name (i := 7) sc__law_text.nd rfl (by first | exact Or.inl rfl | exact Or.inr rfl))) (fun _ _ _ _ _ => pts_nil) (fun _ _ _ _ _ => (pe_ix (show IxR _ (rIxL K) from ix_list) (pe_lst (pa_cons pe_str (pa_cons pe_str (pa_cons pe_str (pa_cons pe_str (pa_cons pe_str (pa_cons pe_str (pa_cons pe_str pa_nil)))))))) (pe_c (ok__law_digit T) hr (by decide) (by rfl) pass0 (pa_cons (pv 0) (pa_cons pe_int pa_nil))) (fun _ _ => rfl)))))
      pss_nil)
      (pss_cons (ps_set (i := 3) sc__law_text.nd rfl (by first | exact Or.inl rfl | exact Or.inr rfl) (pe_join pe_str (pv 2)))
      (pss_cons (ps_par (i := 4) (j := 5) rfl sc__law_text.nd rfl rfl (by decide) rfl rfl (pa_cons (pe_c (ok__law_digit T) hr (by decide) (by rfl) pass0 (pa_cons (pv 0) (pa_cons (pe_op op_add (pe_callB call_len_str (by rfl) T.b_len (by decide +kernel) (pa_cons (pv 3) pa_nil)) pe_int) pa_nil))) (pa_cons (pe_ix ix_list (pe_lst (pa_cons pe_str (pa_cons pe_str (pa_cons pe_str (pa_cons pe_str (pa_cons pe_str (pa_cons pe_str (pa_cons pe_str pa_nil)))))))) (pe_c (ok__law_digit T) hr (by decide) (by rfl) pass0 (pa_cons (pv 0) (pa_cons pe_int pa_nil))) (fun _ _ => rfl)) pa_nil)) (by rfl))
      (pss_cons (ps_set (i := 6) sc__law_text.nd rfl (by first | exact Or.inl rfl | exact Or.inr rfl) (pe_c (ok__law_digit T) hr (by decide) (by rfl) pass0 (pa_cons (pv 0) (pa_cons pe_int pa_nil))))
      (pss_cons (ps_if (pt_cmpR (op_eq) (pv 6) pe_int (nomark _))
      (pss_one (ps_ret (pe_op op_add_str (pe_op op_add_str (pe_slice sl_str (pv 3) po_none (po_some (pv 4))) (pv 5)) (pe_slice sl_str (pv 3) (po_some (pv 4)) po_none))))
      pss_nil)
      (pss_cons (ps_if (pt_cmpR (op_eq) (pv 6) pe_int (nomark _))
      (pss_one (ps_ret (pe_op op_add_str (pe_op op_add_str (pe_slice sl_str (pv 3) po_none (po_some (pv 4))) (pv 5)) (pe_slice sl_str (pv 3) (po_some (pe_op op_add (pv 4) pe_int)) po_none))))
      pss_nil)
      (pss_one (ps_ret (pv 3))))))))))), ?_⟩
    obtain ⟨d, n, rfl, D, hQ⟩ := h
    refine ⟨by show 7 ≤ sizeLine; decide, fun p hp => ?_⟩
    have pd := D.ne hp
    refine ⟨_, rfl, d, 7, n + 399, rfl, by decide, by decide, (D.upd pd.symm).less (by omega), fun r H1 h0 h1 k1 D1 => ?_⟩
    obtain ⟨v, hv, ha⟩ := menu (xs := [V.int 1, V.int 2, V.int 3, V.int 4, V.int 5, V.int 10, V.int 11]) (i := r) h0 (by show r < 7; omega)
    obtain ⟨m, rfl, hm1, hm2⟩ : ∃ m : Nat, v = .int (m : Int) ∧ 1 ≤ m ∧ m ≤ 11 := by
      simp only [List.mem_cons, List.not_mem_nil, or_false] at hv
      rcases hv with rfl | rfl | rfl | rfl | rfl | rfl | rfl
      · exact ⟨1, rfl, by decide, by decide⟩
      · exact ⟨2, rfl, by decide, by decide⟩
      · exact ⟨3, rfl, by decide, by decide⟩
      · exact ⟨4, rfl, by decide, by decide⟩
      · exact ⟨5, rfl, by decide, by decide⟩
      · exact ⟨10, rfl, by decide, by decide⟩
      · exact ⟨11, rfl, by decide, by decide⟩
    refine ⟨p, _, _, _, rfl, rfl, SqL.of (k1 _ _ upd_same pd), ha, ?_⟩
    have k1' : Keep d H H1 := Same.then (Same.new hp) k1
    refine ⟨_, rfl, _, rfl, by omega, by omega, fun L hL => ?_⟩
    have hdL : L ≠ d := D1.ne hL
    refine lc_range (n := ((m : Nat) : Int).toNat) (fun i H2 => ∃ W : List Str, W.length = i ∧ (∀ w ∈ W, ascii w ∧ (tl w).length ≤ 22) ∧ H2 L = some (.lst (W.map V.str)) ∧ Keep d H1 H2 ∧ DrawAt H2 d (n + 399 - 30 * i)) ⟨[], rfl, by simp, upd_same, Keep.refl.updN hL, D1.upd hdL.symm⟩ ?_ ?_
    · rintro i H2 hi ⟨W, hW, hw, hl, kk, D2⟩
      refine ⟨rfl, ?_⟩
      refine ⟨_, rfl, d, n + 399 - 30 * i - 30, rfl, D2.less (by omega), fun x H3 hx ax k3 D3 => ?_⟩
      have hl3 : H3 L = some (.lst (W.map V.str)) := k3 L _ hl hdL
      refine ⟨_, hl3, Nat.lt_of_le_of_lt (by rw [List.length_map]; omega : _ ≤ 1000) (by decide), W ++ [x], by rw [List.length_append, hW]; rfl, fun w hw' => ?_, by rw [upd_same, List.map_append]; rfl, (kk.trans k3).updN hL, (D3.less (by omega)).upd hdL.symm⟩
      rcases List.mem_append.mp hw' with q | q
      · exact hw w q
      · rw [List.mem_singleton.mp q]; exact ⟨ax, by rw [← len_tl]; exact hx⟩
    · rintro H2 ⟨W, hW, hw, hl, kk, D2⟩
      have k02 := k1'.trans kk
      have D2' := D2.less (show n + 60 ≤ n + 399 - 30 * ((m : Nat) : Int).toNat by omega)
      have dot1 : ("." : Str).length = 1 := by decide +kernel
      refine ⟨fun σ' H' => ∃ (v7 : Option V) (L : Addr) (W : List Str), σ' = [some (.ref d), some (.int (m : Nat)), some (.ref L), none, none, none, none, v7] ∧ W.length ≤ 11 ∧ (∀ w ∈ W, ascii w ∧ (tl w).length ≤ 22) ∧ H' L = some (.lst (W.map V.str)) ∧ L ≠ d ∧ Keep d H H' ∧ DrawAt H' d (n + 40), ?_, ?_⟩
      · refine ⟨_, rfl, d, 3, n + 59, rfl, by decide, by decide, D2', fun r H3 h03 h13 k3 D3 => ?_⟩
        have hl3 := k3 _ _ hl hdL
        refine ⟨rfl, _, rfl, iteB (fun hz => ?_) (fun hz => ⟨_, L, W, rfl, by omega, hw, hl3, hdL, k02.trans k3, D3.less (by omega)⟩)⟩
        refine ⟨_, rfl, d, 3, n + 58, rfl, by decide, by decide, D3, fun r4 H4 h04 h14 k4 D4 => ?_⟩
        obtain ⟨m4, rfl⟩ : ∃ m4 : Nat, r4 = (m4 : Int) := ⟨r4.toNat, by omega⟩
        refine ⟨_, _, rfl, rfl, _, rfl, by omega, by omega, fun L2 hL2 => ?_⟩
        have hdL2 : L2 ≠ d := D4.ne hL2
        refine lc_range (n := ((3 : Int) + (m4 : Int)).toNat) (fun i H5 => ∃ W : List Str, W.length = i ∧ (∀ w ∈ W, ascii w ∧ (tl w).length ≤ 22) ∧ H5 L2 = some (.lst (W.map V.str)) ∧ Keep d H4 H5 ∧ DrawAt H5 d (n + 58 - i)) ⟨[], rfl, by simp, upd_same, Keep.refl.updN hL2, D4.upd hdL2.symm⟩ ?_ ?_
        · rintro i H5 hi ⟨W, hW, hw, hl, kk, D5⟩
          refine ⟨rfl, ?_⟩
          refine ⟨by show 7 ≤ sizeLine; decide, fun p6 hp6 => ?_⟩
          have pd6 := D5.ne hp6
          refine ⟨_, rfl, d, 7, n + 58 - i - 1, rfl, by decide, by decide, (D5.upd pd6.symm).less (by omega), fun r H6 h06 h16 k6 D6 => ?_⟩
          obtain ⟨v, hv, ha⟩ := menu (xs := [V.str "0", V.str "7", V.str "255", V.str "256", V.str "00", V.str "01", V.str "9"]) (i := r) h06 (by show r < 7; omega)
          obtain ⟨x, rfl, ax, hx⟩ : ∃ x : Str, v = .str x ∧ ascii x ∧ (tl x).length ≤ 22 := by
            simp only [List.mem_cons, List.not_mem_nil, or_false] at hv
            rcases hv with rfl | rfl | rfl | rfl | rfl | rfl | rfl <;> exact ⟨_, rfl, ascii_lit (by decide +kernel), by decide +kernel⟩
          have hl6 : H6 L2 = some (.lst (W.map V.str)) := k6 L2 _ (by rw [upd_ne (ne_of_none hl hp6)]; exact hl) hdL2
          refine ⟨p6, _, _, _, rfl, rfl, SqL.of (k6 _ _ upd_same pd6), ha, ?_⟩
          refine ⟨_, hl6, Nat.lt_of_le_of_lt (by rw [List.length_map]; omega : _ ≤ 1000) (by decide), W ++ [x], by rw [List.length_append, hW]; rfl, fun w hw' => ?_, by rw [upd_same, List.map_append]; rfl, (kk.trans (Same.then (Same.new hp6) k6)).updN hL2, (D6.less (by omega)).upd hdL2.symm⟩
          rcases List.mem_append.mp hw' with q | q
          · exact hw w q
          · rw [List.mem_singleton.mp q]; exact ⟨ax, hx⟩
        · rintro H5 ⟨W, hW, hw, hl, kk, D5⟩
          exact ⟨_, L2, W, rfl, by omega, hw, hl, hdL2, ((k02.trans k3).trans k4).trans kk, D5.less (by omega)⟩
      · rintro σ' H3 ⟨v7, L, W, rfl, hWl, hw, hl, hdL, k03, D3⟩
        have hs := words_len (W := W) (B := 22) fun x hx => (hw x hx).2
        have aj : ascii (Txt.join ("." : Str) W) := ascii.join (ascii_lit (by decide +kernel)) fun x hx => (hw x hx).1
        have lj : (Txt.join ("." : Str) W).length ≤ 253 := by
          rw [len_tl, words_join]
          have := joinL_len (c := 46) (B := 22) (W.map tl) fun l hl => by obtain ⟨w, hw', rfl⟩ := List.mem_map.mp hl; exact (hw w hw').2
          rw [List.length_map] at this
          omega
        refine ⟨⟨_, rfl⟩, _, rfl, _, L, W, rfl, rfl, .inl (SqL.of hl), by rw [dot1]; omega, ?_⟩
        generalize Txt.join ("." : Str) W = x at aj lj ⊢
        have ax := aj
        have lx : x.length ≤ 255 := by omega
        have sz : x.length ≤ sizeLine := Nat.le_trans (by omega : _ ≤ 1000) (by decide)
        refine ⟨_, rfl, _, rfl, x, rfl, sz, _, _, rfl, rfl, d, _, n + 37, rfl, by omega, by omega, D3.less (by omega), fun at1 H8 h08 h18 k8 D8 => ?_⟩
        refine ⟨by show 7 ≤ sizeLine; decide, fun p9 hp9 => ?_⟩
        have pd9 := D8.ne hp9
        refine ⟨_, rfl, d, 7, n + 36, rfl, by decide, by decide, D8.upd pd9.symm, fun r H9 h09 h19 k9 D9 => ?_⟩
        obtain ⟨v, hv, ha⟩ := menu (xs := [V.str "", V.str ".", V.str "-", V.str "A", V.str "_", V.str "0", V.str " "]) (i := r) h09 (by show r < 7; omega)
        obtain ⟨y2, rfl, ay2, hy2⟩ : ∃ x : Str, v = .str x ∧ ascii x ∧ x.length ≤ 2 := by
          simp only [List.mem_cons, List.not_mem_nil, or_false] at hv
          rcases hv with rfl | rfl | rfl | rfl | rfl | rfl | rfl <;> exact ⟨_, rfl, ascii_lit (by decide +kernel), by decide +kernel⟩
        refine ⟨p9, _, _, _, rfl, rfl, SqL.of (k9 _ _ upd_same pd9), ha, _, _, rfl, ?_⟩
        have k09 := (k03.trans k8).trans (Same.then (Same.new hp9) k9)
        refine ⟨_, rfl, d, 6, n + 35, rfl, by decide, by decide, D9, fun way H10 h010 h110 k10 D10 => ?_⟩
        have k010 := k09.trans k10
        have D10' := D10.less (show n ≤ n + 35 by omega)
        have hat : at1.toNat ≤ x.length := by omega
        have c1 : (cutS x none (some at1)).length = at1.toNat := by rw [len_tl, cutS_to x h08, List.length_take, ← len_tl]; omega
        have c2 : (cutS x (some at1) none).length = x.length - at1.toNat := by rw [len_tl, cutS_from x h08, List.length_drop, ← len_tl]
        have c3 : (cutS x (some (at1 + 1)) none).length ≤ x.length - at1.toNat := by rw [len_tl, cutS_from x (by omega), List.length_drop, ← len_tl]; omega
        refine ⟨_, rfl, rfl, _, rfl, iteB (fun h1 => ?_) (fun h1 => ?_)⟩
        · refine ⟨_, rfl, _, rfl, _, rfl, x, rfl, sz, _, rfl, _, _, rfl, rfl, Nat.le_trans (by omega : _ ≤ 1000) (by decide), _, rfl, _, rfl, _, rfl, x, rfl, sz, _, _, rfl, rfl, Nat.le_trans (by rw [Str.length_append]; omega : _ ≤ 1000) (by decide), ?_⟩
          exact hQ _ _ (by rw [Str.length_append, Str.length_append]; omega) ((ax.cut.app ay2).app ax.cut) k010 D10'
        · refine ⟨_, rfl, rfl, _, rfl, iteB (fun h2 => ?_) (fun h2 => ?_)⟩
          · refine ⟨_, rfl, _, rfl, _, rfl, x, rfl, sz, _, rfl, _, _, rfl, rfl, Nat.le_trans (by omega : _ ≤ 1000) (by decide), _, rfl, _, rfl, _, _, rfl, rfl, _, rfl, x, rfl, sz, _, _, rfl, rfl, Nat.le_trans (by rw [Str.length_append]; omega : _ ≤ 1000) (by decide), ?_⟩
            exact hQ _ _ (by rw [Str.length_append, Str.length_append]; omega) ((ax.cut.app ay2).app ax.cut) k010 D10'
          · exact ⟨_, rfl, hQ _ _ (by omega) ax k010 D10'⟩
theorem ok__law_due (T : Txt K mg) : Cal P w K mg base CX0 3 "_law_due" ["text"] sp__law_due := by
  refine T.d__law_due.ok0 sc__law_due (fun vs H Q E h => ?_) (fun f cdv A outer s H vs Q E hr h => ?_)
  · first | (obtain ⟨_, rfl, _⟩ := h; rfl) | (obtain ⟨_, _, rfl, _⟩ := h; rfl) | (obtain ⟨_, _, _, rfl, _⟩ := h; rfl) | (obtain ⟨_, _, _, _, rfl, _⟩ := h; rfl) | (obtain ⟨_, _, _, _, _, rfl, _⟩ := h; rfl)
  · refine ⟨_, (pss_cons (ps_if (pt_val (pe_c (ok__law_is_host T) hr (by decide) (by rfl) pass0 (pa_cons (pv 0) pa_nil)))
      (pss_one (ps_ret pe_non))
      pss_nil)
      (pss_cons (ps_for PassesOwn.never rfl (pi_range1 (by rfl) T.b_range (pa_cons (pe_callB call_len_str (by rfl) T.b_len (by decide +kernel) (pa_cons (pv 0) pa_nil)) pa_nil)) (pg_name (i := 1) sc__law_due.nd rfl (by first | exact Or.inl rfl | exact Or.inr rfl))
      (pss_one (ps_if (pt_cmpR (op_eqD hr.units) (pe_lc (own := [(("tail" : Str), 2)]) rfl sc__law_due.nd (pi_list (pe_lst (pa_cons pe_str (pa_cons pe_str (pa_cons pe_str pa_nil))))) (blkOk_by (N := ["text", "at", "tail"]) (sc := defScope s__law_due) (by decide +kernel)) (fun _ _ _ _ _ => (pg_name (i := 2) sc__law_due.nd rfl (by first | exact Or.inl rfl | exact Or.inr rfl))) (fun _ _ _ _ _ => (pts_one (pt_val (pe_c (ok__law_is_host T) hr (by decide) (by rfl) pass0 (pa_cons (pe_op op_add_str (pe_slice sl_str (pv 0) po_none (po_some (pe_op op_add (pv 1) pe_int))) (pv 2)) pa_nil))))) (fun _ _ _ _ _ => (pv 2))) (pe_lst pa_nil) (nomark _))
      (pss_one (ps_ret (pe_op op_add (pv 1) pe_int)))
      pss_nil)))
      (pss_one (ps_ret (pe_op op_add (pe_callB call_len_str (by rfl) T.b_len (by decide +kernel) (pa_cons (pv 0) pa_nil)) pe_int))))), ?_⟩
    obtain ⟨x, rfl, hx, ax, hQ⟩ := h
    have sz : x.length ≤ sizeLine := Nat.le_trans (by omega : _ ≤ 1000) (by decide)
    have hE : ∀ e ∈ tailsQ, e.length ≤ 2 ∧ (tl e).all (· < 128) = true := by decide +kernel
    refine ⟨_, rfl, x, rfl, ⟨by omega, ax⟩, fun H1 s1 => ⟨_, rfl, ?_⟩⟩
    cases hh : hostB (tl x) with
    | true => exact iteT (hQ _ _ s1 (.inl ⟨hh, rfl⟩))
    | false =>
      refine iteF ⟨_, rfl, x, rfl, sz, _, rfl, by omega, by omega, ?_⟩
      refine for_range (n := x.length) (fun i σ H2 => ∃ v1 v2, σ = [some (.str x), v1, v2] ∧ Same H1 H2 ∧ ∀ j, j < i → beginsB ((tl x).take (j + 1)) = true) ⟨none, none, rfl, Same.refl _, fun j hj => absurd hj (Nat.not_lt_zero j)⟩ ?_ ?_
      · rintro i σ H2 hi ⟨v1, v2, rfl, s2, hg⟩
        refine ⟨by show 3 ≤ sizeLine; decide, fun p hp => ?_⟩
        generalize hH3 : upd H2 p (.lst [V.str ("" : Str), V.str ("a" : Str), V.str (".a" : Str)]) = H3
        have s3 : Same H2 H3 := hH3 ▸ Same.new hp
        have m3 : H3 p = some (.lst (tailsQ.map V.str)) := by rw [← hH3]; exact upd_same
        refine ⟨p, rfl, ⟨_, SqL.of m3⟩, ?_⟩
        intro L hL
        have et : ∀ n : Int, n = (0 : Int) + (i : Int) + 1 → tl (cutS x none (some n)) = (tl x).take (i + 1) := fun n e => by
          rw [cutS_to x (by omega), show n.toNat = i + 1 by omega]
        refine lc_list (K := K) (a := p) (xs := tailsQ.map V.str) (fun i1 H4 => ∃ W : List Str, H4 L = some (.lst (W.map V.str)) ∧ W.length ≤ i1 ∧ (∀ w ∈ W, ascii w) ∧ (W = [] ↔ ((tailsQ.take i1).map fun e => !hostB ((tl x).take (i + 1) ++ tl e)).all id = true) ∧ Same H3 H4) ⟨[], upd_same, Nat.le_refl _, by simp, by simp, Same.new hL⟩ (fun i H2 _ ⟨_, _, _, _, _, s⟩ => SqL.of (s _ _ m3)) ?_ ?_
        · rintro i1 v H4 hi1 ⟨W, hl, hW, hWa, hWe, s4⟩
          obtain ⟨y, hy, rfl⟩ := strAt hi1
          obtain ⟨hy1, hy2⟩ := hE y (List.mem_of_getElem? hy)
          have ay := ascii_lit hy2
          have hin : ((tailsQ.take (i1 + 1)).map fun e => !hostB ((tl x).take (i + 1) ++ tl e)).all id = (((tailsQ.take i1).map fun e => !hostB ((tl x).take (i + 1) ++ tl e)).all id && !hostB ((tl x).take (i + 1) ++ tl y)) := by
            rw [List.take_succ (l := tailsQ), hy]
            show ((tailsQ.take i1 ++ [y]).map fun e => !hostB ((tl x).take (i + 1) ++ tl e)).all id = _
            rw [List.map_append, List.all_append]
            simp
          have lc : ∀ n : Int, (cutS x none (some n)).length ≤ 900 := fun n => Nat.le_trans cut_len hx
          refine ⟨rfl, _, rfl, _, rfl, _, _, rfl, rfl, _, rfl, x, rfl, sz, _, rfl, _, _, rfl, rfl, Nat.le_trans (by have := lc ((0 : Int) + (i : Int) + 1); omega : _ ≤ 2000) (by decide), _, rfl, ⟨by rw [Str.length_append]; have := lc ((0 : Int) + (i : Int) + 1); omega, ax.cut.app ay⟩, fun H5 s5 => ⟨_, rfl, ?_⟩⟩
          rw [tl_append, et _ rfl]
          cases hc : hostB ((tl x).take (i + 1) ++ tl y) with
          | false =>
            rw [hc, Bool.not_false, Bool.and_true] at hin
            exact iteF ⟨W, s5 _ _ hl, by omega, hWa, by rw [hin]; exact hWe, s4.trans s5⟩
          | true =>
            rw [hc, Bool.not_true, Bool.and_false] at hin
            refine iteT ⟨_, rfl, _, s5 _ _ hl, Nat.lt_of_le_of_lt (by rw [List.length_map]; have h4 := (List.getElem?_eq_some_iff.mp hy).1; have : tailsQ.length = 3 := rfl; omega : _ ≤ 2000) (by decide), W ++ [y], by rw [upd_same, List.map_append]; rfl, by rw [List.length_append, List.length_singleton]; omega, fun w hw => ?_, by rw [hin]; simp, Same.put (s4.trans s5) hL⟩
            rcases List.mem_append.mp hw with q | q
            · exact hWa w q
            · rw [List.mem_singleton.mp q]; exact ay
        rintro H4 ⟨W, hl, hW, hWa, hWe, s4⟩
        rw [List.length_map, List.take_length] at hWe
        refine ⟨by show 0 ≤ sizeLine; decide, fun L2 hL2 => ?_⟩
        have s24 := (s3.trans s4).trans (Same.new (o := HO.lst []) hL2)
        refine ⟨_, _, dp_strs (SqL.of ((Same.new (o := HO.lst []) hL2) _ _ hl)), dp_strs (ys := []) (SqL.of upd_same), lay_strs hWa, lay_strs (W := []) (by simp), _, rfl, ?_⟩
        rw [eqv_nil]
        have eb : beginsB ((tl x).take (i + 1)) = !decide (W = []) := by
          rw [begins3, Bool.eq_iff_iff, Bool.not_eq_true', Bool.not_eq_true', ← Bool.not_eq_true, ← Bool.not_eq_true, decide_eq_true_eq, hWe]
        generalize upd H4 L2 (.lst []) = H5 at s24 ⊢
        cases hb : beginsB ((tl x).take (i + 1)) with
        | true =>
          rw [hb] at eb
          rw [show decide (W = []) = false by simpa using eb.symm]
          refine iteF ⟨_, _, rfl, s2.trans s24, fun j hj => ?_⟩
          rcases Nat.lt_succ_iff_lt_or_eq.mp hj with q | q
          · exact hg j q
          · rw [q]; exact hb
        | false =>
          rw [hb] at eb
          rw [show decide (W = []) = true by simpa using eb.symm]
          refine iteT ⟨_, rfl, _, _, rfl, rfl, ?_⟩
          refine hQ _ _ ((s1.trans s2).trans s24) (.inr ⟨hh, i + 1, ?_, .inr ⟨by omega, by rw [← len_tl]; omega, hb, fun j hj => hg j (by omega)⟩⟩)
          show V.int ((0 : Int) + (i : Int) + 1) = V.int ((i + 1 : Nat) : Int)
          congr 1
          omega
      · rintro σ H2 ⟨v1, v2, rfl, s2, hg⟩
        refine ⟨_, rfl, x, rfl, sz, _, _, rfl, rfl, hQ _ _ (s1.trans s2) (.inr ⟨hh, x.length + 1, ?_, .inl ⟨by rw [← len_tl], fun j hj => hg j (by rw [len_tl]; exact hj)⟩⟩)⟩
        rfl
theorem gv__law_place {k : Nat} (T : Txt K mg) : GivesL P w K mg base ["call", "e"] "_law_place" (defScope s__law_place) (defBody s__law_place) "call" k (tt__law_place mg) := by
  intro g cdg A outer f s H Q okL tl hgd hr act hok ht
  obtain ⟨C_BadHost, e_BadHost⟩ := T.e_BadHost
  refine ⟨_, (pss_cons (ps_try_as (i := 1) rfl rfl sc__law_place.nd rfl rfl ⟨rfl, by decide, Or.inl e_BadHost.g⟩ takes0
      (fun W pn xe tk po => (pss_one (ps_expr (act _ _ _ _ _ tk))))
      (fun a oe cls d pn hz hf => (pss_one (ps_ret (pe_xf e_BadHost.X e_BadHost.no hz hf (pv 1))))))
      (pss_one (ps_ret pe_non))), ?_⟩
  unfold tt__law_place at ht
  refine ⟨rfl, hok, _, _, ?_, ?_, ht⟩
  · rintro cls d H' ⟨C, dx, k, hC, ec, ed, hx, q⟩
    subst ec ed
    cases hC.symm.trans e_BadHost.g
    refine ⟨true, e_BadHost.te, fun _ a ha => ?_, fun z => by cases z⟩
    exact ⟨_, rfl, rfl, rfl, dx, _, .int (k : Nat), rfl, hx, by simp [List.lookup], q⟩
  · exact fun v H' q => q
theorem ok_law {f : Addr} {fd : FuncData} {c Tb : Addr} (F : Fun K "law" "law" s_law f fd) (hcode : fd.code = .ref c) (TB : LamX.TabB base mg c Tb) (T : Txt K mg) : FnG P w K mg base CX0 12 f fd ["script"] (sp_law K Tb) := by
  refine Kb.Fun.okGC F hcode sc_law (fun vs H Q E h => ?_) (fun A outer s H vs Q E hgd hr h => ?_)
  · first | (obtain ⟨_, rfl, _⟩ := h; rfl) | (obtain ⟨_, _, rfl, _⟩ := h; rfl) | (obtain ⟨_, _, _, rfl, _⟩ := h; rfl) | (obtain ⟨_, _, _, _, rfl, _⟩ := h; rfl) | (obtain ⟨_, _, _, _, _, rfl, _⟩ := h; rfl)
  · refine ⟨_, (pss_cons (ps_for PassesOwn.never rfl (pi_enum (by rfl) T.b_enumerate (pa_cons (pe_op op_cat (pe_slice sl_list (pv 0) po_none (po_some pe_int)) (pe_lst (pa_cons (pe_callB (cr_sum rfl) (by rfl) T.b_sum (by decide +kernel) (pa_cons (pv 0) pa_nil)) pa_nil))) pa_nil)) (pg_tup rfl (pgs_cons (pg_name (i := 1) sc_law.nd rfl (by first | exact Or.inl rfl | exact Or.inr rfl)) (pgs_cons (pg_name (i := 2) sc_law.nd rfl (by first | exact Or.inl rfl | exact Or.inr rfl)) pgs_nil)))
      (pss_cons (ps_set (i := 3) sc_law.nd rfl (by first | exact Or.inl rfl | exact Or.inr rfl) (pe_c (ok__law_draw T) hr (by decide) (by rfl) pass0 (pa_cons (pv 2) (pa_cons (pv 1) pa_nil))))
      (pss_cons (ps_for PassesOwn.never rfl (pi_range1 (by rfl) T.b_range (pa_cons pe_int pa_nil)) (pg_name (i := 4) sc_law.nd rfl (by first | exact Or.inl rfl | exact Or.inr rfl))
      (pss_cons (ps_asg (pe_tup (pa_cons (pe_c (ok__law_text T) hr (by decide) (by rfl) pass0 (pa_cons (pv 3) pa_nil)) (pa_cons pe_str pa_nil))) (pg_tup rfl (pgs_cons (pg_name (i := 5) sc_law.nd rfl (by first | exact Or.inl rfl | exact Or.inr rfl)) (pgs_cons (pg_name (i := 6) sc_law.nd rfl (by first | exact Or.inl rfl | exact Or.inr rfl)) pgs_nil))))
      (pss_cons (ps_set (i := 7) sc_law.nd rfl (by first | exact Or.inl rfl | exact Or.inr rfl) (pe_c (ok__law_is_host T) hr (by decide) (by rfl) pass0 (pa_cons (pv 5) pa_nil)))
      (pss_cons (ps_set (i := 8) sc_law.nd rfl (by first | exact Or.inl rfl | exact Or.inr rfl) (pe_split (pv 5) pe_str))
      (Evl.pss_cut (ps_set (i := 9) sc_law.nd rfl (by first | exact Or.inl rfl | exact Or.inr rfl) (pe_and (pv 7) (pe_one (pe_m0 PySem.F.slot_str_isdigit PySem.F.type_str_isdigit mt_isdigit (pe_ix ix_list (pv 8) (pe_un un_neg pe_int) (fun _ _ => rfl))))))
      (pss_cons (ps_if (pt_cmpR (op_ne) (pe_callB (call_reprE (repr_u hr) hgd) (by rfl) T.b_repr (by decide +kernel) (pa_cons (pe_lst (pa_cons (pe_c (ok_is_host T) hr (by decide) (by rfl) pass0 (pa_cons (pv 5) pa_nil)) (pa_cons (pe_c (ok_is_address_host T) hr (by decide) (by rfl) pass0 (pa_cons (pv 5) pa_nil)) pa_nil))) pa_nil)) (pe_callB (call_reprE (repr_u hr) hgd) (by rfl) T.b_repr (by decide +kernel) (pa_cons (pe_lst (pa_cons (pv 7) (pa_cons (pv 9) pa_nil))) pa_nil)) (nomark _))
      (pss_one (ps_ret pe_bl))
      pss_nil)
      (Evl.pss_cut (ps_if (PW.pt (pw_and (pt_val (pv 7)) (pw_and1 (pt_cmpR (op_neD hr.units) (pe_c (CX := L2.CX _ _) (E := fun _ _ _ => False) (ok_labels_of T) hr (by decide) (by rfl) passF (pa_cons (pv 5) pa_nil)) (pe_callTy call_tuple_of (by rfl) T.b_tuple (by decide +kernel) (pa_cons (pv 8) pa_nil)) (nomark _)))))
      (pss_one (ps_ret pe_bl))
      pss_nil)
      (pss_cons (ps_set (i := 10) sc_law.nd rfl (by first | exact Or.inl rfl | exact Or.inr rfl) (pe_lst (pa_cons (pe_lamL (j := 9) (by rfl) T.d__law_place sc__law_place rfl (Or.inl rfl) (gv__law_place T) hgd TB rfl hr (by decide) (lamP_by (N := ["script", "k", "amount", "draw", "turn", "text", "good", "due", "words", "is_number", "told", "odd"]) (sc := defScope s_law) (ps := []) (by decide +kernel)) (.inl ⟨rfl, rfl, fun _ _ _ _ _ _ => rfl⟩) rfl (.inl ⟨rfl, rfl⟩) (fun A' outer' s' H' E' f' c' hgd hr => (pe_cX (ok_labels_of T) hr (by decide) (by rfl) (takes_of rfl rfl rfl rfl) (pa_cons (pv 5) pa_nil)))) (pa_cons (pe_lamL (j := 9) (by rfl) T.d__law_place sc__law_place rfl (Or.inl rfl) (gv__law_place T) hgd TB rfl hr (by decide) (lamP_by (N := ["script", "k", "amount", "draw", "turn", "text", "good", "due", "words", "is_number", "told", "odd"]) (sc := defScope s_law) (ps := ["n"]) (by decide +kernel)) (.inr ⟨rfl, by simp, fun _ _ _ _ _ _ _ its h => match its, h with | [_], _ => ⟨_, rfl, rfl⟩⟩) rfl (.inr ⟨_, _, _, rfl, rfl⟩) (fun A' outer' s' H' E' f' c' hgd hr => (pe_cX (ok_host_fits T) hr (by decide) (by rfl) (takes_of rfl rfl rfl rfl) (pa_cons (pv 5) (pa_cons pe_str pa_nil))))) pa_nil))))
      (pss_cons (ps_expr (pe_bm PySem.F.plainAttrs_list PySem.F.slot_list_append PySem.F.type_list_append mt_append (pv 10) (pa_cons (pe_lamL (j := 9) (by rfl) T.d__law_place sc__law_place rfl (Or.inl rfl) (gv__law_place T) hgd TB rfl hr (by decide) (lamP_by (N := ["script", "k", "amount", "draw", "turn", "text", "good", "due", "words", "is_number", "told", "odd"]) (sc := defScope s_law) (ps := ["n"]) (by decide +kernel)) (.inr ⟨rfl, by simp, fun _ _ _ _ _ _ _ its h => match its, h with | [_], _ => ⟨_, rfl, rfl⟩⟩) rfl (.inr ⟨_, _, _, rfl, rfl⟩) (fun A' outer' s' H' E' f' c' hgd hr => (pe_cX (ok_host_fits T) hr (by decide) (by rfl) (takes_of rfl rfl rfl rfl) (pa_cons (pv 6) (pa_cons (pv 5) pa_nil))))) pa_nil)))
      (Evl.pss_cut (ps_if (pt_cmpR (op_neD hr.units) (pv 10) (pe_lst (pa_cons (pe_c (ok__law_due T) hr (by decide) (by rfl) pass0 (pa_cons (pv 5) pa_nil)) (pa_cons (pe_ifExp (pt_val (pv 7)) pe_int (pe_c (ok__law_due T) hr (by decide) (by rfl) pass0 (pa_cons (pv 5) pa_nil))) (pa_cons (pe_c (ok__law_due T) hr (by decide) (by rfl) pass0 (pa_cons (pv 5) pa_nil)) pa_nil)))) (nomark _))
      (pss_one (ps_ret pe_bl))
      pss_nil)
      (Evl.pss_cut (ps_if (PW.pt (pw_and (pt_val (pv 7)) (pw_and1 (pt_cmpR (op_notBl) (pe_c (CX := L2.CX _ _) (E := fun _ _ _ => False) (ok_host_fits T) hr (by decide) (by rfl) passF (pa_cons (pv 5) (pa_cons (pv 5) pa_nil))) pe_bl (nomark _)))))
      (pss_one (ps_ret pe_bl))
      pss_nil)
      (pss_one (ps_if (PW.pt (pw_and (pt_val (pv 7)) (pw_and (pt_val (pe_c (ok__law_is_host T) hr (by decide) (by rfl) pass0 (pa_cons (pe_op op_add_str pe_str (pv 5)) pa_nil))) (pw_and1 (pt_cmpR (op_notBl) (pe_c (CX := L2.CX _ _) (E := fun _ _ _ => False) (ok_host_fits T) hr (by decide) (by rfl) passF (pa_cons (pe_op op_add_str pe_str (pv 5)) (pa_cons (pv 5) pa_nil))) pe_bl (nomark _))))))
      (pss_one (ps_ret pe_bl))
      pss_nil)))))))))))))
      (pss_cons (ps_set (i := 11) sc_law.nd rfl (by first | exact Or.inl rfl | exact Or.inr rfl) (pe_ix ix_list (pe_lst (pa_cons pe_non (pa_cons pe_int (pa_cons (pe_tup pa_nil) (pa_cons (pe_lst (pa_cons pe_str pa_nil)) (pa_cons pe_dnewK (pa_cons pe_bl (pa_cons pe_str (pa_cons pe_str (pa_cons pe_str (pa_cons (pe_op op_mulS pe_str pe_int) pa_nil))))))))))) (pe_c (ok__law_digit T) hr (by decide) (by rfl) pass0 (pa_cons (pv 3) (pa_cons pe_int pa_nil))) (fun _ _ => rfl)))
      (Evl.pss_cut (ps_set (i := 7) sc_law.nd rfl (by first | exact Or.inl rfl | exact Or.inr rfl) (pe_ifExp (pt_val (pe_callB call_isi (by rfl) T.b_isinstance (by decide +kernel) (pa_cons (pv 11) (pa_cons (pe_bltn (v := .ty "str") (by rfl) T.b_str (by decide +kernel) rfl) pa_nil)))) (pe_c (ok__law_due T) hr (by decide) (by rfl) pass0 (pa_cons (pv 11) pa_nil)) pe_int))
      (pss_one (ps_if (PW.pt (pw_or (pt_cmpR (op_ne) (pe_callB (call_reprE (repr_u hr) hgd) (by rfl) T.b_repr (by decide +kernel) (pa_cons (pe_lst (pa_cons (pe_c (ok_is_host T) hr (by decide) (by rfl) pass0 (pa_cons (pv 11) pa_nil)) (pa_cons (pe_c (ok_is_address_host T) hr (by decide) (by rfl) pass0 (pa_cons (pv 11) pa_nil)) pa_nil))) pa_nil)) (pe_callB (call_reprE (repr_u hr) hgd) (by rfl) T.b_repr (by decide +kernel) (pa_cons (pe_op op_rep (pe_lst (pa_cons pe_bl pa_nil)) pe_int) pa_nil)) (nomark _)) (pw_or1 (pt_cmpR (op_ne) (pe_lamL (j := 9) (by rfl) T.d__law_place sc__law_place rfl (Or.inl rfl) (gv__law_place T) hgd TB rfl hr (by decide) (lamP_by (N := ["script", "k", "amount", "draw", "turn", "text", "good", "due", "words", "is_number", "told", "odd"]) (sc := defScope s_law) (ps := []) (by decide +kernel)) (.inl ⟨rfl, rfl, fun _ _ _ _ _ _ => rfl⟩) rfl (.inl ⟨rfl, rfl⟩) (fun A' outer' s' H' E' f' c' hgd hr => (pe_cX (ok_labels_of T) hr (by decide) (by rfl) (takes_of rfl rfl rfl rfl) (pa_cons (pv 11) pa_nil)))) (pv 7) (nomark _)))))
      (pss_one (ps_ret pe_bl))
      pss_nil)))))))
      (pss_one (ps_ret pe_bl))), ?_⟩
    obtain ⟨a0, ns, rfl, hS, hlen, hT, hQ⟩ := h
    refine ⟨_, rfl, 6, rfl, a0, _, rfl, hS, fun p hp => ?_⟩
    have s1 : Same H (upd H p (.lst (cutV (ns.map V.int) none (some 6)))) := Same.new hp
    refine ⟨_, rfl, a0, ns, rfl, s1.seq hS, by show 1 ≤ sizeLine; decide, fun p2 hp2 => ?_⟩
    have s2 := Same.new (o := HO.lst [V.int ns.sum]) hp2
    have hc6 : cutV (ns.map V.int) none (some 6) = (ns.take 6).map V.int := by
      rw [cutV_to _ (by decide), List.map_take]; rfl
    rw [hc6] at s1 s2 ⊢
    have l6 : (ns.take 6).length ≤ 6 := by rw [List.length_take]; omega
    refine ⟨_, _, _, _, rfl, rfl, s2 _ _ upd_same, upd_same, Nat.le_trans (by rw [List.length_map]; show _ + 1 ≤ 100; omega) (by decide : 100 ≤ sizeLine), fun p3 hp3 => ?_⟩
    have s3 := Same.new (o := HO.lst ((ns.take 6).map V.int ++ [V.int ns.sum])) hp3
    have hm : upd (upd (upd H p (.lst ((ns.take 6).map V.int))) p2 (.lst [V.int ns.sum])) p3 (.lst ((ns.take 6).map V.int ++ [V.int ns.sum])) p3 = some (.lst ((ns.take 6).map V.int ++ [V.int ns.sum])) := upd_same
    have hTb := TabS.same hT ((s1.trans s2).trans s3)
    generalize (upd (upd (upd H p (.lst ((ns.take 6).map V.int))) p2 (.lst [V.int ns.sum])) p3 (.lst ((ns.take 6).map V.int ++ [V.int ns.sum]))) = Hb at hm hTb ⊢
    have hxs : ∀ i x, ((ns.take 6).map V.int ++ [V.int ns.sum])[i]? = some x → i ≤ 6 ∧ ∃ z : Int, x = .int z := fun i x hi => by
      have h1 := (List.getElem?_eq_some_iff.mp hi).1
      have h2 := List.mem_of_getElem? hi
      rw [List.length_append, List.length_map, List.length_singleton] at h1
      refine ⟨by omega, ?_⟩
      rw [List.mem_append, List.mem_map, List.mem_singleton] at h2
      rcases h2 with ⟨z, _, rfl⟩ | rfl <;> exact ⟨_, rfl⟩
    generalize ((ns.take 6).map V.int ++ [V.int ns.sum]) = xs at hm hxs
    refine ⟨p3, xs, rfl, SqL.of hm, for_enum (K := K) (a := p3) (xs := xs) (fun i σ H' => ∃ v1 v2 v3 v4 v5 v6 v7 v8 v9 v10 v11 : Option V, σ = [some (.ref a0), v1, v2, v3, v4, v5, v6, v7, v8, v9, v10, v11] ∧ LamInv Tb Hb H')
      ⟨none, none, none, none, none, none, none, none, none, none, none, rfl, LamX.ExtN.refl _, hTb⟩ (fun i σ H' _ ⟨_, _, _, _, _, _, _, _, _, _, _, _, q⟩ => SqL.of (q.1 _ _ hm fun ps z => by cases z)) ?_ ?_⟩
    · rintro i x T σ H1 hi ⟨v1, v2, v3, v4, v5, v6, v7, v8, v9, v10, v11, rfl, sb⟩ hT
      obtain ⟨hi6, z, rfl⟩ := hxs i x hi
      refine ⟨T, _, rfl, SqT.of upd_same, rfl, _, _, rfl, _, _, rfl, rfl, ?_⟩
      have sT := sb.same (Same.new (o := HO.tup [V.int (i : Nat), V.int z]) hT)
      refine ⟨_, rfl, _, rfl, z, i, rfl, by omega, by omega, fun d H2 sd hd D => ?_⟩
      have fd : FreshN Hb d := FreshN.of sT.1 hd
      have sb2 := sT.same sd
      refine ⟨6, rfl, by decide, by decide, for_range (n := 6) (fun j σ H3 => ∃ v4 v5 v6 v7 v8 v9 v10 v11 : Option V, σ = [some (.ref a0), some (.int (i : Nat)), some (.int z), some (.ref d), v4, v5, v6, v7, v8, v9, v10, v11] ∧ LamInv Tb Hb H3 ∧ DrawAt H3 d (100000000 - 500 * j)) ⟨v4, v5, v6, v7, v8, v9, v10, v11, rfl, sb2, D.less (by decide)⟩ ?_ ?_⟩
      · rintro j σ H3 hj ⟨v4, v5, v6, v7, v8, v9, v10, v11, rfl, sb3, D3⟩
        refine ⟨_, rfl, d, 100000000 - 500 * j - 400, rfl, D3.less (by omega), fun x H4 lx ax k4 D4 => ?_⟩
        have sb4 := sb3.keep k4 fd D3
        refine ⟨by show 2 ≤ sizeLine; decide, fun T2 hT2 => ⟨T2, _, rfl, SqT.of upd_same, rfl, _, _, rfl, _, _, rfl, rfl, ?_⟩⟩
        have s5 := Same.new (o := HO.tup [V.str x, V.str ("b.c" : Str)]) hT2
        generalize upd H4 T2 (.tup [V.str x, V.str ("b.c" : Str)]) = H5 at s5 ⊢
        refine ⟨_, rfl, x, rfl, ⟨by omega, ax⟩, fun H6 s6 => ?_⟩
        refine ⟨_, rfl, ⟨_, rfl⟩, _, _, rfl, rfl, by decide +kernel, Nat.le_trans (by omega : _ ≤ 100000) (by decide), fun p hp => ?_⟩
        have es := split_sp1 x (c := 46) (by decide)
        have aW : ∀ w ∈ Txt.split x ⟨#[46]⟩, ascii w := fun w hw s hs => ax s (split_mem (by decide) hw s hs)
        rw [← dot_eq] at es aW
        generalize Txt.split x ("." : Str) = W at *
        have s7 := Same.new (o := HO.lst (W.map V.str)) hp
        have m7 : (upd H6 p (.lst (W.map V.str))) p = some (.lst (W.map V.str)) := upd_same
        generalize upd H6 p (.lst (W.map V.str)) = H7 at s7 m7 ⊢
        have sb7 := ((sb4.same s5).same s6).same s7
        have D7 := D4.same ((s5.trans s6).trans s7)
        refine ⟨fun σ' H' => ∃ v10 v11 : Option V, σ' = [some (.ref a0), some (.int (i : Nat)), some (.int z), some (.ref d), some (.int (0 + (j : Nat))), some (.str x), some (.str "b.c"), some (.bl (hostB (tl x))), some (.ref p), some (.bl (addrB (tl x))), v10, v11] ∧ H' = H7, ?_, ?_⟩
        · refine ⟨_, rfl, _, rfl, ?_⟩
          cases hh : hostB (tl x) with
          | false =>
            have : addrB (tl x) = false := by unfold addrB; rw [hh]; rfl
            rw [this]
            exact iteF ⟨_, _, rfl, rfl⟩
          | true =>
            refine iteT ?_
            have hne : W ≠ [] := fun q => by rw [q] at es; exact sp1_ne _ _ es.symm
            obtain ⟨W0, y, eW⟩ : ∃ W0 y, W = W0 ++ [y] := ⟨W.dropLast, W.getLast hne, (List.dropLast_concat_getLast hne).symm⟩
            have ey : lastL (sp1 46 (tl x)) = tl y := by rw [← es]; exact lastL_map eW
            have ly : labB (tl y) = true := host_labels hh _ (by rw [← es, eW]; simp)
            have e : addrB (tl x) = Txt.isdigit y := by unfold addrB; rw [hh, Bool.true_and, ey, isdigit_lab ly]
            refine ⟨_, rfl, _, rfl, p, _, _, _, rfl, rfl, SqL.of m7, by rw [eW, List.map_append]; exact atI_last _ _, ?_⟩
            exact ⟨⟨_, rfl⟩, _, rfl, rfl, trivial, _, _, by rw [e]; rfl, rfl⟩
        · rintro σ' H' ⟨v10, v11, rfl, rfl⟩
          refine ⟨_, rfl, .str x, _, rfl, TxV.of (by omega), fun H8 s8 => ⟨_, rfl, .str x, _, rfl, TxV.of (by omega), fun H9 s9 => ⟨by show 2 ≤ sizeLine; decide, fun q1 hq1 => ?_⟩⟩⟩
          have s10 := Same.new (o := HO.lst [V.bl (hostB (tl x)), V.bl (addrB (tl x))]) hq1
          obtain ⟨g1, g2, g3, g4, g5⟩ := repr_bb (K := K) (SqL.of (H := upd H9 q1 (.lst [V.bl (hostB (tl x)), V.bl (addrB (tl x))])) upd_same)
          refine .inl ⟨_, _, rfl, g1, g2, g3, g4, g5, ?_⟩
          refine ⟨_, rfl, _, rfl, by show 2 ≤ sizeLine; decide, fun q2 hq2 => ?_⟩
          have s11 := Same.new (o := HO.lst [V.bl (hostB (tl x)), V.bl (addrB (tl x))]) hq2
          obtain ⟨f1, f2, f3, f4, f5⟩ := repr_bb (K := K) (SqL.of (H := upd (upd H9 q1 (.lst [V.bl (hostB (tl x)), V.bl (addrB (tl x))])) q2 (.lst [V.bl (hostB (tl x)), V.bl (addrB (tl x))])) upd_same)
          refine .inl ⟨_, _, rfl, f1, f2, f3, f4, f5, rfl, _, rfl, ?_⟩
          rw [show (!decide (V.str (PyData.list [.bool (hostB (tl x)), .bool (addrB (tl x))]).shown = V.str (PyData.list [.bool (hostB (tl x)), .bool (addrB (tl x))]).shown)) = false by simp]
          refine iteF ?_
          have s711 := ((s8.trans s9).trans s10).trans s11
          have sb11 := sb7.same s711
          have D11 := D7.same s711
          have m11 := s711 _ _ m7
          generalize upd (upd H9 q1 (.lst [V.bl (hostB (tl x)), V.bl (addrB (tl x))])) q2 (.lst [V.bl (hostB (tl x)), V.bl (addrB (tl x))]) = H11 at sb11 D11 m11 ⊢
          refine ⟨fun σ' H' => σ' = [some (.ref a0), some (.int (i : Nat)), some (.int z), some (.ref d), some (.int (0 + (j : Nat))), some (.str x), some (.str "b.c"), some (.bl (hostB (tl x))), some (.ref p), some (.bl (addrB (tl x))), v10, v11] ∧ LamInv Tb Hb H' ∧ DrawAt H' d (100000000 - 500 * j - 400), ?_, ?_⟩
          · refine ⟨_, rfl, _, rfl, ?_⟩
            cases hh : hostB (tl x) with
            | false => exact iteF (iteF ⟨rfl, sb11, D11⟩)
            | true =>
              refine iteT ⟨_, rfl, .str x, rfl, .inl ⟨x, rfl, by omega⟩, fun x' ex hb q P H12 s12 eP mq => ?_, host_refuses hh⟩
              cases ex
              have eWP : W = P := TL.map_tl_inj (es.trans eP.symm)
              subst eWP
              refine ⟨_, rfl, p, _, rfl, .inl ⟨SqL.of (s12 _ _ m11), fun l hl => ?_⟩⟩
              refine ⟨_, _, dp_strsT (SqT.of ((Same.new hl) _ _ mq)), dp_strsT (SqT.of upd_same), lay_strsT aW, lay_strsT aW, _, rfl, ?_⟩
              rw [eqv_strsT, decide_eq_true rfl]
              exact iteF ⟨rfl, sb11.same (s12.trans (Same.new hl)), D11.same (s12.trans (Same.new hl))⟩
          · rintro σ' H12 ⟨rfl, sb12, D12⟩
            refine ⟨sb12.2, fun H13 e13 t13 => ?_⟩
            refine tellL1 (fun E H' Q' z => ⟨_, rfl, z⟩) (.inl ⟨x, rfl, by omega⟩) fun r0 H14 s14 u0 => ?_
            have sb14 := (sb12.ext e13 t13).same s14
            have D14 := (DrawAt.ext D12 e13).same s14
            refine ⟨sb14.2, fun H15 e15 t15 => tellL2 (fun E H' Q' z => ⟨_, rfl, z⟩) (by omega) (by decide) fun r1 H16 s16 u1 => ?_⟩
            have sb16 := (sb14.ext e15 t15).same s16
            have D16 := (DrawAt.ext D14 e15).same s16
            refine ⟨by show 2 ≤ sizeLine; decide, fun pt hpt => ?_⟩
            have fp : FreshN Hb pt := FreshN.of sb16.1 hpt
            have npd := D16.ne hpt
            have s17 := Same.new (o := HO.lst [r0, r1]) hpt
            have m17 : (upd H16 pt (.lst [r0, r1])) pt = some (.lst [r0, r1]) := upd_same
            have sb17 := sb16.same s17
            have D17 := D16.same s17
            generalize upd H16 pt (.lst [r0, r1]) = H17 at *
            refine ⟨_, rfl, .inl ⟨rfl, _, SqL.of m17⟩, sb17.2, fun H18 e18 t18 => tellL2 (fun E H' Q' z => ⟨_, rfl, _, rfl, z⟩) (by decide) (by omega) fun r2 H19 s19 u2 => ?_⟩
            have m19 : H19 pt = some (.lst [r0, r1]) := s19 _ _ (e18 _ _ m17 fun ps z => by cases z)
            have sb19 := (sb17.ext e18 t18).same s19
            have D19 := (DrawAt.ext D17 e18).same s19
            refine ⟨pt, _, r2, rfl, rfl, m19, by show 2 < sizeLine; decide, ?_⟩
            have sb20 := sb19.put (ys := [r0, r1, r2]) fp m19
            have D20 := D19.upd (o := HO.lst [r0, r1, r2]) npd.symm
            have m20 : (upd H19 pt (.lst [r0, r1, r2])) pt = some (.lst [r0, r1, r2]) := upd_same
            have s20 : ([r0, r1] : List V) ++ [r2] = [r0, r1, r2] := rfl
            rw [s20]
            generalize upd H19 pt (.lst [r0, r1, r2]) = H20 at *
            refine ⟨fun σ' H' => σ' = [some (.ref a0), some (.int (i : Nat)), some (.int z), some (.ref d), some (.int (0 + (j : Nat))), some (.str x), some (.str "b.c"), some (.bl (hostB (tl x))), some (.ref p), some (.bl (addrB (tl x))), some (.ref pt), v11] ∧ LamInv Tb Hb H' ∧ DrawAt H' d (100000000 - 500 * j - 400), ?_, ?_⟩
            · refine ⟨_, rfl, _, rfl, x, rfl, by omega, ax, fun w0 H21 t21 d0 => ?_⟩
              obtain rfl := u0.uniq (.inl ⟨x, rfl, d0⟩)
              have hr2 : Due02 x r2 := by
                rcases u2 with ⟨q, _⟩ | ⟨_, q⟩
                · rw [bc_yes] at q; cases q
                · exact q
              obtain rfl := hr2.uniq d0
              obtain ⟨e0, sm0, dp0⟩ := due_dp (K := K) d0
              have fin : ∀ (e1 : PyData) (Hx Hy : Hp) (pq : Addr), SmD e1 → (∀ H : Hp, Dp K H r1 e1) → Same H20 Hx → Hx pq = none → Hy = upd Hx pq (.lst [r2, r1, r2]) → ∀ Z : V → Hp → Prop, (Z (.bl false) Hy) → rNeD K (.ref pt) (.ref pq) Hy Z := fun e1 Hx Hy pq sm1 dp1 sx hpq ey Z hz => by
                subst ey
                refine ⟨_, _, .lst (SqL.of ((Same.new hpq) _ _ (sx _ _ m20))) (.cons (dp0 _) (.cons (dp1 _) (.cons (dp0 _) .nil))), .lst (SqL.of upd_same) (.cons (dp0 _) (.cons (dp1 _) (.cons (dp0 _) .nil))), lay_sm3 sm0 sm1 sm0, lay_sm3 sm0 sm1 sm0, ?_⟩
                rw [SeqAt.eqv_refl _ (SeqAt.canLay_of_shaped (lay_sm3 sm0 sm1 sm0))]
                exact hz
              refine ⟨_, rfl, _, rfl, ?_⟩
              cases hh : hostB (tl x) with
              | true =>
                have e1 : r1 = .int 1 := by
                  rcases u1 with ⟨q, _⟩ | ⟨_, q⟩
                  · rw [hh] at q; cases q
                  · rcases q with ⟨q, _⟩ | ⟨_, k, rfl, q⟩
                    · rw [dash_no.1] at q; cases q
                    · rw [q.uniq dash_no.2]; rfl
                subst e1
                refine iteT ⟨_, rfl, x, rfl, by omega, ax, fun w2 H22 t22 d2 => ?_⟩
                obtain rfl := d0.uniq d2
                refine ⟨by show 3 ≤ sizeLine; decide, fun pq hpq => fin (.int 1) _ _ pq (.inr ⟨_, rfl⟩) (fun _ => .int _) (t21.trans t22) hpq rfl _ ⟨_, rfl, iteF ?_⟩⟩
                exact ⟨rfl, sb20.same ((t21.trans t22).trans (Same.new hpq)), D20.same ((t21.trans t22).trans (Same.new hpq))⟩
              | false =>
                have d1 : Due02 x r1 := by
                  rcases u1 with ⟨_, q⟩ | ⟨q, _⟩
                  · exact q
                  · rw [hh] at q; cases q
                refine iteF ⟨_, rfl, x, rfl, by omega, ax, fun w1 H22 t22 d1' => ?_⟩
                obtain rfl := d1.uniq d1'
                refine ⟨_, rfl, x, rfl, by omega, ax, fun w2 H23 t23 d2 => ?_⟩
                obtain rfl := d0.uniq d2
                obtain ⟨e1, sm1, dp1⟩ := due_dp (K := K) d1
                refine ⟨by show 3 ≤ sizeLine; decide, fun pq hpq => fin e1 _ _ pq sm1 dp1 ((t21.trans t22).trans t23) hpq rfl _ ⟨_, rfl, iteF ?_⟩⟩
                exact ⟨rfl, sb20.same (((t21.trans t22).trans t23).trans (Same.new hpq)), D20.same (((t21.trans t22).trans t23).trans (Same.new hpq))⟩
            · rintro σ' H21 ⟨rfl, sb21, D21⟩
              refine ⟨fun σ' H' => σ' = [some (.ref a0), some (.int (i : Nat)), some (.int z), some (.ref d), some (.int (0 + (j : Nat))), some (.str x), some (.str "b.c"), some (.bl (hostB (tl x))), some (.ref p), some (.bl (addrB (tl x))), some (.ref pt), v11] ∧ LamInv Tb Hb H' ∧ DrawAt H' d (100000000 - 500 * j - 400), ?_, ?_⟩
              · refine ⟨_, rfl, _, rfl, ?_⟩
                cases hh : hostB (tl x) with
                | false => exact iteF (iteF ⟨rfl, sb21, D21⟩)
                | true =>
                  refine iteT ⟨_, rfl, _, rfl, .str x, .str x, rfl, .inl ⟨x, rfl, by omega⟩, .inl ⟨x, rfl, by omega⟩, fun a b ea eb ha hb H22 s22 => ?_, host_refuses hh, fun _ => host_refuses hh⟩
                  cases ea; cases eb
                  refine ⟨_, _, rfl, rfl, _, rfl, ?_⟩
                  rw [fit_self02]
                  exact iteF ⟨rfl, sb21.same s22, D21.same s22⟩
              · rintro σ' H22 ⟨rfl, sb22, D22⟩
                have lx2 : (("x." : Str) ++ x).length ≤ 303 := by rw [Str.length_append, show ("x." : Str).length = 2 by decide +kernel]; omega
                have ax2 : ascii (("x." : Str) ++ x) := (ascii_lit (by decide +kernel)).app ax
                have szc : ("x." : Str).length + x.length ≤ sizeLine := by rw [← Str.length_append]; exact Nat.le_trans (by omega : _ ≤ 1000) (by decide)
                refine ⟨_, rfl, _, rfl, ?_⟩
                cases hh : hostB (tl x) with
                | false => exact iteF (iteF ⟨_, _, _, _, _, _, _, _, rfl, sb22, D22.less (by omega)⟩)
                | true =>
                  refine iteT ⟨_, rfl, _, _, rfl, rfl, szc, _, rfl, ⟨by omega, ax2⟩, fun H23 s23 => ⟨_, rfl, ?_⟩⟩
                  cases h2 : hostB (tl (("x." : Str) ++ x)) with
                  | false => exact iteF (iteF ⟨_, _, _, _, _, _, _, _, rfl, sb22.same s23, (D22.same s23).less (by omega)⟩)
                  | true =>
                    refine iteT ⟨_, rfl, _, _, rfl, rfl, szc, _, rfl, .str _, .str x, rfl, .inl ⟨_, rfl, by omega⟩, .inl ⟨x, rfl, by omega⟩, fun a b ea eb ha hb H24 s24 => ?_, host_refuses h2, fun _ => host_refuses hh⟩
                    cases ea; cases eb
                    refine ⟨_, _, rfl, rfl, _, rfl, ?_⟩
                    rw [tl_append, tl_xdot] at h2 ⊢
                    rw [fit_more h2]
                    exact iteF ⟨_, _, _, _, _, _, _, _, rfl, sb22.same (s23.trans s24), (D22.same (s23.trans s24)).less (by omega)⟩
      · rintro σ H3 ⟨v4, v5, v6, v7, v8, v9, v10, v11, rfl, sb3, D3⟩
        refine ⟨by show 0 ≤ sizeLine; decide, fun q1 hq1 => ?_⟩
        refine ⟨by show 1 ≤ sizeLine; decide, fun q2 hq2 => ?_⟩
        refine fun q3 hq3 => ?_
        refine ⟨_, _, rfl, rfl, by decide, by decide, by decide +kernel, fun y hy => ?_⟩
        refine ⟨by show 10 ≤ sizeLine; decide, fun q4 hq4 => ?_⟩
        have n1 := Same.new (o := HO.tup []) hq1
        have n2 := Same.new (o := HO.lst [V.str ("a" : Str)]) hq2
        have n3 := Same.new (o := HO.dK []) hq3
        have n4 := Same.new (o := HO.lst [V.non, V.int 5, V.ref q1, V.ref q2, V.ref q3, V.bl true, V.str "", V.str ".", V.str "-", V.str y]) hq4
        have a1 := n4 _ _ (n3 _ _ (n2 _ _ (upd_same (H := H3) (a := q1) (o := HO.tup []))))
        have a2 := n4 _ _ (n3 _ _ (upd_same (a := q2) (o := HO.lst [V.str ("a" : Str)])))
        have a3 := n4 _ _ (upd_same (a := q3) (o := HO.dK []))
        have s34 := ((n1.trans n2).trans n3).trans n4
        have f1 := D3.ne hq1
        have f2 := (D3.same n1).ne hq2
        have f3 := (D3.same (n1.trans n2)).ne hq3
        have f4 := (D3.same ((n1.trans n2).trans n3)).ne hq4
        have ly : y.length ≤ 1000 := by rw [len_tl, hy, PyProof.Rows.lm_len_rep_flat, show (tl ("a" : Str)).length = 1 by decide +kernel]; decide
        have hyn : hostB (tl y) = false := by rw [hy]; decide +kernel
        have a4 : (upd (upd (upd (upd H3 q1 (.tup [])) q2 (.lst [V.str ("a" : Str)])) q3 (.dK [])) q4 (.lst [V.non, V.int 5, V.ref q1, V.ref q2, V.ref q3, V.bl true, V.str "", V.str ".", V.str "-", V.str y])) q4 = some (.lst [V.non, V.int 5, V.ref q1, V.ref q2, V.ref q3, V.bl true, V.str "", V.str ".", V.str "-", V.str y]) := upd_same
        generalize (upd (upd (upd (upd H3 q1 (.tup [])) q2 (.lst [V.str ("a" : Str)])) q3 (.dK [])) q4 (.lst [V.non, V.int 5, V.ref q1, V.ref q2, V.ref q3, V.bl true, V.str "", V.str ".", V.str "-", V.str y])) = H4 at *
        refine ⟨_, rfl, d, 10, 1000, rfl, by decide, by decide, (D3.same s34).less (by decide), fun r H5 h05 h15 k5 D5 => ?_⟩
        obtain ⟨v, hv, ha⟩ := menu (xs := [V.non, V.int 5, V.ref q1, V.ref q2, V.ref q3, V.bl true, V.str "", V.str ".", V.str "-", V.str y]) (i := r) h05 (by show r < 10; omega)
        refine ⟨q4, _, _, _, rfl, rfl, SqL.of (k5 _ _ a4 f4), ha, ?_⟩
        have sb5 := (sb3.same s34).keep k5 fd (D3.same s34)
        have odd : OddV K H5 v := by
          simp only [List.mem_cons, List.not_mem_nil, or_false] at hv
          rcases hv with rfl | rfl | rfl | rfl | rfl | rfl | rfl | rfl | rfl | rfl
          · exact .ty (.base .non) (kit_ty (by decide +kernel))
          · exact .ty (.base (.int 5)) (kit_ty (by decide +kernel))
          · exact .ty (.base (.tup (k5 _ _ a1 f1))) (kit_ty (by decide +kernel))
          · exact .ty (.base (.lst (k5 _ _ a2 f2))) (kit_ty (by decide +kernel))
          · exact .ty (.base (.dK (k5 _ _ a3 f3))) (kit_ty (by decide +kernel))
          · exact .ty (.base (.bl true)) (kit_ty (by decide +kernel))
          · exact .str (by decide +kernel) (by decide +kernel)
          · exact .str (by decide +kernel) (by decide +kernel)
          · exact .str (by decide +kernel) (by decide +kernel)
          · exact .str ly hyn
        have av : ∀ x : Str, v = .str x → x.length ≤ 900 ∧ ascii x := by
          intro x ex
          subst ex
          simp only [List.mem_cons, List.not_mem_nil, or_false, V.str.injEq, reduceCtorEq, false_or] at hv
          rcases hv with rfl | rfl | rfl | rfl
          · exact ⟨by decide +kernel, ascii_lit (by decide +kernel)⟩
          · exact ⟨by decide +kernel, ascii_lit (by decide +kernel)⟩
          · exact ⟨by decide +kernel, ascii_lit (by decide +kernel)⟩
          · exact ⟨by rw [len_tl, hy, PyProof.Rows.lm_len_rep_flat, show (tl ("a" : Str)).length = 1 by decide +kernel]; decide, ascii.rep (ascii_lit (by decide +kernel)) hy⟩
        refine ⟨fun σ' H' => ∃ (r : V) (w4 w5 w6 w8 w9 w10 : Option V), σ' = [some (.ref a0), some (.int (i : Nat)), some (.int z), some (.ref d), w4, w5, w6, some r, w8, w9, w10, some v] ∧ DueV v r ∧ OddV K H' v ∧ LamInv Tb Hb H', ?_, ?_⟩
        · rcases odd.t with ⟨x, rfl, hx⟩ | ⟨t, ht, hk⟩
          · refine ⟨_, rfl, _, _, _, _, true, rfl, .ty _, .base (.str x), kit_str K, _, rfl, iteT ?_⟩
            obtain ⟨lx, ax⟩ := av x rfl
            refine ⟨_, rfl, x, rfl, lx, ax, fun r H6 s6 u => ⟨r, _, _, _, _, _, _, rfl, .inl ⟨x, rfl, u⟩, odd.same s6, sb5.same s6⟩⟩
          · refine ⟨_, rfl, _, _, _, _, false, rfl, .ty _, ht, hk, _, rfl, iteF ?_⟩
            exact ⟨_, _, _, _, _, _, _, rfl, .inr ⟨ty_nostr ht hk, rfl⟩, odd, sb5⟩
        · rintro σ' H6 ⟨r, w4, w5, w6, w8, w9, w10, rfl, ur, o6, sb6⟩
          refine ⟨_, rfl, v, false, rfl, o6.h, fun H7 s7 => ⟨_, rfl, v, false, rfl, (o6.same s7).a, fun H8 s8 => ⟨by show 2 ≤ sizeLine; decide, fun p1 hp1 => ?_⟩⟩⟩
          have s9 := Same.new (o := HO.lst [V.bl false, V.bl false]) hp1
          obtain ⟨g1, g2, g3, g4, g5⟩ := repr_bb (K := K) (SqL.of (H := upd H8 p1 (.lst [V.bl false, V.bl false])) upd_same)
          refine .inl ⟨_, _, rfl, g1, g2, g3, g4, g5, ?_⟩
          refine ⟨by show 1 ≤ sizeLine; decide, fun p2 hp2 => ?_⟩
          have s10 := Same.new (o := HO.lst [V.bl false]) hp2
          refine ⟨_, _, _, rfl, rfl, upd_same, by decide, by decide, by show 1 * 2 ≤ sizeLine; decide, fun p3 hp3 => ?_⟩
          have s11 := Same.new (o := HO.lst (List.replicate (2 : Int).toNat [V.bl false]).flatten) hp3
          obtain ⟨e1, e2, e3, e4, e5⟩ := repr_bb (K := K) (SqL.of (H := upd (upd (upd H8 p1 (.lst [V.bl false, V.bl false])) p2 (.lst [V.bl false])) p3 (.lst (List.replicate (2 : Int).toNat [V.bl false]).flatten)) upd_same)
          refine .inl ⟨_, _, rfl, e1, e2, e3, e4, e5, rfl, _, rfl, ?_⟩
          rw [show (!decide (V.str (PyData.list [.bool false, .bool false]).shown = V.str (PyData.list [.bool false, .bool false]).shown)) = false by simp]
          have s611 := ((((s7.trans s8).trans s9).trans s10).trans s11)
          have sb11 := sb6.same s611
          refine iteF ⟨sb11.2, fun H12 e12 t12 => tellL1 (fun E H' Q' z => ⟨_, rfl, z⟩) ?_ fun r2 H13 s13 u2 => ?_⟩
          · exact (o6.same s611).t.ext e12
          · obtain rfl := u2.uniq ur
            refine ⟨_, rfl, ?_, _, rfl, ?_⟩
            · rcases ur with ⟨x, _, ⟨_, rfl⟩ | ⟨_, k, rfl, _⟩⟩ | ⟨_, rfl⟩ <;> rfl
            · rw [show (!decide (r2 = r2)) = false by simp]
              exact iteF ⟨_, _, _, _, _, _, _, _, _, _, _, rfl, (sb11.ext e12 t12).same s13⟩
    · rintro σ H3 ⟨_, _, _, _, _, _, _, _, _, _, _, rfl, _⟩
      exact hQ _
end
theorem bd_has_only : ∀ (kV doc pm : Value) (an : Option Addr) (cdv ct : Value) (us : List Value), us.length = (["text", "signs"] : List Str).length → bindArgs (PySem.W.fnOf "has_only" "has_only" (defArgs s_has_only) (defBody s_has_only) (defScope s_has_only) .none kV doc pm an cdv ct) ⟨us, []⟩ = pure ((["text", "signs"] : List Str).zip us) :=
  fun _ _ _ _ _ _ us hl => match us, hl with | [_, _], _ => rfl
theorem bd_is_digits : ∀ (kV doc pm : Value) (an : Option Addr) (cdv ct : Value) (us : List Value), us.length = (["text"] : List Str).length → bindArgs (PySem.W.fnOf "is_digits" "is_digits" (defArgs s_is_digits) (defBody s_is_digits) (defScope s_is_digits) .none kV doc pm an cdv ct) ⟨us, []⟩ = pure ((["text"] : List Str).zip us) :=
  fun _ _ _ _ _ _ us hl => match us, hl with | [_], _ => rfl
theorem bd__is_label : ∀ (kV doc pm : Value) (an : Option Addr) (cdv ct : Value) (us : List Value), us.length = (["text"] : List Str).length → bindArgs (PySem.W.fnOf "_is_label" "_is_label" (defArgs s__is_label) (defBody s__is_label) (defScope s__is_label) .none kV doc pm an cdv ct) ⟨us, []⟩ = pure ((["text"] : List Str).zip us) :=
  fun _ _ _ _ _ _ us hl => match us, hl with | [_], _ => rfl
theorem bd_are_labels : ∀ (kV doc pm : Value) (an : Option Addr) (cdv ct : Value) (us : List Value), us.length = (["texts"] : List Str).length → bindArgs (PySem.W.fnOf "are_labels" "are_labels" (defArgs s_are_labels) (defBody s_are_labels) (defScope s_are_labels) .none kV doc pm an cdv ct) ⟨us, []⟩ = pure ((["texts"] : List Str).zip us) :=
  fun _ _ _ _ _ _ us hl => match us, hl with | [_], _ => rfl
theorem bd__is_number : ∀ (kV doc pm : Value) (an : Option Addr) (cdv ct : Value) (us : List Value), us.length = (["label"] : List Str).length → bindArgs (PySem.W.fnOf "_is_number" "_is_number" (defArgs s__is_number) (defBody s__is_number) (defScope s__is_number) .none kV doc pm an cdv ct) ⟨us, []⟩ = pure ((["label"] : List Str).zip us) :=
  fun _ _ _ _ _ _ us hl => match us, hl with | [_], _ => rfl
theorem bd__are_four_numbers : ∀ (kV doc pm : Value) (an : Option Addr) (cdv ct : Value) (us : List Value), us.length = (["labels"] : List Str).length → bindArgs (PySem.W.fnOf "_are_four_numbers" "_are_four_numbers" (defArgs s__are_four_numbers) (defBody s__are_four_numbers) (defScope s__are_four_numbers) .none kV doc pm an cdv ct) ⟨us, []⟩ = pure ((["labels"] : List Str).zip us) :=
  fun _ _ _ _ _ _ us hl => match us, hl with | [_], _ => rfl
theorem bd_is_host : ∀ (kV doc pm : Value) (an : Option Addr) (cdv ct : Value) (us : List Value), us.length = (["value"] : List Str).length → bindArgs (PySem.W.fnOf "is_host" "is_host" (defArgs s_is_host) (defBody s_is_host) (defScope s_is_host) .none kV doc pm an cdv ct) ⟨us, []⟩ = pure ((["value"] : List Str).zip us) :=
  fun _ _ _ _ _ _ us hl => match us, hl with | [_], _ => rfl
theorem bd_is_address_host : ∀ (kV doc pm : Value) (an : Option Addr) (cdv ct : Value) (us : List Value), us.length = (["value"] : List Str).length → bindArgs (PySem.W.fnOf "is_address_host" "is_address_host" (defArgs s_is_address_host) (defBody s_is_address_host) (defScope s_is_address_host) .none kV doc pm an cdv ct) ⟨us, []⟩ = pure ((["value"] : List Str).zip us) :=
  fun _ _ _ _ _ _ us hl => match us, hl with | [_], _ => rfl
theorem bd__begins_host : ∀ (kV doc pm : Value) (an : Option Addr) (cdv ct : Value) (us : List Value), us.length = (["text"] : List Str).length → bindArgs (PySem.W.fnOf "_begins_host" "_begins_host" (defArgs s__begins_host) (defBody s__begins_host) (defScope s__begins_host) .none kV doc pm an cdv ct) ⟨us, []⟩ = pure ((["text"] : List Str).zip us) :=
  fun _ _ _ _ _ _ us hl => match us, hl with | [_], _ => rfl
theorem bd__place : ∀ (kV doc pm : Value) (an : Option Addr) (cdv ct : Value) (us : List Value), us.length = (["text"] : List Str).length → bindArgs (PySem.W.fnOf "_place" "_place" (defArgs s__place) (defBody s__place) (defScope s__place) .none kV doc pm an cdv ct) ⟨us, []⟩ = pure ((["text"] : List Str).zip us) :=
  fun _ _ _ _ _ _ us hl => match us, hl with | [_], _ => rfl
theorem bd_need_host : ∀ (kV doc pm : Value) (an : Option Addr) (cdv ct : Value) (us : List Value), us.length = (["host"] : List Str).length → bindArgs (PySem.W.fnOf "need_host" "need_host" (defArgs s_need_host) (defBody s_need_host) (defScope s_need_host) .none kV doc pm an cdv ct) ⟨us, []⟩ = pure ((["host"] : List Str).zip us) :=
  fun _ _ _ _ _ _ us hl => match us, hl with | [_], _ => rfl
theorem bd_labels_of : ∀ (kV doc pm : Value) (an : Option Addr) (cdv ct : Value) (us : List Value), us.length = (["host"] : List Str).length → bindArgs (PySem.W.fnOf "labels_of" "labels_of" (defArgs s_labels_of) (defBody s_labels_of) (defScope s_labels_of) .none kV doc pm an cdv ct) ⟨us, []⟩ = pure ((["host"] : List Str).zip us) :=
  fun _ _ _ _ _ _ us hl => match us, hl with | [_], _ => rfl
theorem bd_host_fits : ∀ (kV doc pm : Value) (an : Option Addr) (cdv ct : Value) (us : List Value), us.length = (["host", "domain"] : List Str).length → bindArgs (PySem.W.fnOf "host_fits" "host_fits" (defArgs s_host_fits) (defBody s_host_fits) (defScope s_host_fits) .none kV doc pm an cdv ct) ⟨us, []⟩ = pure ((["host", "domain"] : List Str).zip us) :=
  fun _ _ _ _ _ _ us hl => match us, hl with | [_, _], _ => rfl
theorem bd__law_draw : ∀ (kV doc pm : Value) (an : Option Addr) (cdv ct : Value) (us : List Value), us.length = (["cell", "k"] : List Str).length → bindArgs (PySem.W.fnOf "_law_draw" "_law_draw" (defArgs s__law_draw) (defBody s__law_draw) (defScope s__law_draw) .none kV doc pm an cdv ct) ⟨us, []⟩ = pure ((["cell", "k"] : List Str).zip us) :=
  fun _ _ _ _ _ _ us hl => match us, hl with | [_, _], _ => rfl
theorem bd__law_mixed : ∀ (kV doc pm : Value) (an : Option Addr) (cdv ct : Value) (us : List Value), us.length = (["cell", "k"] : List Str).length → bindArgs (PySem.W.fnOf "_law_mixed" "_law_mixed" (defArgs s__law_mixed) (defBody s__law_mixed) (defScope s__law_mixed) .none kV doc pm an cdv ct) ⟨us, []⟩ = pure ((["cell", "k"] : List Str).zip us) :=
  fun _ _ _ _ _ _ us hl => match us, hl with | [_, _], _ => rfl
theorem bd__law_digit : ∀ (kV doc pm : Value) (an : Option Addr) (cdv ct : Value) (us : List Value), us.length = (["draw", "span"] : List Str).length → bindArgs (PySem.W.fnOf "_law_digit" "_law_digit" (defArgs s__law_digit) (defBody s__law_digit) (defScope s__law_digit) .none kV doc pm an cdv ct) ⟨us, []⟩ = pure ((["draw", "span"] : List Str).zip us) :=
  fun _ _ _ _ _ _ us hl => match us, hl with | [_, _], _ => rfl
theorem bd__law_is_label : ∀ (kV doc pm : Value) (an : Option Addr) (cdv ct : Value) (us : List Value), us.length = (["text"] : List Str).length → bindArgs (PySem.W.fnOf "_law_is_label" "_law_is_label" (defArgs s__law_is_label) (defBody s__law_is_label) (defScope s__law_is_label) .none kV doc pm an cdv ct) ⟨us, []⟩ = pure ((["text"] : List Str).zip us) :=
  fun _ _ _ _ _ _ us hl => match us, hl with | [_], _ => rfl
theorem bd__law_is_numeric : ∀ (kV doc pm : Value) (an : Option Addr) (cdv ct : Value) (us : List Value), us.length = (["text"] : List Str).length → bindArgs (PySem.W.fnOf "_law_is_numeric" "_law_is_numeric" (defArgs s__law_is_numeric) (defBody s__law_is_numeric) (defScope s__law_is_numeric) .none kV doc pm an cdv ct) ⟨us, []⟩ = pure ((["text"] : List Str).zip us) :=
  fun _ _ _ _ _ _ us hl => match us, hl with | [_], _ => rfl
theorem bd__law_is_host : ∀ (kV doc pm : Value) (an : Option Addr) (cdv ct : Value) (us : List Value), us.length = (["text"] : List Str).length → bindArgs (PySem.W.fnOf "_law_is_host" "_law_is_host" (defArgs s__law_is_host) (defBody s__law_is_host) (defScope s__law_is_host) .none kV doc pm an cdv ct) ⟨us, []⟩ = pure ((["text"] : List Str).zip us) :=
  fun _ _ _ _ _ _ us hl => match us, hl with | [_], _ => rfl
theorem bd__law_label : ∀ (kV doc pm : Value) (an : Option Addr) (cdv ct : Value) (us : List Value), us.length = (["draw"] : List Str).length → bindArgs (PySem.W.fnOf "_law_label" "_law_label" (defArgs s__law_label) (defBody s__law_label) (defScope s__law_label) .none kV doc pm an cdv ct) ⟨us, []⟩ = pure ((["draw"] : List Str).zip us) :=
  fun _ _ _ _ _ _ us hl => match us, hl with | [_], _ => rfl
theorem bd__law_text : ∀ (kV doc pm : Value) (an : Option Addr) (cdv ct : Value) (us : List Value), us.length = (["draw"] : List Str).length → bindArgs (PySem.W.fnOf "_law_text" "_law_text" (defArgs s__law_text) (defBody s__law_text) (defScope s__law_text) .none kV doc pm an cdv ct) ⟨us, []⟩ = pure ((["draw"] : List Str).zip us) :=
  fun _ _ _ _ _ _ us hl => match us, hl with | [_], _ => rfl
theorem bd__law_due : ∀ (kV doc pm : Value) (an : Option Addr) (cdv ct : Value) (us : List Value), us.length = (["text"] : List Str).length → bindArgs (PySem.W.fnOf "_law_due" "_law_due" (defArgs s__law_due) (defBody s__law_due) (defScope s__law_due) .none kV doc pm an cdv ct) ⟨us, []⟩ = pure ((["text"] : List Str).zip us) :=
  fun _ _ _ _ _ _ us hl => match us, hl with | [_], _ => rfl
theorem bd__law_place : ∀ (kV doc pm : Value) (an : Option Addr) (cdv ct : Value) (us : List Value), us.length = (["call"] : List Str).length → bindArgs (PySem.W.fnOf "_law_place" "_law_place" (defArgs s__law_place) (defBody s__law_place) (defScope s__law_place) .none kV doc pm an cdv ct) ⟨us, []⟩ = pure ((["call"] : List Str).zip us) :=
  fun _ _ _ _ _ _ us hl => match us, hl with | [_], _ => rfl
theorem bd_law : ∀ (kV doc pm : Value) (an : Option Addr) (cdv ct : Value) (us : List Value), us.length = (["script"] : List Str).length → bindArgs (PySem.W.fnOf "law" "law" (defArgs s_law) (defBody s_law) (defScope s_law) .none kV doc pm an cdv ct) ⟨us, []⟩ = pure ((["script"] : List Str).zip us) :=
  fun _ _ _ _ _ _ us hl => match us, hl with | [_], _ => rfl
theorem fin_mk {l : PySem.W.OpenLaw} {w : World} {K : PySem.W.Frag} {mg : Str → Option Value} {fa c Tb : Addr} (hfa : mg "law" = some (.ref fa)) (D : DfC K mg "law" s_law ["script"] c Tb) (nT : K.lookup Tb = none) (T : Txt K mg) :
    ∃ (fd : FuncData) (c Tb : Addr), PySem.W.tabIn K "law" = some (c, Tb) ∧ K.lookup Tb = none ∧ (∀ (s : Shared) (v : Value), BindsTo s fd ⟨[v], []⟩ [("script", v)]) ∧ ∀ base : Heap, K.In base → base.Ns PySem.mainGlobals mg → LamX.TabB base mg c Tb → FnG l.prog w K mg base CX0 12 fa fd ["script"] (sp_law K Tb) := by
  obtain ⟨f, fd, F, hc, m, tb, b⟩ := D
  cases hfa.symm.trans m
  exact ⟨fd, c, Tb, tb, nT, fun s v => .of_eq (b [v] rfl), fun base _ _ TB => ok_law F hc TB T⟩
theorem walk {l : PySem.W.OpenLaw} {q : Program} {loose : List Str} {XP : (Str → Option Value) → Heap → Prop} {YP : World → Heap → Prop} {d : DefRec} {K : Params → PySem.W.Frag} (hn : l.most = some 63) (hdf : d.params.defaults = []) (hrec : (recsOf q).find? (fun e => e.name == d.name) = some d)
    (hY : ∀ (w : World) (h : Heap), YP w h → (K w.params).In h)
    (F : ∀ (w : World) (mg : Str → Option Value) (fa : Addr) (h : Heap), (K w.params).In h → h.Ns PySem.mainGlobals mg → mg d.name = some (.ref fa) →
      ∃ (fd : FuncData) (c Tb : Addr), PySem.W.tabIn (K w.params) d.name = some (c, Tb) ∧ (K w.params).lookup Tb = none ∧ (∀ (s : Shared) (u : Value), BindsTo s fd ⟨[u], []⟩ [("script", u)]) ∧ ∀ base : Heap, (K w.params).In base → base.Ns PySem.mainGlobals mg → LamX.TabB base mg c Tb → FnG l.prog w (K w.params) mg base CX0 12 fa fd ["script"] (sp_law (K w.params) Tb)) :
    PySem.W.WalkO q loose XP YP l.row.toRowW d [] (fun f vs => PySem.call f vs) :=
  Kb.walkGT (n := 63) (k := 12) (x := "script") (CX := fun _ => CX0) (sp := fun w Tb => sp_law (K w.params) Tb) hn (by decide) hdf ⟨rfl, by decide, by decide⟩ hY hrec F (fun _ _ a Tb ns hl hT hS => ⟨a, ns, rfl, hS, hl, LamX.TabS.nil hT, fun _ => rfl⟩) fun _ _ _ _ _ z => z
end Pf
open PySem PySem.W PyProof.Rows
set_option maxRecDepth 100000 in
set_option maxHeartbeats 0 in
theorem PySem.Challenge.cw_crumbjar_k02_hosts_told_holds : PySem.Challenge.rw_crumbjar_k02_hosts_told.Holds := by
  w_on; o_law; k_head; (case hw => w_witness2)
  k_fill
  refine Pf.walk (l := PySem.Challenge.rw_crumbjar_k02_hosts_told) rfl rfl (by rfl) (fun w h Y => PySem.W.km_in_of Y) ?F
  case F =>
    intro w mg fa h KX G hmg
    refine' Pf.fin_mk hmg (Kb.DfC.mk KX G Pf.bd_law ?a23 ?l23 ?c23 ?k23 ?lcT ?h11T) ?nTT ⟨(PySem.W.mg_none_of KX G ?z0),
      (PySem.W.mg_none_of KX G ?z1),
      (PySem.W.mg_none_of KX G ?z2),
      (PySem.W.mg_none_of KX G ?z3),
      (PySem.W.mg_none_of KX G ?z4),
      (PySem.W.mg_none_of KX G ?z5),
      (PySem.W.mg_none_of KX G ?z6),
      (PySem.W.mg_none_of KX G ?z7),
      (PySem.W.mg_none_of KX G ?z8),
      ⟨_, PySem.W.mg_of KX G ?x0, ?r0⟩,
      ⟨_, PySem.W.mg_of KX G ?x1, ?r1⟩,
      ⟨_, PySem.W.mg_of KX G ?x2, ?r2⟩,
      ⟨_, PySem.W.mg_of KX G ?x3, ?r3⟩,
      ⟨_, PySem.W.mg_of KX G ?x4, ?r4⟩,
      ⟨_, PySem.W.mg_of KX G ?x5, ?r5⟩,
      ⟨_, PySem.W.mg_of KX G ?x6, Kb.sqT_of_lookup ?y6 ?u6 ?v6⟩,
      ⟨_, Kb.Err.mk' KX G Pf.bi_BadHost (fun P w base F => Pf.oki_BadHost P w base F) ?aC0E ?xL0E ?rv0E ?sa0E ?ga0E ?gg0E ?nb0E ?a10E ?t10E ?l10E ?c10E ?k10E ?kC0E ?eC0E ?tC0E ?hC0E ?iC0E ?sC0E⟩,
      (Kb.Df.mk KX G Pf.bd_has_only ?a0 ?l0 ?c0 ?k0),
      (Kb.Df.mk KX G Pf.bd_is_digits ?a1 ?l1 ?c1 ?k1),
      (Kb.Df.mk KX G Pf.bd__is_label ?a2 ?l2 ?c2 ?k2),
      (Kb.Df.mk KX G Pf.bd_are_labels ?a3 ?l3 ?c3 ?k3),
      (Kb.Df.mk KX G Pf.bd__is_number ?a4 ?l4 ?c4 ?k4),
      (Kb.Df.mk KX G Pf.bd__are_four_numbers ?a5 ?l5 ?c5 ?k5),
      (Kb.Df.mk KX G Pf.bd_is_host ?a6 ?l6 ?c6 ?k6),
      (Kb.Df.mk KX G Pf.bd_is_address_host ?a7 ?l7 ?c7 ?k7),
      (Kb.Df.mk KX G Pf.bd__begins_host ?a8 ?l8 ?c8 ?k8),
      (Kb.Df.mk KX G Pf.bd__place ?a9 ?l9 ?c9 ?k9),
      (Kb.Df.mk KX G Pf.bd_need_host ?a10 ?l10 ?c10 ?k10),
      (Kb.Df.mk KX G Pf.bd_labels_of ?a11 ?l11 ?c11 ?k11),
      (Kb.Df.mk KX G Pf.bd_host_fits ?a12 ?l12 ?c12 ?k12),
      (Kb.Df.mk KX G Pf.bd__law_draw ?a13 ?l13 ?c13 ?k13),
      (Kb.Df.mk KX G Pf.bd__law_mixed ?a14 ?l14 ?c14 ?k14),
      (Kb.Df.mk KX G Pf.bd__law_digit ?a15 ?l15 ?c15 ?k15),
      (Kb.Df.mk KX G Pf.bd__law_is_label ?a16 ?l16 ?c16 ?k16),
      (Kb.Df.mk KX G Pf.bd__law_is_numeric ?a17 ?l17 ?c17 ?k17),
      (Kb.Df.mk KX G Pf.bd__law_is_host ?a18 ?l18 ?c18 ?k18),
      (Kb.Df.mk KX G Pf.bd__law_label ?a19 ?l19 ?c19 ?k19),
      (Kb.Df.mk KX G Pf.bd__law_text ?a20 ?l20 ?c20 ?k20),
      (Kb.Df.mk KX G Pf.bd__law_due ?a21 ?l21 ?c21 ?k21),
      (Kb.Df.mk KX G Pf.bd__law_place ?a22 ?l22 ?c22 ?k22)⟩
    (case z0 => k_is)
    (case z1 => k_is)
    (case z2 => k_is)
    (case z3 => k_is)
    (case z4 => k_is)
    (case z5 => k_is)
    (case z6 => k_is)
    (case z7 => k_is)
    (case z8 => k_is)
    (case x0 => k_is)
    (case r0 => first | exact ⟨_, rfl⟩ | rfl)
    (case x1 => k_is)
    (case r1 => first | exact ⟨_, rfl⟩ | rfl)
    (case x2 => k_is)
    (case r2 => first | exact ⟨_, rfl⟩ | rfl)
    (case x3 => k_is)
    (case r3 => first | exact ⟨_, rfl⟩ | rfl)
    (case x4 => k_is)
    (case r4 => first | exact ⟨_, rfl⟩ | rfl)
    (case x5 => k_is)
    (case r5 => first | exact ⟨_, rfl⟩ | rfl)
    (case x6 => k_is)
    (case y6 => k_is)
    (case u6 => show _ ≤ _; decide)
    (case v6 => exact .cons ⟨_, rfl⟩ (.cons ⟨_, rfl⟩ (.cons ⟨_, rfl⟩ (.nil))))
    (case aC0E => k_is)
    (case xL0E => k_is)
    (case rv0E => first | decide +kernel | rfl)
    (case sa0E => k_is)
    (case ga0E => k_is)
    (case gg0E => k_is)
    (case nb0E => k_is)
    (case a10E => k_is)
    (case t10E => k_is)
    (case l10E => k_is)
    (case c10E => k_is)
    (case k10E => k_is)
    (case kC0E => k_is)
    (case eC0E => k_is)
    (case tC0E => k_is)
    (case hC0E => k_is)
    (case iC0E => k_is)
    (case sC0E => first | rfl | k_is)
    (case a0 => k_is)
    (case l0 => k_is)
    (case c0 => k_is)
    (case k0 => k_is)
    (case a1 => k_is)
    (case l1 => k_is)
    (case c1 => k_is)
    (case k1 => k_is)
    (case a2 => k_is)
    (case l2 => k_is)
    (case c2 => k_is)
    (case k2 => k_is)
    (case a3 => k_is)
    (case l3 => k_is)
    (case c3 => k_is)
    (case k3 => k_is)
    (case a4 => k_is)
    (case l4 => k_is)
    (case c4 => k_is)
    (case k4 => k_is)
    (case a5 => k_is)
    (case l5 => k_is)
    (case c5 => k_is)
    (case k5 => k_is)
    (case a6 => k_is)
    (case l6 => k_is)
    (case c6 => k_is)
    (case k6 => k_is)
    (case a7 => k_is)
    (case l7 => k_is)
    (case c7 => k_is)
    (case k7 => k_is)
    (case a8 => k_is)
    (case l8 => k_is)
    (case c8 => k_is)
    (case k8 => k_is)
    (case a9 => k_is)
    (case l9 => k_is)
    (case c9 => k_is)
    (case k9 => k_is)
    (case a10 => k_is)
    (case l10 => k_is)
    (case c10 => k_is)
    (case k10 => k_is)
    (case a11 => k_is)
    (case l11 => k_is)
    (case c11 => k_is)
    (case k11 => k_is)
    (case a12 => k_is)
    (case l12 => k_is)
    (case c12 => k_is)
    (case k12 => k_is)
    (case a13 => k_is)
    (case l13 => k_is)
    (case c13 => k_is)
    (case k13 => k_is)
    (case a14 => k_is)
    (case l14 => k_is)
    (case c14 => k_is)
    (case k14 => k_is)
    (case a15 => k_is)
    (case l15 => k_is)
    (case c15 => k_is)
    (case k15 => k_is)
    (case a16 => k_is)
    (case l16 => k_is)
    (case c16 => k_is)
    (case k16 => k_is)
    (case a17 => k_is)
    (case l17 => k_is)
    (case c17 => k_is)
    (case k17 => k_is)
    (case a18 => k_is)
    (case l18 => k_is)
    (case c18 => k_is)
    (case k18 => k_is)
    (case a19 => k_is)
    (case l19 => k_is)
    (case c19 => k_is)
    (case k19 => k_is)
    (case a20 => k_is)
    (case l20 => k_is)
    (case c20 => k_is)
    (case k20 => k_is)
    (case a21 => k_is)
    (case l21 => k_is)
    (case c21 => k_is)
    (case k21 => k_is)
    (case a22 => k_is)
    (case l22 => k_is)
    (case c22 => k_is)
    (case k22 => k_is)
    (case a23 => k_is)
    (case l23 => k_is)
    (case c23 => k_is)
    (case k23 => k_is)
    (case lcT => k_is)
    (case h11T => rfl)
    (case nTT => rfl)
#print axioms PySem.Challenge.cw_crumbjar_k02_hosts_told_holds
