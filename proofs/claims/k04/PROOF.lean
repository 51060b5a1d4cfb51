import PyProof.Rows.All
import Wide.All
import OpenK.AllK
import Wide.FinOn
import HandS.Base
import HandS.Call
import HandS.List
import HandS.Comp
import HandS.Ends
import HandS.Dict
import HandS.Iter
import HandS.Text
import HandS.Words
import PyProof.Rows.StrNews2
import PyProof.StrLawsLast
import HandS.Wide
import HandS.Walk
import HandS.IsInst
import HandS.Style
import KE.IntTextLaws
import HandS.StrMore
import HandS.Codes
import HandS.Flow
import HandS.Evl
import PySem.Challenge.RW_crumbjar_k04_hosts_that_fit
set_option Elab.async false
set_option linter.all false
set_option maxRecDepth 100000
set_option maxHeartbeats 4000000
namespace Kb
open PySem PySem.Spec PyProof.Rows L2
/-! ### a def of the text, a def that may be called -/
def Df (K : PySem.W.Frag) (mg : Str → Option Value) (x : Str) (st : Stmt) (ps : List Str) : Prop :=
  ∃ (f : Addr) (fd : FuncData), Fun K x x st f fd ∧ mg x = some (.ref f) ∧ ∀ us : List Value, us.length = ps.length → bindArgs fd ⟨us, []⟩ = pure (ps.zip us)
theorem Df.mk {K : PySem.W.Frag} {mg : Str → Option Value} {h : Heap} {x : Str} {st : Stmt} {ps : List Str} {f : Addr} {oc : Value} {od an : Option Addr} {sl : Array (Option Value)} {kV doc pm cd ct : Value} (X : K.In h) (G : h.Ns PySem.mainGlobals mg)
    (b : ∀ (kV doc pm : Value) (an : Option Addr) (cdv ct : Value) (us : List Value), us.length = ps.length → bindArgs (PySem.W.fnOf x x (defArgs st) (defBody st) (defScope st) .none kV doc pm an cdv ct) ⟨us, []⟩ = pure (ps.zip us))
    (a : PySem.W.nsIn K PySem.mainGlobals x = some (some (.ref f)))
    (l : K.lookup f = some ⟨oc, od, .func (PySem.W.fnOf x x (defArgs st) (defBody st) (defScope st) .none kV doc pm an cd ct), sl⟩)
    (c : PySem.W.codeIn K cd x = true) (k : PySem.W.keepIn K (.ref f) = true) : Df K mg x st ps :=
  ⟨f, _, fun_mk l c k, PySem.W.mg_of X G a, b kV doc pm an cd ct⟩
def Cal (P : Program) (w : World) (K : PySem.W.Frag) (mg : Str → Option Value) (base : Heap) (CX : CXT) (k : Nat) (x : Str) (ps : List Str) (sp : Sp) : Prop :=
  ∃ (f : Addr) (fd : FuncData), FnOk P w K mg base CX k f fd ps sp ∧ mg x = some (.ref f) ∧ PySem.W.keepIn K (.ref f) = true ∧ Binds K fd ps []
section
variable {P : Program} {w : World} {K : PySem.W.Frag} {mg : Str → Option Value} {base : Heap}
theorem Df.ok0 {x : Str} {st : Stmt} {N ps : List Str} {k : Nat} {sp : Sp} (D : Df K mg x st ps) (S : FnScope N ps (defScope st)) (len : ∀ vs H Q E, sp vs H Q E → vs.length = ps.length)
    (hbody : ∀ (f : Addr) (cdv : Value) (A : Around) (outer : List Env) (s : Shared) (H : Hp) (vs : List V) (Q : VK) (E : XK), Room k (A.deeper (envOfC x (defScope st) s.heap.objs.size f cdv)) → sp vs H Q E →
      ∃ t, PSs (cxOf CX0 P w K mg base N x (defScope st) f cdv A outer s H E).nox (defBody st) t ∧ t { nx := fun _ H' => Q .non H', rt := Q } (start N vs) H) : Cal P w K mg base CX0 (k + 1) x ps sp := by
  obtain ⟨f, fd, F, m, b⟩ := D
  exact ⟨f, fd, F.ok S len (hbody f), m, F.kp, .all b⟩
end
theorem pe_c {X : Cx} {CX : CXT} {j k : Nat} {x : Str} {ps : List Str} {sp : Sp} {E : XK} {p pos : Pos} {e : Expr} {es : List Expr} {t : TA} (c : Cal X.prog X.w X.K X.mg X.base CX j x ps sp) (hr : Room k X.A) (hjk : j ≤ k) (hg : Gl X x) (hx : Passes CX X E)
    (ha : PA X (e :: es) t) (hdb : (x == ("__debug__" : Str)) = false := by decide) (he : starEach (e :: es) X.env = (false, eval e X.env) :: starEach es X.env := by rfl) (hpl : (backTo pos (starEach es X.env)).any (·.1) = false := by rfl) :
    PE X (.Call (.Name x p) (e :: es) [] pos) (tCall sp [] E t) := by
  obtain ⟨f, fd, F, m, kp, b⟩ := c
  exact pe_call F (hr.mono hjk) hg m kp b .nil hx ha hdb he hpl
end Kb

namespace Kb
open PySem PySem.Spec PyProof.Rows L2 TL PySem.StrLaws Builtin.Str
/-! ### lists of signs: parts between one sign -/
def sp1 (c : Nat) : List Nat → List (List Nat)
  | [] => [[]]
  | x :: l => if x = c then [] :: sp1 c l else match sp1 c l with
    | [] => [[x]]
    | h :: t => (x :: h) :: t
theorem sp1_ne (c : Nat) : ∀ l, sp1 c l ≠ []
  | [] => by simp [sp1]
  | x :: l => by
    unfold sp1
    split
    · simp
    · cases h : sp1 c l <;> simp
theorem sp1_hit (c : Nat) (l : List Nat) : sp1 c (c :: l) = [] :: sp1 c l := by simp [sp1]
theorem sp1_miss {c x : Nat} (h : x ≠ c) {l p : List Nat} {r : List (List Nat)} (e : sp1 c l = p :: r) : sp1 c (x :: l) = (x :: p) :: r := by
  simp only [sp1, if_neg h, e]
theorem sp1_cons (c : Nat) (l : List Nat) : ∃ p r, sp1 c l = p :: r := by
  cases h : sp1 c l with
  | nil => exact absurd h (sp1_ne c l)
  | cons p r => exact ⟨p, r, rfl⟩
theorem spl_sp1 (c : Nat) : ∀ (l acc : List Nat) (p : List Nat) (r : List (List Nat)), sp1 c l = p :: r → spl [c] 0 acc l = (acc ++ p) :: r
  | [], acc, p, r, h => by
    simp only [sp1, List.cons.injEq] at h
    obtain ⟨rfl, rfl⟩ := h
    simp [spl_nil]
  | x :: l, acc, p, r, h => by
    obtain ⟨q, s, e⟩ := sp1_cons c l
    by_cases hx : x = c
    · subst hx
      rw [sp1_hit] at h
      simp only [List.cons.injEq] at h
      obtain ⟨rfl, rfl⟩ := h
      rw [spl_hit (by simp [pre])]
      rw [show [x].length - 1 = 0 from rfl, spl_sp1 x l [] q s e, e]
      simp
    · rw [sp1_miss hx e] at h
      simp only [List.cons.injEq] at h
      obtain ⟨rfl, rfl⟩ := h
      rw [spl_miss (by simp [pre, hx]), spl_sp1 c l _ q s e]
      simp
theorem split_sp1 (x : Str) {c : Nat} (hc : c < 256) : (Txt.split x ⟨#[c]⟩).map tl = sp1 c (tl x) := by
  rw [split_spl x ⟨#[c]⟩ (by simp [tl]) (kind_ok (by simp [hc]))]
  obtain ⟨p, r, e⟩ := sp1_cons c (tl x)
  show spl [c] 0 [] (tl x) = _
  rw [spl_sp1 c _ [] p r e, e]
  rfl
theorem joinL_sp1 (c : Nat) : ∀ l, joinL [c] (sp1 c l) = l
  | [] => rfl
  | x :: l => by
    obtain ⟨q, s, e⟩ := sp1_cons c l
    have ih := joinL_sp1 c l
    by_cases hx : x = c
    · subst hx
      rw [sp1_hit, e]
      rw [e] at ih
      show [] ++ ([x] ++ joinL [x] (q :: s)) = _
      rw [ih]; rfl
    · rw [sp1_miss hx e]
      rw [e] at ih
      cases s with
      | nil => exact congrArg (x :: ·) ih
      | cons a b => exact congrArg (x :: ·) ih
theorem sp1_free (c : Nat) : ∀ l, ∀ p ∈ sp1 c l, c ∉ p
  | [], p, h => by simp only [sp1, List.mem_singleton] at h; subst h; simp
  | x :: l, p, h => by
    obtain ⟨q, s, e⟩ := sp1_cons c l
    have ih := sp1_free c l
    by_cases hx : x = c
    · subst hx
      rw [sp1_hit] at h
      rcases List.mem_cons.mp h with rfl | h
      · simp
      · exact ih p h
    · rw [sp1_miss hx e] at h
      rw [e] at ih
      rcases List.mem_cons.mp h with rfl | h
      · intro hm
        rcases List.mem_cons.mp hm with r | r
        · exact hx r.symm
        · exact ih q (List.mem_cons_self ..) r
      · exact ih p (List.mem_cons_of_mem _ h)
theorem sp1_of_free {c : Nat} : ∀ {l : List Nat}, c ∉ l → sp1 c l = [l]
  | [], _ => rfl
  | x :: l, h => by
    have hx : x ≠ c := fun e => h (e ▸ List.mem_cons_self ..)
    rw [sp1_miss hx (sp1_of_free fun m => h (List.mem_cons_of_mem _ m))]
theorem sp1_app (c : Nat) : ∀ (a b : List Nat), sp1 c (a ++ c :: b) = sp1 c a ++ sp1 c b
  | [], b => by rw [List.nil_append, sp1_hit]; rfl
  | x :: a, b => by
    obtain ⟨q, s, e⟩ := sp1_cons c a
    have ih := sp1_app c a b
    rw [e] at ih
    by_cases hx : x = c
    · subst hx
      rw [List.cons_append, sp1_hit, sp1_hit, ih, e]; rfl
    · rw [List.cons_append, sp1_miss hx ih, sp1_miss hx e]; rfl
/-- r and the sign stand at the head exactly if r's parts are the first ones, with one more behind -/
theorem sp1_prefix (c : Nat) : ∀ (r p : List Nat), ((sp1 c r).length < (sp1 c p).length ∧ (sp1 c p).take (sp1 c r).length = sp1 c r) ↔ (r ++ [c]) <+: p
  | [], p => by
    show (1 < _ ∧ List.take 1 _ = [[]]) ↔ [c] <+: p
    cases p with
    | nil => simp [sp1]
    | cons x p =>
      obtain ⟨q, s, e⟩ := sp1_cons c p
      by_cases hx : x = c
      · subst hx
        simp [sp1_hit, e]
      · rw [sp1_miss hx e]
        simp [List.cons_prefix_cons, Ne.symm hx]
  | y :: r, p => by
    obtain ⟨q, s, e⟩ := sp1_cons c r
    cases p with
    | nil =>
      have h1 : 0 < (sp1 c (y :: r)).length := List.length_pos_iff.mpr (sp1_ne c _)
      constructor
      · rintro ⟨h, _⟩
        simp only [sp1, List.length_cons, List.length_nil] at h
        exact absurd h (by have : (sp1 c (y :: r)).length = (sp1 c (y :: r)).length := rfl; simp only [sp1] at h1; omega)
      · intro h; simp at h
    | cons x p =>
      obtain ⟨q', s', e'⟩ := sp1_cons c p
      have ih := sp1_prefix c r p
      rw [List.cons_append, List.cons_prefix_cons]
      by_cases hy : y = c
      · subst hy
        rw [sp1_hit]
        by_cases hx : x = y
        · subst hx
          rw [sp1_hit]
          simp only [List.length_cons, List.take_succ_cons, List.cons.injEq, true_and, Nat.add_lt_add_iff_right]
          exact ih
        · rw [sp1_miss hx e']
          simp [Ne.symm hx]
      · rw [sp1_miss hy e]
        by_cases hx : x = c
        · subst hx
          rw [sp1_hit]
          simp [Ne.symm hy, hy]
        · rw [sp1_miss hx e']
          rw [e, e'] at ih
          simp only [List.length_cons, List.take_succ_cons, List.cons.injEq] at ih ⊢
          constructor
          · rintro ⟨h1, ⟨h2, h3⟩, h4⟩
            exact ⟨h2.symm, ih.mp ⟨h1, h3, h4⟩⟩
          · rintro ⟨h2, h⟩
            obtain ⟨h1, h3, h4⟩ := ih.mpr h
            exact ⟨h1, ⟨h2.symm, h3⟩, h4⟩
/-- the last part -/
theorem last_cut {c : Nat} : ∀ {l : List Nat}, c ∈ l → ∃ a b, l = a ++ c :: b ∧ c ∉ b
  | [], h => by cases h
  | x :: l, h => by
    by_cases hm : c ∈ l
    · obtain ⟨a, b, e, hb⟩ := last_cut hm
      exact ⟨x :: a, b, by rw [e]; rfl, hb⟩
    · have hx : c = x := by
        rcases List.mem_cons.mp h with e | e
        · exact e
        · exact absurd e hm
      exact ⟨[], l, by rw [hx]; rfl, hm⟩
/-! ### the model's words as list functions -/
theorem startswith_tl (x y : Str) : Txt.startswith x y = (tl y).isPrefixOf (tl x) := by
  unfold Txt.startswith
  rw [subAt_eq, List.drop_zero, len_tl, len_tl, Nat.zero_add]
  rw [Bool.eq_iff_iff]
  simp only [Bool.and_eq_true, decide_eq_true_eq, beq_iff_eq, List.isPrefixOf_iff_prefix]
  constructor
  · rintro ⟨_, h⟩
    have h : List.take (tl y).length (tl x) = tl y := h
    exact h ▸ List.take_prefix _ _
  · intro h
    exact ⟨h.length_le, (List.prefix_iff_eq_take.mp h).symm⟩
theorem endswith_tl (x y : Str) : Txt.endswith x y = (tl y).isSuffixOf (tl x) := by
  unfold Txt.endswith
  rw [subAt_eq, len_tl, len_tl, Nat.zero_add]
  rw [Bool.eq_iff_iff]
  simp only [Bool.and_eq_true, decide_eq_true_eq, beq_iff_eq, List.isSuffixOf_iff_suffix]
  constructor
  · rintro ⟨h1, h⟩
    have h : List.take (tl y).length (List.drop ((tl x).length - (tl y).length) (tl x)) = tl y := h
    rw [List.take_of_length_le (by rw [List.length_drop]; omega)] at h
    exact h ▸ List.drop_suffix _ _
  · intro h
    have hl := h.length_le
    refine ⟨hl, ?_⟩
    show List.take (tl y).length (List.drop ((tl x).length - (tl y).length) (tl x)) = tl y
    rw [List.take_of_length_le (by rw [List.length_drop]; omega)]
    exact (List.suffix_iff_eq_drop.mp h).symm
theorem rpartition_hit {x : Str} {c : Nat} {a b : List Nat} (e : tl x = a ++ c :: b) (hb : c ∉ b) : tl (Txt.rpartition x ⟨#[c]⟩).1 = a := by
  have hy : tl (⟨#[c]⟩ : Str) ≠ [] := by simp [tl]
  have at' : ∀ i, At x ⟨#[c]⟩ x.length i ↔ (tl x)[i]? = some c := fun i => by
    rw [at_iff hy]
    show (((tl x).drop i).take 1 == [c]) = true ↔ _
    exact take1_drop
  have hit : At x ⟨#[c]⟩ x.length a.length := (at' _).mpr (by rw [e]; simp)
  unfold Txt.rpartition
  rcases last_spec x ⟨#[c]⟩ with ⟨e1, h⟩ | ⟨i, e1, h1, h2⟩
  · exact absurd hit (h _)
  · rw [e1]
    show tl (strSub x 0 i) = a
    have hi : i = a.length := by
      rcases Nat.lt_trichotomy i a.length with q | q | q
      · exact absurd hit (h2 _ q)
      · exact q
      · have g := (at' i).mp h1
        rw [e, List.getElem?_append_right (by omega)] at g
        obtain ⟨k, hk⟩ : ∃ k, i - a.length = k + 1 := ⟨i - a.length - 1, by omega⟩
        rw [hk, List.getElem?_cons_succ] at g
        exact absurd (List.mem_of_getElem? g) hb
    rw [tl_strSub, hi, e]
    simp
theorem tl_S (l : List Nat) : tl ⟨l.toArray⟩ = l := rfl
theorem str_eq_iff {x y : Str} : x = y ↔ tl x = tl y := ⟨fun e => by rw [e], ext_tl⟩
end Kb
namespace Kb
open PySem PySem.Spec PyProof.Rows L2 TL PySem.StrLaws Builtin.Str
theorem cutS_to (z : Str) {i : Int} (h : 0 ≤ i) : tl (cutS z none (some i)) = (tl z).take i.toNat := by
  obtain ⟨k, rfl⟩ : ∃ k : Nat, i = (k : Int) := ⟨i.toNat, by omega⟩
  show ((tl z).drop (HT.sIx z.length 0 none)).take (HT.sIx z.length z.length (some (k : Int)) - HT.sIx z.length 0 none) = _
  rw [HT.sIx_none, HT.sIx_nat, List.drop_zero, Nat.sub_zero, Int.toNat_natCast, len_tl, ← List.take_take, List.take_of_length_le (Nat.le_refl _)]
end Kb
namespace Kb
open PySem PySem.Spec PyProof.Rows L2 TL PySem.StrLaws Builtin.Str
theorem cutV_to (xs : List V) {i : Int} (h : 0 ≤ i) : cutV xs none (some i) = xs.take i.toNat := by
  obtain ⟨k, rfl⟩ : ∃ k : Nat, i = (k : Int) := ⟨i.toNat, by omega⟩
  show (xs.drop (HT.sIx xs.length 0 none)).take (HT.sIx xs.length xs.length (some (k : Int)) - HT.sIx xs.length 0 none) = _
  rw [HT.sIx_none, HT.sIx_nat, List.drop_zero, Nat.sub_zero, Int.toNat_natCast, ← List.take_take, List.take_of_length_le (Nat.le_refl _)]
theorem cutV_m1 (xs : List V) : cutV xs none (some (-1)) = xs.dropLast := by
  show (xs.drop (HT.sIx xs.length 0 none)).take (HT.sIx xs.length xs.length (some (-1)) - HT.sIx xs.length 0 none) = _
  rw [HT.sIx_none, List.drop_zero, Nat.sub_zero, List.dropLast_eq_take]
  have e : HT.sIx xs.length xs.length (some (-1)) = xs.length - 1 := by
    show (if (-1 : Int) < 0 then ((-1 : Int) + (xs.length : Int)).toNat else min (-1 : Int).toNat xs.length) = _
    rw [if_pos (by decide)]
    omega
  rw [e]
theorem sp1_mem {c s : Nat} : ∀ {l p : List Nat}, p ∈ sp1 c l → s ∈ p → s ∈ l
  | [], p, h, hs => by simp only [sp1, List.mem_singleton] at h; subst h; exact hs
  | x :: l, p, h, hs => by
    obtain ⟨q, r, e⟩ := sp1_cons c l
    have ih := fun p => sp1_mem (c := c) (s := s) (l := l) (p := p)
    by_cases hx : x = c
    · subst hx
      rw [sp1_hit] at h
      rcases List.mem_cons.mp h with rfl | h
      · cases hs
      · exact List.mem_cons_of_mem _ (ih p h hs)
    · rw [sp1_miss hx e] at h
      rw [e] at ih
      rcases List.mem_cons.mp h with rfl | h
      · rcases List.mem_cons.mp hs with rfl | hs
        · exact List.mem_cons_self ..
        · exact List.mem_cons_of_mem _ (ih q (List.mem_cons_self ..) hs)
      · exact List.mem_cons_of_mem _ (ih p (List.mem_cons_of_mem _ h) hs)
theorem split_mem {x p : Str} {c : Nat} (hc : c < 256) (h : p ∈ Txt.split x ⟨#[c]⟩) : ∀ s ∈ tl p, s ∈ tl x := fun s hs =>
  sp1_mem (c := c) (by rw [← split_sp1 x hc]; exact List.mem_map.mpr ⟨p, h, rfl⟩) hs
theorem split_strOk {x : Str} {c : Nat} (hc : c < 256) (hx : ∀ s ∈ tl x, s < 1114112) : ∀ p ∈ Txt.split x ⟨#[c]⟩, PyData.canLay0 (.str p) = true := fun p hp => by
  rw [PyData.canLay0]
  show p.cps.all _ = true
  rw [Array.all_eq_true_iff_forall_mem]
  intro s hs
  exact decide_eq_true (hx s (split_mem hc hp s (Array.mem_toList_iff.mpr hs)))
theorem prefix_snoc {q p : List Nat} {c : Nat} : (q ++ [c]) <+: p ↔ q <+: p ∧ p[q.length]? = some c := by
  constructor
  · rintro ⟨r, e⟩
    refine ⟨⟨c :: r, by rw [← e]; simp⟩, ?_⟩
    rw [← e]; simp
  · rintro ⟨⟨r, e⟩, h⟩
    rw [← e, List.getElem?_append_right (Nat.le_refl _), Nat.sub_self] at h
    cases r with
    | nil => cases h
    | cons a r =>
      cases h
      exact ⟨r, by rw [← e]; simp⟩
theorem snoc_of_ne {l : List Nat} (h : l ≠ []) : ∃ r c, l = r ++ [c] := ⟨l.dropLast, l.getLast h, (List.dropLast_concat_getLast h).symm⟩
theorem sp1_length {c : Nat} : ∀ l : List Nat, (sp1 c l).length ≤ l.length + 1
  | [] => by simp [sp1]
  | x :: l => by
    obtain ⟨q, r, e⟩ := sp1_cons c l
    have ih := sp1_length (c := c) l
    by_cases hx : x = c
    · subst hx; rw [sp1_hit]; simp; omega
    · rw [sp1_miss hx e]; rw [e] at ih; simp at ih ⊢; omega
theorem split_length (x : Str) {c : Nat} (hc : c < 256) : (Txt.split x ⟨#[c]⟩).length ≤ x.length + 1 := by
  have := sp1_length (c := c) (tl x)
  rw [← split_sp1 x hc, List.length_map] at this
  rw [len_tl]; exact this
end Kb
namespace Kb
open PySem PySem.Spec PyProof.Rows L2 TL PySem.StrLaws Builtin.Str
theorem sp1_mem_len {c : Nat} : ∀ {l p : List Nat}, p ∈ sp1 c l → p.length ≤ l.length
  | [], p, h => by simp only [sp1, List.mem_singleton] at h; subst h; simp
  | x :: l, p, h => by
    obtain ⟨q, r, e⟩ := sp1_cons c l
    have ih := fun p => sp1_mem_len (c := c) (l := l) (p := p)
    by_cases hx : x = c
    · subst hx
      rw [sp1_hit] at h
      rcases List.mem_cons.mp h with rfl | h
      · simp
      · have := ih p h; simp; omega
    · rw [sp1_miss hx e] at h
      rw [e] at ih
      rcases List.mem_cons.mp h with rfl | h
      · have := ih q (List.mem_cons_self ..); simp; omega
      · have := ih p (List.mem_cons_of_mem _ h); simp; omega
theorem split_mem_len {x p : Str} {c : Nat} (hc : c < 256) (h : p ∈ Txt.split x ⟨#[c]⟩) : p.length ≤ x.length := by
  rw [len_tl, len_tl]
  exact sp1_mem_len (c := c) (by rw [← split_sp1 x hc]; exact List.mem_map.mpr ⟨p, h, rfl⟩)
theorem joinL_nil {c : Nat} : ∀ {L : List (List Nat)}, joinL [c] L = [] → L = [] ∨ L = [[]]
  | [], _ => .inl rfl
  | [p], h => .inr (by rw [show p = [] from h])
  | p :: q :: r, h => by
    have : p ++ ([c] ++ joinL [c] (q :: r)) = [] := h
    simp at this
theorem join_tl (y : Str) (parts : List Str) : tl (Txt.join y parts) = joinL (tl y) (parts.map tl) := by rw [join_eq, tl_join]
end Kb
namespace Kb
open PySem PySem.Spec PyProof.Rows L2 TL PySem.StrLaws Builtin.Str
theorem cutV_from (xs : List V) {i : Int} (h : 0 ≤ i) : cutV xs (some i) none = xs.drop i.toNat := by
  obtain ⟨k, rfl⟩ : ∃ k : Nat, i = (k : Int) := ⟨i.toNat, by omega⟩
  show (xs.drop (HT.sIx xs.length 0 (some (k : Int)))).take (HT.sIx xs.length xs.length none - HT.sIx xs.length 0 (some (k : Int))) = _
  rw [HT.sIx_none, HT.sIx_nat, Int.toNat_natCast]
  rcases Nat.le_total k xs.length with q | q
  · rw [Nat.min_eq_left q, List.take_of_length_le (by rw [List.length_drop]; omega)]
  · rw [Nat.min_eq_right q, List.drop_length, List.drop_eq_nil_of_le q, List.take_nil]
end Kb

namespace Kb
open PySem PySem.Spec PyProof.Rows L2
section
variable {X : Cx}
theorem pe_gc {x : Str} {pos : Pos} {v : V} (hg : Gl X x) (h : ∃ u, X.mg x = some u ∧ RelV v u) (hd : (x == ("__debug__" : Str)) = false := by decide) : PE X (.Name x pos) (tC v) := by
  obtain ⟨u, hm, r⟩ := h
  exact pe_glob hg hm r hd
theorem mt_rpartition : MtR X "str.rpartition" (fun x xs H Q => ∃ a b, x = .str a ∧ xs = [.str b] ∧ (b.length == 0) = false ∧ a.length ≤ sizeLine ∧
    ∀ p, H p = none → Q (.ref p) (upd H p (.tup [.str (Txt.rpartition a b).1, .str (Txt.rpartition a b).2.1, .str (Txt.rpartition a b).2.2]))) := by
  intro pins s σ H x xs v us Q I rx rs h
  obtain ⟨a, b, rfl, rfl, hb, hz, h⟩ := h
  obtain ⟨t, rfl⟩ := rx
  cases rs with
  | cons r1 rs =>
    cases rs
    obtain ⟨u, rfl⟩ := r1
    refine call_meets F.slot_str_rpartition (typeIs_str _ _ _) F.entry_str_rpartition (F.args_str_rpartition_2 _ _) (meets_str_rpartition a b t u hb hz) ?_
    unfold Txt.rpartition at h
    revert h
    cases Builtin.Str.lastOccurrence a b 0 a.length with
    | none => intro h; exact laid_parts I h
    | some i => intro h; exact laid_parts I h
end
/-! ### frames -/
/-- all that was tracked is as it was, but for d -/
def Keep (d : Addr) (H H' : Hp) : Prop := ∀ b o, H b = some o → b ≠ d → H' b = some o
theorem Keep.refl {d : Addr} {H : Hp} : Keep d H H := fun _ _ h _ => h
theorem Keep.trans {d : Addr} {H H1 H2 : Hp} (a : Keep d H H1) (b : Keep d H1 H2) : Keep d H H2 := fun c o h n => b c o (a c o h n) n
theorem Same.keep {d : Addr} {H H' : Hp} (a : Same H H') : Keep d H H' := fun c o h _ => a c o h
theorem Same.new {H : Hp} {p : Addr} {o : HO} (h : H p = none) : Same H (upd H p o) := fun b u e => by
  rw [upd_ne (ne_of_none e h)]
  exact e
theorem Keep.upd {d : Addr} {H H' : Hp} {o : HO} (a : Keep d H H') : Keep d H (upd H' d o) := fun c u h n => by
  rw [upd_ne n]
  exact a c u h n
theorem Keep.same {d : Addr} {H H1 H2 : Hp} (a : Keep d H H1) (b : Same H1 H2) : Keep d H H2 := fun c o h n => b c o (a c o h n)
theorem Same.then {d : Addr} {H H1 H2 : Hp} (a : Same H H1) (b : Keep d H1 H2) : Keep d H H2 := fun c o h n => b c o (a c o h) n
theorem Keep.seqL {K : PySem.W.Frag} {d a : Addr} {H H' : Hp} {xs : List V} (k : Keep d H H') (n : a ≠ d) (h : SqL K H a xs) : SqL K H' a xs := by
  rcases h with (h | ⟨o, h⟩) | h
  · exact .inl (.inl (k _ _ h n))
  · exact .inl (.inr ⟨o, k _ _ h n⟩)
  · exact .inr h
/-- an object that is new behind d's own changes -/
theorem Keep.fresh {d : Addr} {H H' : Hp} {l : Addr} (k : Keep d H H') (hd : H d = none) (h : H' l = none) : H l = none := by
  cases q : H l with
  | none => rfl
  | some o =>
    have : l ≠ d := fun e => by rw [e, hd] at q; cases q
    rw [k l o q this] at h
    cases h
/-- what is new since H stays new in Same's way -/
theorem Keep.toSame {d : Addr} {H H' : Hp} (k : Keep d H H') (hd : H d = none) : Same H H' := fun b o h => k b o h (ne_of_none h hd)
/-! ### a menu at an index in bounds -/
theorem menu {xs : List V} {i : Int} (h0 : 0 ≤ i) (h1 : i < (xs.length : Int)) : ∃ v, v ∈ xs ∧ atI xs i = some v := by
  obtain ⟨n, rfl⟩ : ∃ n : Nat, i = (n : Int) := ⟨i.toNat, by omega⟩
  have hn : n < xs.length := by omega
  exact ⟨xs[n], List.getElem_mem hn, atI_nat (List.getElem?_eq_getElem hn)⟩
theorem iteB {b : Bool} {A B : Prop} (h1 : b = true → A) (h2 : b = false → B) : if b = true then A else B := by
  cases b
  · rw [if_neg Bool.false_ne_true]; exact h2 rfl
  · rw [if_pos rfl]; exact h1 rfl
/-! ### the draw -/
def kLeft : Key := Sum.inr "left"
def kCell : Key := Sum.inr "cell"
def kTurns : Key := Sum.inr "turns"
def dkv (l c t : Int) : List (Key × V) := [(Sum.inr "left", .int l), (Sum.inr "cell", .int c), (Sum.inr "turns", .int t)]
theorem kne1 : ¬ (("left" : Str) = "cell") := by decide +kernel
theorem kne2 : ¬ (("left" : Str) = "turns") := by decide +kernel
theorem kne3 : ¬ (("cell" : Str) = "turns") := by decide +kernel
theorem dkv_left (l c t : Int) : valV (dkv l c t) (Sum.inr "left" : Key) = some (.int l) := by
  simp [valV, dkv]
theorem dkv_cell (l c t : Int) : valV (dkv l c t) (Sum.inr "cell" : Key) = some (.int c) := by
  simp [valV, dkv, kne1]
theorem dkv_turns (l c t : Int) : valV (dkv l c t) (Sum.inr "turns" : Key) = some (.int t) := by
  simp [valV, dkv, kne2, kne3]
theorem dkv_putL (l c t x : Int) : putK (dkv l c t) (Sum.inr "left" : Key) (.int x) = dkv x c t := by
  simp [putK, dkv, Ne.symm kne1, Ne.symm kne2]
theorem dkv_putT (l c t x : Int) : putK (dkv l c t) (Sum.inr "turns" : Key) (.int x) = dkv l c x := by
  simp [putK, dkv, kne2, kne3]
def DrawAt (H : Hp) (d : Addr) (n : Nat) : Prop := ∃ l c t : Int, H d = some (.dK (dkv l c t)) ∧ 0 ≤ l ∧ 0 ≤ t ∧ t + 4 * (n : Int) ≤ 1000000000
theorem DrawAt.less {H : Hp} {d : Addr} {n m : Nat} (h : DrawAt H d n) (e : m ≤ n) : DrawAt H d m := by
  obtain ⟨l, c, t, h1, h2, h3, h4⟩ := h
  exact ⟨l, c, t, h1, h2, h3, by omega⟩
theorem DrawAt.same {H H' : Hp} {d : Addr} {n : Nat} (h : DrawAt H d n) (s : Same H H') : DrawAt H' d n := by
  obtain ⟨l, c, t, h1, h2⟩ := h
  exact ⟨l, c, t, s _ _ h1, h2⟩
theorem DrawAt.keep {H H' : Hp} {d e : Addr} {n : Nat} (h : DrawAt H d n) (s : Keep e H H') (x : d ≠ e) : DrawAt H' d n := by
  obtain ⟨l, c, t, h1, h2⟩ := h
  exact ⟨l, c, t, s _ _ h1 x, h2⟩
end Kb
namespace Kb
open PySem PySem.Spec PyProof.Rows L2
theorem dget_left {H : Hp} {d : Addr} {l c t : Int} (h : H d = some (.dK (dkv l c t))) : DGet H d (.str "left") (some (.int l)) := by
  have e := DGet.k (k := (Sum.inr "left" : Key)) h
  rw [dkv_left] at e
  exact e
theorem dget_cell {H : Hp} {d : Addr} {l c t : Int} (h : H d = some (.dK (dkv l c t))) : DGet H d (.str "cell") (some (.int c)) := by
  have e := DGet.k (k := (Sum.inr "cell" : Key)) h
  rw [dkv_cell] at e
  exact e
theorem dget_turns {H : Hp} {d : Addr} {l c t : Int} (h : H d = some (.dK (dkv l c t))) : DGet H d (.str "turns") (some (.int t)) := by
  have e := DGet.k (k := (Sum.inr "turns" : Key)) h
  rw [dkv_turns] at e
  exact e
theorem dput_left {H : Hp} {d : Addr} {l c t : Int} (x : Int) (h : H d = some (.dK (dkv l c t))) : DPut H d (.str "left") (.int x) (upd H d (.dK (dkv x c t))) := by
  have e := DPut.k (k := (Sum.inr "left" : Key)) (v := .int x) h (Nat.lt_of_lt_of_le (by show 3 < 10; decide) (by decide))
  rw [dkv_putL] at e
  exact e
theorem dput_turns {H : Hp} {d : Addr} {l c t : Int} (x : Int) (h : H d = some (.dK (dkv l c t))) : DPut H d (.str "turns") (.int x) (upd H d (.dK (dkv l c x))) := by
  have e := DPut.k (k := (Sum.inr "turns" : Key)) (v := .int x) h (Nat.lt_of_lt_of_le (by show 3 < 10; decide) (by decide))
  rw [dkv_putT] at e
  exact e
end Kb
namespace Kb
open PySem PySem.Spec PyProof.Rows L2 TL
section
variable {K : PySem.W.Frag} {a : Addr} {xs : List V} {g : TG} {tb : TS} {D : Ends} {σ : L2.St} {H : Hp}
theorem for_str {z : Str} (Pv : Nat → L2.St → Hp → Prop) (h0 : Pv 0 σ H)
    (hs : ∀ i c σ H, (tl z)[i]? = some c → Pv i σ H → g (.str ⟨#[c]⟩) σ H fun σ2 H2 => tb { D with nx := Pv (i + 1), ct := Pv (i + 1), bk := D.nx } σ2 H2) (hd : ∀ σ H, Pv (tl z).length σ H → D.nx σ H) :
    ∃ W : Nat → Nat → L2.St → Hp → Prop, (∃ m, W 0 m σ H) ∧ ∀ i m σ H, W i m σ H →
      ((Its z).stop i H ∧ D.nx σ H) ∨ ((Its z).go i H ∧ ∃ N : L2.St → Hp → Prop, (∀ σ' H', N σ' H' → ∃ m', m' < m ∧ W (i + 1) m' σ' H') ∧ ∀ x H', (Its z).yld i H x H' → g x σ H' fun σ2 H2 => tb { D with nx := N, ct := N, bk := D.nx } σ2 H2) := by
  refine for_it walk_str Pv h0 (fun _ _ _ _ _ => trivial) (fun i x σ H H' hi p y => ?_) (fun σ H p => hd σ H (by rw [show (tl z).length = z.cps.size by simp [tl]]; exact p))
  obtain ⟨rfl, c, hc, rfl⟩ := y
  exact hs i c σ _ (by rw [← hc]; simp [tl]) p
theorem for_enum (Pv : Nat → L2.St → Hp → Prop) (h0 : Pv 0 σ H) (hG : ∀ i σ H, i ≤ xs.length → Pv i σ H → SqL K H a xs)
    (hs : ∀ i x T σ H, xs[i]? = some x → Pv i σ H → H T = none → g (.ref T) σ (upd H T (.tup [.int (i : Nat), x])) fun σ2 H2 => tb { D with nx := Pv (i + 1), ct := Pv (i + 1), bk := D.nx } σ2 H2) (hd : ∀ σ H, Pv xs.length σ H → D.nx σ H) :
    ∃ W : Nat → Nat → L2.St → Hp → Prop, (∃ m, W 0 m σ H) ∧ ∀ i m σ H, W i m σ H →
      ((Ite K a).stop i H ∧ D.nx σ H) ∨ ((Ite K a).go i H ∧ ∃ N : L2.St → Hp → Prop, (∀ σ' H', N σ' H' → ∃ m', m' < m ∧ W (i + 1) m' σ' H') ∧ ∀ x H', (Ite K a).yld i H x H' → g x σ H' fun σ2 H2 => tb { D with nx := N, ct := N, bk := D.nx } σ2 H2) := by
  refine for_it walk_enum Pv h0 hG (fun i x σ H H' hi p y => ?_) hd
  obtain ⟨T, x, y, rfl, hT, rfl, h1, h2⟩ := y
  cases h1
  exact hs i y T σ H h2 p hT
end
end Kb
namespace Kb
open PySem PySem.Spec PyProof.Rows L2 TL
/-! ### == of lists of texts -/
theorem dpAll_strs {K : PySem.W.Frag} {H : Hp} : ∀ ys : List Str, DpAll K H (ys.map V.str) (ys.map PyData.str)
  | [] => .nil
  | y :: ys => .cons (.str y) (dpAll_strs ys)
theorem dp_strs {K : PySem.W.Frag} {H : Hp} {p : Addr} {ys : List Str} (h : SqL K H p (ys.map V.str)) : Dp K H (.ref p) (.list (ys.map PyData.str)) := .lst h (dpAll_strs ys)
theorem dp_strsT {K : PySem.W.Frag} {H : Hp} {p : Addr} {ys : List Str} (h : SqT K H p (ys.map V.str)) : Dp K H (.ref p) (.tuple (ys.map PyData.str)) := .tup h (dpAll_strs ys)
theorem eqvAll_strs : ∀ ys zs : List Str, PyData.eqvAll (ys.map PyData.str) (zs.map PyData.str) = decide (ys = zs)
  | [], [] => by simp [PyData.eqvAll]
  | [], z :: zs => by simp [PyData.eqvAll]
  | y :: ys, [] => by simp [PyData.eqvAll]
  | y :: ys, z :: zs => by
    rw [List.map_cons, List.map_cons, PyData.eqvAll, eqvAll_strs ys zs]
    rw [show PyData.eqv (.str y) (.str z) = (y == z) by simp [PyData.eqv]]
    rw [Bool.eq_iff_iff]
    simp
theorem canLay_strs : ∀ ys : List Str, (∀ y ∈ ys, PyData.canLay0 (.str y) = true) → PyData.canLayAll0 (ys.map PyData.str) = true
  | [], _ => by simp [PyData.canLayAll0]
  | y :: ys, h => by
    rw [List.map_cons, PyData.canLayAll0, h y (List.mem_cons_self ..), canLay_strs ys fun z hz => h z (List.mem_cons_of_mem _ hz)]; rfl
theorem depth_strs : ∀ ys : List Str, PyData.depthAll (ys.map PyData.str) = 0
  | [] => by simp [PyData.depthAll]
  | y :: ys => by
    rw [List.map_cons, PyData.depthAll, depth_strs ys]
    simp [PyData.depth]
theorem shaped_strs {ys : List Str} (h : ∀ y ∈ ys, PyData.canLay0 (.str y) = true) : SeqAt.shaped (.list (ys.map PyData.str)) = true := by
  unfold SeqAt.shaped
  rw [PyData.canLay0, canLay_strs ys h, PyData.depth, depth_strs]; rfl
end Kb
namespace Kb
open PySem PySem.Spec PyProof.Rows L2 TL
/-! ### rules with the written part named -/
def rLenQ (K : PySem.W.Frag) : List V → Hp → VK → Prop := fun xs H Q => ∃ p ys, xs = [.ref p] ∧ (SqL K H p ys ∨ SqT K H p ys) ∧ Q (.int ys.length) H
def rJoinQ (K : PySem.W.Frag) : V → List V → Hp → VK → Prop := fun x xs H Q => ∃ a p, ∃ ys : List Str, x = .str a ∧ xs = [.ref p] ∧ (SqL K H p (ys.map V.str) ∨ SqT K H p (ys.map V.str)) ∧ (ys.map (·.length)).sum + ys.length * a.length ≤ 16777216 ∧ Q (.str (Txt.join a ys)) H
end Kb
namespace Kb
open PySem PySem.Spec PyProof.Rows L2 TL
theorem DrawAt.upd {H : Hp} {d L : Addr} {n : Nat} {o : HO} (h : DrawAt H d n) (x : d ≠ L) : DrawAt (L2.upd H L o) d n := by
  obtain ⟨l, c, t, h1, h2⟩ := h
  exact ⟨l, c, t, by rw [upd_ne x]; exact h1, h2⟩
theorem DrawAt.ne {H : Hp} {d L : Addr} {n : Nat} (h : DrawAt H d n) (x : H L = none) : L ≠ d := fun e => by
  obtain ⟨_, _, _, q, _⟩ := h
  rw [e, q] at x; cases x
theorem Keep.updN {d L : Addr} {H H' : Hp} {o : HO} (k : Keep d H H') (h : H L = none) : Keep d H (L2.upd H' L o) := fun b q e n => by
  rw [upd_ne (ne_of_none e h)]
  exact k b q e n
end Kb
namespace Kb
open PySem PySem.Spec PyProof.Rows L2 TL
theorem all_at {p : Nat → Bool} {l : List Nat} {i : Nat} {c : Nat} (h : l[i]? = some c) : (l.take (i + 1)).all p = ((l.take i).all p && p c) := by
  rw [List.take_add_one, h, List.all_append]; simp
theorem allS_at {p : List Nat → Bool} {l : List Str} {i : Nat} {c : Str} (h : l[i]? = some c) : ((l.take (i + 1)).map tl).all p = (((l.take i).map tl).all p && p (tl c)) := by
  rw [List.take_add_one, h, List.map_append, List.all_append]; simp
theorem strAt {xs : List Str} {i : Nat} {v : V} (h : (xs.map V.str)[i]? = some v) : ∃ x, xs[i]? = some x ∧ v = .str x := by
  rw [List.getElem?_map] at h
  cases e : xs[i]? with
  | none => rw [e] at h; cases h
  | some x => rw [e] at h; exact ⟨x, rfl, (Option.some.inj h).symm⟩
/-- a text with f, or a value that is no text -/
def TxV (f : List Nat → Bool) (K : PySem.W.Frag) (H : Hp) (v : V) (b : Bool) : Prop :=
  (∃ x : Str, v = .str x ∧ x.length ≤ 1000000 ∧ b = f (tl x)) ∨ (∃ t : Value, TyX K H v t ∧ PySem.W.kitOne K t (.type "str") = some false ∧ b = false)
theorem kit_str (K : PySem.W.Frag) : PySem.W.kitOne K (.type "str") (.type "str") = some true := kit_ty (by decide +kernel)
theorem TxV.of {f : List Nat → Bool} {K : PySem.W.Frag} {H : Hp} {x : Str} (h : x.length ≤ 1000000) : TxV f K H (.str x) (f (tl x)) := .inl ⟨x, rfl, h, rfl⟩
end Kb

namespace Kb
open PySem PySem.Spec PyProof.Rows L2 TL
/-! ### hosts as lists of signs -/
def onlyB (g l : List Nat) : Bool := (l.all fun c => decide (c ∈ g)) && decide (l ≠ [])
def digs : List Nat := [48, 49, 50, 51, 52, 53, 54, 55, 56, 57]
def lsig : List Nat := [97, 98, 99, 100, 101, 102, 103, 104, 105, 106, 107, 108, 109, 110, 111, 112, 113, 114, 115, 116, 117, 118, 119, 120, 121, 122, 48, 49, 50, 51, 52, 53, 54, 55, 56, 57, 45]
def digB (l : List Nat) : Bool := onlyB digs l
def labB (l : List Nat) : Bool := decide (l.length ≤ 20) && (onlyB lsig l && (decide (l.head? ≠ some 45) && decide (l.getLast? ≠ some 45)))
def numB (l : List Nat) : Bool := digB l && (decide (NumText.digitsVal l ≤ 255) && (decide (l = [48]) || decide (l.head? ≠ some 48)))
def lastL (L : List (List Nat)) : List Nat := L.getLast?.getD []
def hostL (L : List (List Nat)) : Bool := decide (L.length ≤ 10) && (L.all labB && (!digB (lastL L) || (L.all numB && decide (L.length = 4))))
def hostB (l : List Nat) : Bool := decide (l.length ≤ 100) && hostL (sp1 46 l)
def addrB (l : List Nat) : Bool := hostB l && digB (lastL (sp1 46 l))
def fitB (h d : List Nat) : Bool := decide (h = d) || (!addrB h && (46 :: d).isSuffixOf h)
theorem tl_dot : tl ("." : Str) = [46] := by decide +kernel
theorem dot_eq : ("." : Str) = ⟨#[46]⟩ := ext_tl tl_dot
theorem tl_lsig : tl ("abcdefghijklmnopqrstuvwxyz0123456789-" : Str) = lsig := by decide +kernel
theorem tl_digs : tl ("0123456789" : Str) = digs := by decide +kernel
theorem hostB_len {x : Str} (h : hostB (tl x) = true) : x.length ≤ 100 := by
  unfold hostB at h
  rw [Bool.and_eq_true, decide_eq_true_eq] at h
  rw [len_tl]; exact h.1
theorem digs_iff {c : Nat} : c ∈ digs ↔ 48 ≤ c ∧ c ≤ 57 := by
  simp only [digs, List.mem_cons, List.not_mem_nil, or_false]
  omega
theorem digB_iff {l : List Nat} : digB l = true ↔ NumText.AllDigits l ∧ l ≠ [] := by
  unfold digB onlyB NumText.AllDigits
  rw [Bool.and_eq_true, List.all_eq_true, decide_eq_true_eq]
  constructor
  · rintro ⟨h, n⟩; exact ⟨fun c hc => digs_iff.mp (of_decide_eq_true (h c hc)), n⟩
  · rintro ⟨h, n⟩; exact ⟨fun c hc => decide_eq_true (digs_iff.mpr (h c hc)), n⟩
theorem int_dig {x : Str} (h : digB (tl x) = true) (hl : x.length ≤ 640) : intText? x = some ((NumText.digitsVal (tl x) : Nat) : Int) :=
  intText_digits (digB_iff.mp h).1 (digB_iff.mp h).2 (by omega)
theorem lsig_lt {c : Nat} (h : c ∈ lsig) : c < 128 ∧ 45 ≤ c := by
  simp only [lsig, List.mem_cons, List.not_mem_nil, or_false] at h
  omega
theorem dot_free {l : List Nat} (h : labB l = true) : 46 ∉ l := fun hm => by
  unfold labB onlyB at h
  simp only [Bool.and_eq_true, List.all_eq_true, decide_eq_true_eq] at h
  exact absurd (h.2.1.1 46 hm) (by decide)
theorem lab_ne {l : List Nat} (h : labB l = true) : l ≠ [] := by
  unfold labB onlyB at h
  simp only [Bool.and_eq_true, List.all_eq_true, decide_eq_true_eq] at h
  exact h.2.1.2
theorem lab_len {l : List Nat} (h : labB l = true) : l.length ≤ 20 := by
  unfold labB at h
  simp only [Bool.and_eq_true, decide_eq_true_eq] at h
  exact h.1
theorem lab_sign {l : List Nat} (h : labB l = true) {c : Nat} (hc : c ∈ l) : c ∈ lsig := by
  unfold labB onlyB at h
  simp only [Bool.and_eq_true, List.all_eq_true, decide_eq_true_eq] at h
  exact h.2.1.1 c hc
theorem lastL_snoc (L : List (List Nat)) (p : List Nat) : lastL (L ++ [p]) = p := by
  unfold lastL; rw [List.getLast?_concat]; rfl
/-- joined labels are their parts -/
theorem sp1_joinL {c : Nat} : ∀ {L : List (List Nat)}, L ≠ [] → (∀ p ∈ L, c ∉ p) → sp1 c (joinL [c] L) = L
  | [], h, _ => absurd rfl h
  | [p], _, hp => sp1_of_free (hp p (List.mem_singleton.mpr rfl))
  | p :: q :: r, _, hp => by
    show sp1 c (p ++ (c :: joinL [c] (q :: r))) = _
    rw [sp1_app, sp1_of_free (hp p (List.mem_cons_self ..)), sp1_joinL (by simp) fun z hz => hp z (List.mem_cons_of_mem _ hz)]
    rfl
theorem joinL_app {c : Nat} : ∀ {L M : List (List Nat)}, L ≠ [] → M ≠ [] → joinL [c] (L ++ M) = joinL [c] L ++ c :: joinL [c] M
  | [], _, h, _ => absurd rfl h
  | [p], m :: M, _, _ => rfl
  | [p], [], _, h => absurd rfl h
  | p :: q :: r, M, _, hM => by
    show p ++ (c :: joinL [c] (q :: r ++ M)) = _
    rw [joinL_app (L := q :: r) (by simp) hM]
    simp [joinL]
/-- d's parts are the last parts exactly if it is all, or stands behind a sign -/
theorem sp1_suffix (c : Nat) (h d : List Nat) : ((sp1 c d).length ≤ (sp1 c h).length ∧ (sp1 c h).drop ((sp1 c h).length - (sp1 c d).length) = sp1 c d) ↔ (h = d ∨ (c :: d) <:+ h) := by
  constructor
  · rintro ⟨h1, h2⟩
    have e : sp1 c h = (sp1 c h).take ((sp1 c h).length - (sp1 c d).length) ++ sp1 c d := by
      conv => lhs; rw [← List.take_append_drop ((sp1 c h).length - (sp1 c d).length) (sp1 c h), h2]
    by_cases ht : (sp1 c h).take ((sp1 c h).length - (sp1 c d).length) = []
    · rw [ht, List.nil_append] at e
      exact .inl (by rw [← joinL_sp1 c h, e, joinL_sp1])
    · refine .inr ⟨joinL [c] ((sp1 c h).take ((sp1 c h).length - (sp1 c d).length)), ?_⟩
      have e2 := joinL_sp1 c h
      rw [e, joinL_app ht (sp1_ne c d), joinL_sp1] at e2
      exact e2
  · rintro (rfl | ⟨r, e⟩)
    · simp
    · rw [← e, sp1_app, List.length_append]
      refine ⟨by omega, ?_⟩
      rw [Nat.add_sub_cancel, List.drop_left]
end Kb
namespace Kb
open PySem PySem.Spec PyProof.Rows L2 TL
/-! ### drawn hosts: small labels that are no numbers -/
def wlab (l : List Nat) : Bool := labB l && (!digB l && decide (l.length ≤ 4))
def HostW (n : Nat) (x : Str) : Prop := ∃ L : List (List Nat), L ≠ [] ∧ L.length ≤ n ∧ (∀ l ∈ L, wlab l = true) ∧ tl x = joinL [46] L
theorem wlab_lab {l : List Nat} (h : wlab l = true) : labB l = true ∧ digB l = false ∧ l.length ≤ 4 := by
  unfold wlab at h
  simp only [Bool.and_eq_true, Bool.not_eq_true', decide_eq_true_eq] at h
  exact h
theorem joinL_len {c B : Nat} : ∀ L : List (List Nat), (∀ l ∈ L, l.length ≤ B) → (joinL [c] L).length ≤ L.length * (B + 1)
  | [], _ => by simp [joinL]
  | [p], h => by have := h p (List.mem_singleton.mpr rfl); simp [joinL]; omega
  | p :: q :: r, h => by
    have h1 := h p (List.mem_cons_self ..)
    have h2 := joinL_len (c := c) (q :: r) fun l hl => h l (List.mem_cons_of_mem _ hl)
    show (p ++ (c :: joinL [c] (q :: r))).length ≤ _
    rw [List.length_append, List.length_cons, List.length_cons (a := p), Nat.succ_mul]
    omega
theorem lastL_mem {L : List (List Nat)} (h : L ≠ []) : lastL L ∈ L := by
  have e : L = L.dropLast ++ [L.getLast h] := (List.dropLast_concat_getLast h).symm
  have e2 : lastL L = L.getLast h := by
    conv => lhs; rw [e]
    exact lastL_snoc _ _
  rw [e2]
  exact List.getLast_mem h
theorem HostW.parts {n : Nat} {x : Str} (h : HostW n x) : ∃ L : List (List Nat), sp1 46 (tl x) = L ∧ L ≠ [] ∧ L.length ≤ n ∧ (∀ l ∈ L, wlab l = true) ∧ tl x = joinL [46] L := by
  obtain ⟨L, h1, h2, h3, h4⟩ := h
  exact ⟨L, by rw [h4, sp1_joinL h1 fun p hp => dot_free (wlab_lab (h3 p hp)).1], h1, h2, h3, h4⟩
theorem HostW.len {n : Nat} {x : Str} (h : HostW n x) : x.length ≤ 5 * n := by
  obtain ⟨L, h1, h2, h3, h4⟩ := h
  rw [len_tl, h4]
  have := joinL_len (c := 46) (B := 4) L fun l hl => (wlab_lab (h3 l hl)).2.2
  omega
theorem HostW.host {n : Nat} {x : Str} (h : HostW n x) (hn : n ≤ 10) : hostB (tl x) = true ∧ digB (lastL (sp1 46 (tl x))) = false := by
  have hl := h.len
  obtain ⟨L, e, h1, h2, h3, h4⟩ := h.parts
  have hz : digB (lastL L) = false := (wlab_lab (h3 _ (lastL_mem h1))).2.1
  rw [e]
  refine ⟨?_, hz⟩
  unfold hostB hostL
  rw [e, hz, decide_eq_true (by rw [← len_tl]; omega), decide_eq_true (by omega), List.all_eq_true.mpr fun l hl => (wlab_lab (h3 l hl)).1]
  rfl
theorem HostW.more {n m : Nat} {x : Str} (h : HostW n x) (e : n ≤ m) : HostW m x := by
  obtain ⟨L, h1, h2, h3, h4⟩ := h
  exact ⟨L, h1, Nat.le_trans h2 e, h3, h4⟩
theorem HostW.dot {n m : Nat} {x y : Str} (h : HostW n x) (k : HostW m y) : HostW (n + m) (x ++ "." ++ y) := by
  obtain ⟨L, h1, h2, h3, h4⟩ := h
  obtain ⟨M, k1, k2, k3, k4⟩ := k
  refine ⟨L ++ M, by simp [h1], by rw [List.length_append]; omega, fun l hl => ?_, ?_⟩
  · rcases List.mem_append.mp hl with q | q
    · exact h3 l q
    · exact k3 l q
  · rw [tl_append, tl_append, tl_dot, h4, k4, joinL_app h1 k1, List.append_assoc]; rfl
/-- address hosts: four numbers -/
def AddrW (x : Str) : Prop := ∃ L : List (List Nat), L.length = 4 ∧ (∀ l ∈ L, ∃ n : Nat, n < 256 ∧ l = numL n) ∧ tl x = joinL [46] L
theorem num_ok : ∀ n : Nat, n < 256 → (labB (numL n) && (numB (numL n) && (digB (numL n) && decide ((numL n).length ≤ 3)))) = true := by decide +kernel
theorem AddrW.parts {x : Str} (h : AddrW x) : ∃ L : List (List Nat), sp1 46 (tl x) = L ∧ L.length = 4 ∧ (∀ l ∈ L, labB l = true ∧ numB l = true ∧ digB l = true ∧ l.length ≤ 3) ∧ tl x = joinL [46] L := by
  obtain ⟨L, h1, h2, h3⟩ := h
  have h4 : ∀ l ∈ L, labB l = true ∧ numB l = true ∧ digB l = true ∧ l.length ≤ 3 := fun l hl => by
    obtain ⟨n, hn, rfl⟩ := h2 l hl
    have := num_ok n hn
    simp only [Bool.and_eq_true, decide_eq_true_eq] at this
    exact this
  refine ⟨L, ?_, h1, h4, h3⟩
  rw [h3, sp1_joinL (by intro e; rw [e] at h1; cases h1) fun p hp => dot_free (h4 p hp).1]
theorem AddrW.len {x : Str} (h : AddrW x) : x.length ≤ 16 := by
  obtain ⟨L, e, h1, h2, h3⟩ := h.parts
  rw [len_tl, h3]
  have := joinL_len (c := 46) (B := 3) L fun l hl => (h2 l hl).2.2.2
  omega
theorem AddrW.host {x : Str} (h : AddrW x) : hostB (tl x) = true ∧ digB (lastL (sp1 46 (tl x))) = true := by
  have hl := h.len
  obtain ⟨L, e, h1, h2, h3⟩ := h.parts
  have hz : digB (lastL L) = true := (h2 _ (lastL_mem (by intro e; rw [e] at h1; cases h1))).2.2.1
  rw [e]
  refine ⟨?_, hz⟩
  unfold hostB hostL
  rw [e, hz, decide_eq_true (by rw [← len_tl]; omega), decide_eq_true (by omega), List.all_eq_true.mpr fun l hl => (h2 l hl).1, List.all_eq_true.mpr fun l hl => (h2 l hl).2.1, decide_eq_true h1]
  rfl
/-- what a host is, for the law's own reckoning -/
theorem fit_due {h d : List Nat} (hh : hostB h = true) : fitB h d = (if digB (lastL (sp1 46 h)) = true then decide (sp1 46 h = sp1 46 d) else decide ((sp1 46 d).length ≤ (sp1 46 h).length) && decide ((sp1 46 h).drop ((sp1 46 h).length - (sp1 46 d).length) = sp1 46 d)) := by
  unfold fitB addrB
  rw [hh, Bool.true_and]
  cases hz : digB (lastL (sp1 46 h)) with
  | true =>
    rw [if_pos rfl, Bool.not_true, Bool.false_and, Bool.or_false, Bool.eq_iff_iff, decide_eq_true_eq, decide_eq_true_eq]
    exact ⟨fun e => by rw [e], fun e => by rw [← joinL_sp1 46 h, e, joinL_sp1]⟩
  | false =>
    rw [if_neg Bool.false_ne_true, Bool.not_false, Bool.true_and, Bool.eq_iff_iff, Bool.or_eq_true, Bool.and_eq_true, decide_eq_true_eq, decide_eq_true_eq, decide_eq_true_eq, List.isSuffixOf_iff_suffix]
    exact (sp1_suffix 46 h d).symm
end Kb
namespace Kb
open PySem PySem.Spec PyProof.Rows L2 TL
theorem digit_lsig : ∀ c ∈ lsig, Unicode.isDigit c = decide (c ∈ digs) := by decide +kernel
theorem isdigit_lab {z : Str} (h : labB (tl z) = true) : Txt.isdigit z = digB (tl z) := by
  unfold Txt.isdigit digB onlyB
  have hn := lab_ne h
  have h0 : decide (z.length > 0) = true := decide_eq_true (by rw [len_tl]; exact List.length_pos_iff.mpr hn)
  rw [h0, Bool.true_and, decide_eq_true hn, Bool.and_true, Bool.eq_iff_iff, Array.all_eq_true_iff_forall_mem, List.all_eq_true]
  constructor
  · intro q c hc
    rw [← digit_lsig c (lab_sign h hc)]
    exact q c (Array.mem_toList_iff.mp hc)
  · intro q c hc
    have hc := Array.mem_toList_iff.mpr hc
    rw [digit_lsig c (lab_sign h hc)]
    exact q c hc
theorem host_labels {x : Str} (h : hostB (tl x) = true) : ∀ l ∈ sp1 46 (tl x), labB l = true := by
  unfold hostB hostL at h
  simp only [Bool.and_eq_true, List.all_eq_true] at h
  exact h.2.2.1
theorem host_lt {x : Str} (h : hostB (tl x) = true) : ∀ s ∈ tl x, s < 1114112 := fun s hs => by
  have hl := host_labels h
  rw [← joinL_sp1 46 (tl x)] at hs
  have : ∀ L : List (List Nat), (∀ l ∈ L, labB l = true) → ∀ s ∈ joinL [46] L, s = 46 ∨ s ∈ lsig := by
    intro L
    induction L with
    | nil => intro _ s hs; cases hs
    | cons p L ih =>
      intro hL s hs
      cases L with
      | nil => exact .inr (lab_sign (hL p (List.mem_cons_self ..)) hs)
      | cons q r =>
        have hs : s ∈ p ++ (46 :: joinL [46] (q :: r)) := hs
        rcases List.mem_append.mp hs with a | a
        · exact .inr (lab_sign (hL p (List.mem_cons_self ..)) a)
        · rcases List.mem_cons.mp a with a | a
          · exact .inl a
          · exact ih (fun l hl => hL l (List.mem_cons_of_mem _ hl)) s a
  rcases this _ hl s hs with rfl | q
  · decide
  · have := lsig_lt q; omega
end Kb

namespace Kb
open PySem PySem.Spec PyProof.Rows L2 TL PySem.Builtin PySem.Builtin.Str
/-! ### what is stripped away of a text at both ends -/
theorem strip_none (x g : Str) : (Txt.stripChars x g = ("" : Str)) ↔ ∀ c ∈ tl x, c ∈ tl g := by
  unfold Txt.stripChars
  rw [stripBy_eq]
  have hc : ∀ c, g.cps.contains c = true ↔ c ∈ tl g := fun c => by
    unfold tl
    rw [← Array.contains_toList, List.contains_iff_mem]
  obtain ⟨l1, l2, l3⟩ := lo_facts g.cps.contains x
  obtain ⟨h1, h2, h3, h4⟩ := hi_facts g.cps.contains x _ l1
  generalize stripLo g.cps.contains true x = lo at *
  generalize stripHi g.cps.contains true x lo = hi at *
  have hx : x.length = (tl x).length := len_tl x
  have e0 : (strSub x lo hi = ("" : Str)) ↔ hi = lo := by
    constructor
    · intro e
      have : (strSub x lo hi).length = 0 := by rw [e]; decide +kernel
      simp [strSub, Str.length] at this
      have hx' : x.length = x.cps.size := rfl
      omega
    · intro e
      subst e
      apply ext_tl
      simp [strSub, tl]
      decide +kernel
  rw [e0]
  have gd : ∀ k, k < x.length → ∃ c, (tl x)[k]? = some c ∧ x.cps.getD k 0 = c := fun k hk => by
    refine ⟨x.cps.getD k 0, ?_, rfl⟩
    have hk' : k < x.cps.size := hk
    simp [tl, Array.getD, hk']
  constructor
  · intro e c hm
    obtain ⟨k, hk⟩ := List.mem_iff_getElem?.mp hm
    have hl : k < (tl x).length := by
      rw [List.getElem?_eq_some_iff] at hk
      exact hk.1
    rw [← hx] at hl
    obtain ⟨c', e1, e2⟩ := gd k hl
    rw [hk] at e1
    cases e1
    rw [← hc]
    by_cases q : k < lo
    · have := l2 k q; rw [e2] at this; exact this
    · have := h3 k (by omega) hl; rw [e2] at this; exact this
  · intro al
    have al' : ∀ k, k < x.length → g.cps.contains (x.cps.getD k 0) = true := fun k hk => by
      obtain ⟨c, e1, e2⟩ := gd k hk
      rw [e2, hc]
      exact al c (List.mem_of_getElem? e1)
    by_cases q : lo = x.length
    · omega
    · have := l3.resolve_left q
      rw [al' lo (by omega)] at this
      cases this
theorem strip_only (x g : Str) : (!decide (V.str x = V.str ("" : Str)) && decide (V.str (Txt.stripChars x g) = V.str ("" : Str))) = onlyB (tl g) (tl x) := by
  unfold onlyB
  rw [Bool.eq_iff_iff, Bool.and_eq_true, Bool.and_eq_true, Bool.not_eq_true', decide_eq_true_eq, decide_eq_true_eq, decide_eq_false_iff_not, List.all_eq_true]
  have e1 : (V.str x = V.str ("" : Str)) ↔ tl x = [] := ⟨fun q => by rw [V.str.inj q]; decide +kernel, fun q => by rw [show x = ("" : Str) from ext_tl (by rw [q]; decide +kernel)]⟩
  have e2 : (V.str (Txt.stripChars x g) = V.str ("" : Str)) ↔ ∀ c ∈ tl x, c ∈ tl g := by
    rw [← strip_none]
    exact ⟨fun q => V.str.inj q, fun q => by rw [q]⟩
  rw [e1, e2]
  constructor
  · rintro ⟨a, b⟩; exact ⟨fun c hc => decide_eq_true (b c hc), a⟩
  · rintro ⟨a, b⟩; exact ⟨b, fun c hc => of_decide_eq_true (a c hc)⟩
end Kb

namespace Pf
open PySem PySem.Spec PyProof.Rows L2 TL Kb
def top (i : Nat) : Stmt := PySem.Challenge.pw_crumbjar_k04_hosts_that_fit.main.body.getD i (.Pass ⟨0, 0, 0, 0⟩)
abbrev s_has_only : Stmt := top 5
theorem sc_has_only : FnScope ["text", "signs"] ["text", "signs"] (defScope s_has_only) := ⟨rfl, rfl, rfl, by decide +kernel, rfl, by decide +kernel, by decide +kernel⟩
abbrev s_is_digits : Stmt := top 6
theorem sc_is_digits : FnScope ["text"] ["text"] (defScope s_is_digits) := ⟨rfl, rfl, rfl, by decide +kernel, rfl, by decide +kernel, by decide +kernel⟩
abbrev s__is_label : Stmt := top 20
theorem sc__is_label : FnScope ["text"] ["text"] (defScope s__is_label) := ⟨rfl, rfl, rfl, by decide +kernel, rfl, by decide +kernel, by decide +kernel⟩
abbrev s_are_labels : Stmt := top 19
theorem sc_are_labels : FnScope ["texts", "text"] ["texts"] (defScope s_are_labels) := ⟨rfl, rfl, rfl, by decide +kernel, rfl, by decide +kernel, by decide +kernel⟩
abbrev s__is_number : Stmt := top 22
theorem sc__is_number : FnScope ["label"] ["label"] (defScope s__is_number) := ⟨rfl, rfl, rfl, by decide +kernel, rfl, by decide +kernel, by decide +kernel⟩
abbrev s__are_four_numbers : Stmt := top 21
theorem sc__are_four_numbers : FnScope ["labels", "label"] ["labels"] (defScope s__are_four_numbers) := ⟨rfl, rfl, rfl, by decide +kernel, rfl, by decide +kernel, by decide +kernel⟩
abbrev s_is_host : Stmt := top 14
theorem sc_is_host : FnScope ["value", "labels"] ["value"] (defScope s_is_host) := ⟨rfl, rfl, rfl, by decide +kernel, rfl, by decide +kernel, by decide +kernel⟩
abbrev s_need_host : Stmt := top 18
theorem sc_need_host : FnScope ["host"] ["host"] (defScope s_need_host) := ⟨rfl, rfl, rfl, by decide +kernel, rfl, by decide +kernel, by decide +kernel⟩
abbrev s_labels_of : Stmt := top 16
theorem sc_labels_of : FnScope ["host"] ["host"] (defScope s_labels_of) := ⟨rfl, rfl, rfl, by decide +kernel, rfl, by decide +kernel, by decide +kernel⟩
abbrev s_is_address_host : Stmt := top 15
theorem sc_is_address_host : FnScope ["value"] ["value"] (defScope s_is_address_host) := ⟨rfl, rfl, rfl, by decide +kernel, rfl, by decide +kernel, by decide +kernel⟩
abbrev s_host_fits : Stmt := top 17
theorem sc_host_fits : FnScope ["host", "domain"] ["host", "domain"] (defScope s_host_fits) := ⟨rfl, rfl, rfl, by decide +kernel, rfl, by decide +kernel, by decide +kernel⟩
abbrev s__law_draw : Stmt := top 27
theorem sc__law_draw : FnScope ["cell", "k"] ["cell", "k"] (defScope s__law_draw) := ⟨rfl, rfl, rfl, by decide +kernel, rfl, by decide +kernel, by decide +kernel⟩
abbrev s__law_mixed : Stmt := top 26
theorem sc__law_mixed : FnScope ["cell", "k", "one"] ["cell", "k"] (defScope s__law_mixed) := ⟨rfl, rfl, rfl, by decide +kernel, rfl, by decide +kernel, by decide +kernel⟩
abbrev s__law_digit : Stmt := top 28
theorem sc__law_digit : FnScope ["draw", "span", "j", "found"] ["draw", "span"] (defScope s__law_digit) := ⟨rfl, rfl, rfl, by decide +kernel, rfl, by decide +kernel, by decide +kernel⟩
abbrev s__law_host : Stmt := top 29
theorem sc__law_host : FnScope ["draw", "words", "j"] ["draw"] (defScope s__law_host) := ⟨rfl, rfl, rfl, by decide +kernel, rfl, by decide +kernel, by decide +kernel⟩
abbrev s__law_pair : Stmt := top 30
theorem sc__law_pair : FnScope ["draw", "domain", "way", "number", "j"] ["draw"] (defScope s__law_pair) := ⟨rfl, rfl, rfl, by decide +kernel, rfl, by decide +kernel, by decide +kernel⟩
abbrev s__law_due : Stmt := top 31
theorem sc__law_due : FnScope ["host", "domain", "words", "last"] ["host", "domain"] (defScope s__law_due) := ⟨rfl, rfl, rfl, by decide +kernel, rfl, by decide +kernel, by decide +kernel⟩
abbrev s_law : Stmt := top 32
theorem sc_law : FnScope ["script", "k", "amount", "draw", "turn", "host", "domain"] ["script"] (defScope s_law) := ⟨rfl, rfl, rfl, by decide +kernel, rfl, by decide +kernel, by decide +kernel⟩
/-- what the top has written -/
structure Txt (K : PySem.W.Frag) (mg : Str → Option Value) : Prop where
  b_enumerate : mg "enumerate" = none
  b_int : mg "int" = none
  b_isinstance : mg "isinstance" = none
  b_len : mg "len" = none
  b_range : mg "range" = none
  b_str : mg "str" = none
  b_sum : mg "sum" = none
  b_tuple : mg "tuple" = none
  c_DIGITS : ∃ u, mg "DIGITS" = some u ∧ RelV (.str "0123456789") u
  c_MOST_OF_LABEL : ∃ u, mg "MOST_OF_LABEL" = some u ∧ RelV (.int 20) u
  c_MOST_LABELS : ∃ u, mg "MOST_LABELS" = some u ∧ RelV (.int 10) u
  c_MOST_OF_HOST : ∃ u, mg "MOST_OF_HOST" = some u ∧ RelV (.int 100) u
  c_MOST_OF_NUMBER : ∃ u, mg "MOST_OF_NUMBER" = some u ∧ RelV (.int 255) u
  c_LABEL_SIGNS : ∃ u, mg "LABEL_SIGNS" = some u ∧ RelV (.str "abcdefghijklmnopqrstuvwxyz0123456789-") u
  d_has_only : Df K mg "has_only" s_has_only ["text", "signs"]
  d_is_digits : Df K mg "is_digits" s_is_digits ["text"]
  d__is_label : Df K mg "_is_label" s__is_label ["text"]
  d_are_labels : Df K mg "are_labels" s_are_labels ["texts"]
  d__is_number : Df K mg "_is_number" s__is_number ["label"]
  d__are_four_numbers : Df K mg "_are_four_numbers" s__are_four_numbers ["labels"]
  d_is_host : Df K mg "is_host" s_is_host ["value"]
  d_need_host : Df K mg "need_host" s_need_host ["host"]
  d_labels_of : Df K mg "labels_of" s_labels_of ["host"]
  d_is_address_host : Df K mg "is_address_host" s_is_address_host ["value"]
  d_host_fits : Df K mg "host_fits" s_host_fits ["host", "domain"]
  d__law_draw : Df K mg "_law_draw" s__law_draw ["cell", "k"]
  d__law_mixed : Df K mg "_law_mixed" s__law_mixed ["cell", "k"]
  d__law_digit : Df K mg "_law_digit" s__law_digit ["draw", "span"]
  d__law_host : Df K mg "_law_host" s__law_host ["draw"]
  d__law_pair : Df K mg "_law_pair" s__law_pair ["draw"]
  d__law_due : Df K mg "_law_due" s__law_due ["host", "domain"]
def sp_has_only : Sp := fun vs H Q _ => ∃ x g : Str, vs = [.str x, .str g] ∧ x.length ≤ 1000000 ∧ Q (.bl (onlyB (tl g) (tl x))) H
def sp_is_digits : Sp := fun vs H Q _ => ∃ x : Str, vs = [.str x] ∧ x.length ≤ 1000000 ∧ Q (.bl (digB (tl x))) H
def sp__is_label : Sp := fun vs H Q _ => ∃ x : Str, vs = [.str x] ∧ x.length ≤ 1000000 ∧ Q (.bl (labB (tl x))) H
theorem one_dash (c : Nat) : decide (V.str ⟨#[c]⟩ = V.str ("-" : Str)) = decide (c = 45) := by
  rw [show ("-" : Str) = ⟨#[45]⟩ from ext_tl (by decide +kernel), dec_str, Bool.eq_iff_iff, beq_iff_eq, decide_eq_true_eq, str_eq_iff]
  show [c] = [45] ↔ _
  simp
def sp_are_labels (K : PySem.W.Frag) : Sp := fun vs H Q _ => ∃ (p : Addr) (xs : List Str), vs = [.ref p] ∧ SqL K H p (xs.map V.str) ∧ (∀ x ∈ xs, x.length ≤ 1000000) ∧ Q (.bl ((xs.map tl).all labB)) H
def sp__is_number : Sp := fun vs H Q _ => ∃ x : Str, vs = [.str x] ∧ x.length ≤ 640 ∧ Q (.bl (numB (tl x))) H
theorem one_zero (c : Nat) : decide (V.str ⟨#[c]⟩ = V.str ("0" : Str)) = decide (c = 48) := by
  rw [show ("0" : Str) = ⟨#[48]⟩ from ext_tl (by decide +kernel), dec_str, Bool.eq_iff_iff, beq_iff_eq, decide_eq_true_eq, str_eq_iff]
  show [c] = [48] ↔ _
  simp
theorem str_zero (x : Str) : decide (V.str x = V.str ("0" : Str)) = decide (tl x = [48]) := by
  rw [Bool.eq_iff_iff, decide_eq_true_eq, decide_eq_true_eq]
  exact ⟨fun e => by rw [V.str.inj e]; decide +kernel, fun e => by rw [show x = ("0" : Str) from ext_tl (by rw [e]; decide +kernel)]⟩
def sp__are_four_numbers (K : PySem.W.Frag) : Sp := fun vs H Q _ => ∃ (p : Addr) (xs : List Str), vs = [.ref p] ∧ SqL K H p (xs.map V.str) ∧ (∀ x ∈ xs, x.length ≤ 640) ∧ Q (.bl ((xs.map tl).all numB && decide (xs.length = 4))) H
def sp_is_host (K : PySem.W.Frag) : Sp := fun vs H Q _ => ∃ (v : V) (b : Bool), vs = [v] ∧ TxV hostB K H v b ∧ ∀ H', Same H H' → Q (.bl b) H'
theorem lastL_map {P : List Str} {z : Str} {P0 : List Str} (e : P = P0 ++ [z]) : lastL (P.map tl) = tl z := by
  rw [e, List.map_append]; exact lastL_snoc _ _
def sp_need_host : Sp := fun vs H Q _ => ∃ x : Str, vs = [.str x] ∧ hostB (tl x) = true ∧ ∀ H', Same H H' → Q .non H'
def sp_labels_of : Sp := fun vs H Q _ => ∃ x : Str, vs = [.str x] ∧ hostB (tl x) = true ∧ ∀ (p : Addr) (P : List Str) (H' : Hp), Same H H' → P.map tl = sp1 46 (tl x) → H' p = some (.tup (P.map V.str)) → Q (.ref p) H'
def sp_is_address_host (K : PySem.W.Frag) : Sp := fun vs H Q _ => ∃ (v : V) (b : Bool), vs = [v] ∧ TxV addrB K H v b ∧ ∀ H', Same H H' → Q (.bl b) H'
def sp_host_fits : Sp := fun vs H Q _ => ∃ x y : Str, vs = [.str x, .str y] ∧ hostB (tl x) = true ∧ hostB (tl y) = true ∧ ∀ H', Same H H' → Q (.bl (fitB (tl x) (tl y))) H'
/-- a new draw -/
def sp__law_draw : Sp := fun vs H Q _ => ∃ c k : Int, vs = [.int c, .int k] ∧ 0 ≤ k ∧ k ≤ 1000 ∧ ∀ (d : Addr) (H' : Hp), Same H H' → H d = none → DrawAt H' d 200000000 → Q (.ref d) H'
theorem dkv_merge (l c t : Int) : mergeK [] (dkv l c t) = dkv l c t := by
  simp [mergeK, dkv, putK, kne1, kne2, kne3]
/-- some number below 2147483647 -/
def sp__law_mixed : Sp := fun vs H Q _ => ∃ c k : Int, vs = [.int c, .int k] ∧ 0 ≤ k ∧ k ≤ 1000000000 ∧ ∀ (r : Int) (H' : Hp), Same H H' → 0 ≤ r → r < 2147483647 → Q (.int r) H'
/-- some number below the span -/
def sp__law_digit : Sp := fun vs H Q _ => ∃ (d : Addr) (sp : Int) (n : Nat), vs = [.ref d, .int sp] ∧ 0 < sp ∧ sp < 4000000000 ∧ DrawAt H d (n + 1) ∧
  ∀ (r : Int) (H' : Hp), 0 ≤ r → r < sp → Keep d H H' → DrawAt H' d n → Q (.int r) H'
theorem small15 {n : Nat} (h : n ≤ 15) : n < sizeLine := Nat.lt_of_le_of_lt h (by decide)
def HostS (x : Str) : Prop := ∃ L : List (List Nat), L ≠ [] ∧ L.length ≤ 4 ∧ (∀ l ∈ L, wlab l = true ∧ l.length ≤ 3) ∧ tl x = joinL [46] L
theorem HostS.w {x : Str} (h : HostS x) : HostW 4 x := by
  obtain ⟨L, h1, h2, h3, h4⟩ := h
  exact ⟨L, h1, h2, fun l hl => (h3 l hl).1, h4⟩
theorem wlab_q {l : List Nat} (h : wlab l = true) (hl : l.length ≤ 3) : wlab (113 :: l) = true := by
  have hne := lab_ne (wlab_lab h).1
  have hs := fun c (hc : c ∈ l) => lab_sign (wlab_lab h).1 hc
  have hg : l.getLast? ≠ some 45 := by
    have := (wlab_lab h).1
    unfold labB at this
    simp only [Bool.and_eq_true, decide_eq_true_eq] at this
    exact this.2.2.2
  have e1 : (113 :: l).getLast? = l.getLast? := by
    obtain ⟨r, d, er⟩ := snoc_of_ne hne
    rw [er, List.getLast?_concat, ← List.cons_append, List.getLast?_concat]
  have d1 : digB (113 :: l) = false := by
    unfold digB onlyB
    rw [show (113 :: l).all (fun c => decide (c ∈ digs)) = false by rw [List.all_cons]; rfl, Bool.false_and]
  have o1 : onlyB lsig (113 :: l) = true := by
    unfold onlyB
    rw [Bool.and_eq_true, List.all_eq_true, decide_eq_true_eq]
    refine ⟨fun c hc => ?_, by simp⟩
    rcases List.mem_cons.mp hc with rfl | hc
    · decide
    · exact decide_eq_true (hs c hc)
  unfold wlab labB
  rw [d1, o1, e1, decide_eq_true hg, decide_eq_true (by rw [List.length_cons]; omega : (113 :: l).length ≤ 20), decide_eq_true (by rw [List.length_cons]; omega : (113 :: l).length ≤ 4)]
  rfl
theorem HostS.q {x : Str} (h : HostS x) : HostW 4 (("q" : Str) ++ x) := by
  obtain ⟨L, h1, h2, h3, h4⟩ := h
  obtain ⟨p, L, rfl⟩ := List.exists_cons_of_ne_nil h1
  have e : tl ("q" : Str) = [113] := by decide +kernel
  have hp := h3 p (List.mem_cons_self ..)
  refine ⟨(113 :: p) :: L, by simp, h2, fun l hl => ?_, ?_⟩
  · rcases List.mem_cons.mp hl with rfl | hl
    · exact wlab_q hp.1 hp.2
    · exact (h3 l (List.mem_cons_of_mem _ hl)).1
  · rw [tl_append, e, h4]
    cases L with
    | nil => rfl
    | cons a b => rfl
def sp__law_host : Sp := fun vs H Q _ => ∃ (d : Addr) (n : Nat), vs = [.ref d] ∧ DrawAt H d (n + 20) ∧
  ∀ (x : Str) (H' : Hp), HostS x → Keep d H H' → DrawAt H' d n → Q (.str x) H'
theorem host_of_words {W : List Str} (h0 : W ≠ []) (h1 : W.length ≤ 4) (h2 : ∀ w ∈ W, wlab (tl w) = true ∧ (tl w).length ≤ 3) : HostS (Txt.join ("." : Str) W) :=
  ⟨W.map tl, by simp [h0], by rw [List.length_map]; exact h1, fun l hl => by obtain ⟨w, hw, rfl⟩ := List.mem_map.mp hl; exact h2 w hw, by rw [join_tl, tl_dot]⟩
def AnyHost (x : Str) : Prop := HostW 9 x ∨ AddrW x
theorem AnyHost.host {x : Str} (h : AnyHost x) : hostB (tl x) = true := by
  rcases h with h | h
  · exact (h.host (by decide)).1
  · exact h.host.1
theorem AnyHost.len {x : Str} (h : AnyHost x) : x.length ≤ 100 := hostB_len h.host
def sp__law_pair : Sp := fun vs H Q _ => ∃ (d : Addr) (n : Nat), vs = [.ref d] ∧ DrawAt H d (n + 100) ∧
  ∀ (p : Addr) (x y : Str) (H' : Hp), AnyHost x → AnyHost y → Keep d H H' → H' p = some (.tup [.str x, .str y]) → DrawAt H' d n → Q (.ref p) H'
theorem addr_join {W : List Str} (h1 : W.length = 4) (h2 : ∀ w ∈ W, ∃ n : Nat, n < 256 ∧ tl w = numL n) : AddrW (Txt.join ("." : Str) W) :=
  ⟨W.map tl, by rw [List.length_map]; exact h1, fun l hl => by obtain ⟨w, hw, rfl⟩ := List.mem_map.mp hl; exact h2 w hw, by rw [join_tl, tl_dot]⟩
def sp__law_due : Sp := fun vs H Q _ => ∃ x y : Str, vs = [.str x, .str y] ∧ hostB (tl x) = true ∧ hostB (tl y) = true ∧ ∀ H', Same H H' → Q (.bl (fitB (tl x) (tl y))) H'
def sp_law (K : PySem.W.Frag) : Sp := fun vs H Q _ => ∃ (a : Addr) (ns : List Int), vs = [.ref a] ∧ SqL K H a (ns.map V.int) ∧ ns.length ≤ 63 ∧ ∀ H', Q (.bl true) H'
theorem fitB_self (l : List Nat) : fitB l l = true := by unfold fitB; rw [decide_eq_true rfl, Bool.true_or]
section
variable {P : Program} {w : World} {K : PySem.W.Frag} {mg : Str → Option Value} {base : Heap}
theorem ok_has_only (T : Txt K mg) : Cal P w K mg base CX0 1 "has_only" ["text", "signs"] sp_has_only := by
  refine T.d_has_only.ok0 sc_has_only (fun vs H Q E h => ?_) (fun f cdv A outer s H vs Q E hr h => ?_)
  · first | (obtain ⟨_, rfl, _⟩ := h; rfl) | (obtain ⟨_, _, rfl, _⟩ := h; rfl) | (obtain ⟨_, _, _, rfl, _⟩ := h; rfl) | (obtain ⟨_, _, _, _, rfl, _⟩ := h; rfl) | (obtain ⟨_, _, _, _, _, rfl, _⟩ := h; rfl)
  · refine ⟨_, (pss_one (ps_ret (pe_and (pe_cmpR (op_ne) (pv 0) pe_str (nomark _)) (pe_one (pe_cmpR (op_eq) (pe_m1 PySem.F.slot_str_strip PySem.F.type_str_strip mt_stripChars (pv 0) (pv 1)) pe_str (nomark _)))))), ?_⟩
    obtain ⟨x, g, rfl, hx, hQ⟩ := h
    rw [← strip_only] at hQ
    refine ⟨_, rfl, rfl, _, rfl, ?_⟩
    cases hz : (!decide (V.str x = V.str ("" : Str))) with
    | false => rw [hz, Bool.false_and] at hQ; exact iteF hQ
    | true =>
      rw [hz, Bool.true_and] at hQ
      exact iteT ⟨_, rfl, ⟨_, rfl⟩, _, rfl, _, _, rfl, rfl, Nat.le_trans hx (by decide), rfl, hQ⟩
theorem ok_is_digits (T : Txt K mg) : Cal P w K mg base CX0 2 "is_digits" ["text"] sp_is_digits := by
  refine T.d_is_digits.ok0 sc_is_digits (fun vs H Q E h => ?_) (fun f cdv A outer s H vs Q E hr h => ?_)
  · first | (obtain ⟨_, rfl, _⟩ := h; rfl) | (obtain ⟨_, _, rfl, _⟩ := h; rfl) | (obtain ⟨_, _, _, rfl, _⟩ := h; rfl) | (obtain ⟨_, _, _, _, rfl, _⟩ := h; rfl) | (obtain ⟨_, _, _, _, _, rfl, _⟩ := h; rfl)
  · refine ⟨_, (pss_one (ps_ret (pe_c (ok_has_only T) hr (by decide) (by rfl) pass0 (pa_cons (pv 0) (pa_cons (pe_gc (by rfl) T.c_DIGITS) pa_nil))))), ?_⟩
    obtain ⟨x, rfl, hx, hQ⟩ := h
    exact ⟨_, rfl, x, _, rfl, hx, by rw [tl_digs]; exact hQ⟩
theorem ok__is_label (T : Txt K mg) : Cal P w K mg base CX0 2 "_is_label" ["text"] sp__is_label := by
  refine T.d__is_label.ok0 sc__is_label (fun vs H Q E h => ?_) (fun f cdv A outer s H vs Q E hr h => ?_)
  · first | (obtain ⟨_, rfl, _⟩ := h; rfl) | (obtain ⟨_, _, rfl, _⟩ := h; rfl) | (obtain ⟨_, _, _, rfl, _⟩ := h; rfl) | (obtain ⟨_, _, _, _, rfl, _⟩ := h; rfl) | (obtain ⟨_, _, _, _, _, rfl, _⟩ := h; rfl)
  · refine ⟨_, (pss_cons (ps_if (PW.pt (pw_or (pt_cmpR (op_gt) (pe_callB call_len_str (by rfl) T.b_len (by decide +kernel) (pa_cons (pv 0) pa_nil)) (pe_gc (by rfl) T.c_MOST_OF_LABEL) (nomark _)) (pw_or1 (pt_not (pt_val (pe_c (ok_has_only T) hr (by decide) (by rfl) pass0 (pa_cons (pv 0) (pa_cons (pe_gc (by rfl) T.c_LABEL_SIGNS) pa_nil))))))))
      (pss_one (ps_ret pe_bl))
      pss_nil)
      (pss_one (ps_ret (pe_and (pe_cmpR (op_ne) (pe_ix ix_str (pv 0) pe_int (fun _ _ => rfl)) pe_str (nomark _)) (pe_one (pe_cmpR (op_ne) (pe_ix ix_str (pv 0) (pe_un un_neg pe_int) (fun _ _ => rfl)) pe_str (nomark _))))))), ?_⟩
    obtain ⟨x, rfl, hx, hQ⟩ := h
    refine ⟨_, rfl, x, rfl, Nat.le_trans hx (by decide), _, _, rfl, rfl, _, rfl, iteB (fun h1 => ?_) (fun h1 => ?_)⟩
    · have h1 : (20 : Int) < (x.length : Int) := of_decide_eq_true h1
      have e : labB (tl x) = false := by
        unfold labB
        rw [decide_eq_false (by rw [len_tl] at h1; omega), Bool.false_and]
      rw [e] at hQ
      exact hQ
    have h1 : ¬ (20 : Int) < (x.length : Int) := of_decide_eq_false h1
    have hl : (tl x).length ≤ 20 := by rw [len_tl] at h1; omega
    unfold labB at hQ
    rw [decide_eq_true hl, Bool.true_and] at hQ
    refine ⟨_, rfl, x, _, rfl, hx, ?_⟩
    rw [tl_lsig]
    refine ⟨_, rfl, ?_⟩
    cases h2 : onlyB lsig (tl x) with
    | false =>
      rw [h2, Bool.false_and] at hQ
      exact iteT hQ
    | true =>
      rw [h2, Bool.true_and] at hQ
      refine iteF ?_
      have hne : tl x ≠ [] := by
        unfold onlyB at h2
        rw [Bool.and_eq_true, decide_eq_true_eq] at h2
        exact h2.2
      obtain ⟨r, d, er⟩ := snoc_of_ne hne
      obtain ⟨a, r2, ea⟩ : ∃ a r2, tl x = a :: r2 := List.exists_cons_of_ne_nil hne
      have h0 : atI x.cps.toList 0 = some a := by show atI (tl x) ((0 : Nat) : Int) = _; rw [ea]; exact atI_nat rfl
      have hz : atI x.cps.toList (-1) = some d := by show atI (tl x) (-1) = _; rw [er]; exact atI_last r d
      have e1 : (tl x).head? = some a := by rw [ea]; rfl
      have e2 : (tl x).getLast? = some d := by rw [er, List.getLast?_concat]
      rw [e1, e2] at hQ
      refine ⟨_, rfl, x, _, a, rfl, rfl, Nat.le_trans hx (by decide), h0, rfl, _, rfl, ?_⟩
      rw [one_dash]
      have e3 : decide (some a ≠ some 45) = !decide (a = 45) := by rw [Bool.eq_iff_iff]; simp
      have e4 : decide (some d ≠ some 45) = !decide (d = 45) := by rw [Bool.eq_iff_iff]; simp
      rw [e3, e4] at hQ
      cases h3 : decide (a = 45) with
      | true =>
        rw [h3] at hQ
        exact iteF hQ
      | false =>
        rw [h3] at hQ
        refine iteT ⟨_, rfl, _, rfl, x, _, d, rfl, rfl, Nat.le_trans hx (by decide), hz, rfl, ?_⟩
        rw [one_dash]
        exact hQ
theorem ok_are_labels (T : Txt K mg) : Cal P w K mg base CX0 3 "are_labels" ["texts"] (sp_are_labels K) := by
  refine T.d_are_labels.ok0 sc_are_labels (fun vs H Q E h => ?_) (fun f cdv A outer s H vs Q E hr h => ?_)
  · first | (obtain ⟨_, rfl, _⟩ := h; rfl) | (obtain ⟨_, _, rfl, _⟩ := h; rfl) | (obtain ⟨_, _, _, rfl, _⟩ := h; rfl) | (obtain ⟨_, _, _, _, rfl, _⟩ := h; rfl) | (obtain ⟨_, _, _, _, _, rfl, _⟩ := h; rfl)
  · refine ⟨_, (pss_cons (ps_for PassesOwn.never rfl (pi_list (pv 0)) (pg_name (i := 1) sc_are_labels.nd rfl (by first | exact Or.inl rfl | exact Or.inr rfl))
      (pss_one (ps_if (pt_not (pt_val (pe_c (ok__is_label T) hr (by decide) (by rfl) pass0 (pa_cons (pv 1) pa_nil))))
      (pss_one (ps_ret pe_bl))
      pss_nil)))
      (pss_one (ps_ret pe_bl))), ?_⟩
    obtain ⟨p, xs, rfl, hp, hx, hQ⟩ := h
    refine ⟨_, rfl, p, rfl, ⟨_, hp⟩, for_list (K := K) (a := p) (xs := xs.map V.str) (fun i σ H1 => ∃ sv, σ = [some (.ref p), sv] ∧ H1 = H ∧ ((xs.take i).map tl).all labB = true) ⟨none, rfl, rfl, by simp⟩ (fun i σ H1 _ ⟨_, _, e, _⟩ => by rw [e]; exact hp) ?_ ?_⟩
    · rintro i v σ H1 hi ⟨sv, rfl, rfl, ha⟩
      obtain ⟨x, hxi, rfl⟩ := strAt hi
      refine ⟨_, rfl, x, rfl, hx x (List.mem_of_getElem? hxi), _, rfl, ?_⟩
      cases hl : labB (tl x) with
      | true => exact iteF ⟨_, rfl, rfl, by rw [allS_at hxi, ha, hl]; rfl⟩
      | false =>
        have e : (xs.map tl).all labB = false := by
          rw [List.all_eq_false]
          exact ⟨tl x, List.mem_map.mpr ⟨x, List.mem_of_getElem? hxi, rfl⟩, by rw [hl]; exact Bool.false_ne_true⟩
        rw [e] at hQ
        exact iteT hQ
    · rintro σ H1 ⟨sv, rfl, rfl, ha⟩
      rw [List.length_map, List.take_length] at ha
      rw [ha] at hQ
      exact hQ
theorem ok__is_number (T : Txt K mg) : Cal P w K mg base CX0 3 "_is_number" ["label"] sp__is_number := by
  refine T.d__is_number.ok0 sc__is_number (fun vs H Q E h => ?_) (fun f cdv A outer s H vs Q E hr h => ?_)
  · first | (obtain ⟨_, rfl, _⟩ := h; rfl) | (obtain ⟨_, _, rfl, _⟩ := h; rfl) | (obtain ⟨_, _, _, rfl, _⟩ := h; rfl) | (obtain ⟨_, _, _, _, rfl, _⟩ := h; rfl) | (obtain ⟨_, _, _, _, _, rfl, _⟩ := h; rfl)
  · refine ⟨_, (pss_cons (ps_if (PW.pt (pw_or (pt_not (pt_val (pe_c (ok_is_digits T) hr (by decide) (by rfl) pass0 (pa_cons (pv 0) pa_nil)))) (pw_or1 (pt_cmpR (op_gt) (pe_callTy call_int_str (by rfl) T.b_int (by decide +kernel) (pa_cons (pv 0) pa_nil)) (pe_gc (by rfl) T.c_MOST_OF_NUMBER) (nomark _)))))
      (pss_one (ps_ret pe_bl))
      pss_nil)
      (pss_one (ps_ret (pe_or (pe_cmpR (op_eq) (pv 0) pe_str (nomark _)) (pe_one (pe_cmpR (op_ne) (pe_ix ix_str (pv 0) pe_int (fun _ _ => rfl)) pe_str (nomark _))))))), ?_⟩
    obtain ⟨x, rfl, hx, hQ⟩ := h
    unfold numB at hQ
    refine ⟨_, rfl, x, rfl, Nat.le_trans hx (by decide), _, rfl, ?_⟩
    cases h1 : digB (tl x) with
    | false =>
      rw [h1, Bool.false_and] at hQ
      exact iteT hQ
    | true =>
      rw [h1, Bool.true_and] at hQ
      refine iteF ⟨_, rfl, x, _, rfl, int_dig h1 hx, hx, _, _, rfl, rfl, _, rfl, ?_⟩
      refine iteB (fun h2 => ?_) (fun h2 => ?_)
      · have h2 : (255 : Int) < ((NumText.digitsVal (tl x) : Nat) : Int) := of_decide_eq_true h2
        rw [decide_eq_false (by omega), Bool.false_and] at hQ
        exact hQ
      · have h2 : ¬ (255 : Int) < ((NumText.digitsVal (tl x) : Nat) : Int) := of_decide_eq_false h2
        rw [decide_eq_true (by omega), Bool.true_and] at hQ
        refine ⟨_, rfl, rfl, _, rfl, ?_⟩
        rw [str_zero]
        cases h3 : decide (tl x = [48]) with
        | true =>
          rw [h3, Bool.true_or] at hQ
          exact iteT hQ
        | false =>
          rw [h3, Bool.false_or] at hQ
          obtain ⟨a, r2, ea⟩ : ∃ a r2, tl x = a :: r2 := List.exists_cons_of_ne_nil (digB_iff.mp h1).2
          have h0 : atI x.cps.toList 0 = some a := by show atI (tl x) ((0 : Nat) : Int) = _; rw [ea]; exact atI_nat rfl
          refine iteF ⟨_, rfl, x, _, a, rfl, rfl, Nat.le_trans hx (by decide), h0, rfl, ?_⟩
          rw [one_zero]
          have e3 : decide ((tl x).head? ≠ some 48) = !decide (a = 48) := by rw [ea, Bool.eq_iff_iff]; simp
          rw [e3] at hQ
          exact hQ
theorem ok__are_four_numbers (T : Txt K mg) : Cal P w K mg base CX0 4 "_are_four_numbers" ["labels"] (sp__are_four_numbers K) := by
  refine T.d__are_four_numbers.ok0 sc__are_four_numbers (fun vs H Q E h => ?_) (fun f cdv A outer s H vs Q E hr h => ?_)
  · first | (obtain ⟨_, rfl, _⟩ := h; rfl) | (obtain ⟨_, _, rfl, _⟩ := h; rfl) | (obtain ⟨_, _, _, rfl, _⟩ := h; rfl) | (obtain ⟨_, _, _, _, rfl, _⟩ := h; rfl) | (obtain ⟨_, _, _, _, _, rfl, _⟩ := h; rfl)
  · refine ⟨_, (pss_cons (ps_for PassesOwn.never rfl (pi_list (pv 0)) (pg_name (i := 1) sc__are_four_numbers.nd rfl (by first | exact Or.inl rfl | exact Or.inr rfl))
      (pss_one (ps_if (pt_not (pt_val (pe_c (ok__is_number T) hr (by decide) (by rfl) pass0 (pa_cons (pv 1) pa_nil))))
      (pss_one (ps_ret pe_bl))
      pss_nil)))
      (pss_one (ps_ret (pe_cmpR (op_eq) (pe_callB call_len_seq (by rfl) T.b_len (by decide +kernel) (pa_cons (pv 0) pa_nil)) pe_int (nomark _))))), ?_⟩
    obtain ⟨p, xs, rfl, hp, hx, hQ⟩ := h
    refine ⟨_, rfl, p, rfl, ⟨_, hp⟩, for_list (K := K) (a := p) (xs := xs.map V.str) (fun i σ H1 => ∃ sv, σ = [some (.ref p), sv] ∧ H1 = H ∧ ((xs.take i).map tl).all numB = true) ⟨none, rfl, rfl, by simp⟩ (fun i σ H1 _ ⟨_, _, e, _⟩ => by rw [e]; exact hp) ?_ ?_⟩
    · rintro i v σ H1 hi ⟨sv, rfl, rfl, ha⟩
      obtain ⟨x, hxi, rfl⟩ := strAt hi
      refine ⟨_, rfl, x, rfl, hx x (List.mem_of_getElem? hxi), _, rfl, ?_⟩
      cases hl : numB (tl x) with
      | true => exact iteF ⟨_, rfl, rfl, by rw [allS_at hxi, ha, hl]; rfl⟩
      | false =>
        have e : (xs.map tl).all numB = false := by
          rw [List.all_eq_false]
          exact ⟨tl x, List.mem_map.mpr ⟨x, List.mem_of_getElem? hxi, rfl⟩, by rw [hl]; exact Bool.false_ne_true⟩
        rw [e, Bool.false_and] at hQ
        exact iteT hQ
    · rintro σ H1 ⟨sv, rfl, rfl, ha⟩
      rw [List.length_map, List.take_length] at ha
      rw [ha, Bool.true_and] at hQ
      refine ⟨_, rfl, p, _, rfl, .inl hp, rfl, ?_⟩
      have e : decide (V.int ((xs.map V.str).length : Nat) = V.int 4) = decide (xs.length = 4) := by
        rw [dec_int, Bool.eq_iff_iff, beq_iff_eq, decide_eq_true_eq, List.length_map]; omega
      rw [e]
      exact hQ
theorem ok_is_host (T : Txt K mg) : Cal P w K mg base CX0 5 "is_host" ["value"] (sp_is_host K) := by
  refine T.d_is_host.ok0 sc_is_host (fun vs H Q E h => ?_) (fun f cdv A outer s H vs Q E hr h => ?_)
  · first | (obtain ⟨_, rfl, _⟩ := h; rfl) | (obtain ⟨_, _, rfl, _⟩ := h; rfl) | (obtain ⟨_, _, _, rfl, _⟩ := h; rfl) | (obtain ⟨_, _, _, _, rfl, _⟩ := h; rfl) | (obtain ⟨_, _, _, _, _, rfl, _⟩ := h; rfl)
  · refine ⟨_, (pss_cons (ps_if (PW.pt (pw_or (pt_not (pt_val (pe_callB call_isi (by rfl) T.b_isinstance (by decide +kernel) (pa_cons (pv 0) (pa_cons (pe_bltn (v := .ty "str") (by rfl) T.b_str (by decide +kernel) rfl) pa_nil))))) (pw_or1 (pt_cmpR (op_gt) (pe_callB call_len_str (by rfl) T.b_len (by decide +kernel) (pa_cons (pv 0) pa_nil)) (pe_gc (by rfl) T.c_MOST_OF_HOST) (nomark _)))))
      (pss_one (ps_ret pe_bl))
      pss_nil)
      (pss_cons (ps_set (i := 1) sc_is_host.nd rfl (by first | exact Or.inl rfl | exact Or.inr rfl) (pe_split (pv 0) pe_str))
      (pss_cons (ps_if (PW.pt (pw_or (pt_cmpR (op_gt) (pe_callB call_len_seq (by rfl) T.b_len (by decide +kernel) (pa_cons (pv 1) pa_nil)) (pe_gc (by rfl) T.c_MOST_LABELS) (nomark _)) (pw_or1 (pt_not (pt_val (pe_c (ok_are_labels T) hr (by decide) (by rfl) pass0 (pa_cons (pv 1) pa_nil)))))))
      (pss_one (ps_ret pe_bl))
      pss_nil)
      (pss_one (ps_ret (pe_or (pe_not (pe_c (ok_is_digits T) hr (by decide) (by rfl) pass0 (pa_cons (pe_ix ix_list (pv 1) (pe_un un_neg pe_int) (fun _ _ => rfl)) pa_nil))) (pe_one (pe_c (ok__are_four_numbers T) hr (by decide) (by rfl) pass0 (pa_cons (pv 1) pa_nil))))))))), ?_⟩
    obtain ⟨v, b, rfl, hv, hQ⟩ := h
    rcases hv with ⟨x, rfl, hx, rfl⟩ | ⟨t, ht, hk, rfl⟩
    · refine ⟨_, rfl, _, _, _, _, true, rfl, .ty _, .base (.str x), kit_str K, _, rfl, iteF ?_⟩
      refine ⟨_, rfl, x, rfl, Nat.le_trans hx (by decide), _, _, rfl, rfl, _, rfl, iteB (fun h1 => ?_) (fun h1 => ?_)⟩
      · have h1 : (100 : Int) < (x.length : Int) := of_decide_eq_true h1
        have e : hostB (tl x) = false := by
          unfold hostB
          rw [decide_eq_false (by rw [len_tl] at h1; omega), Bool.false_and]
        rw [e] at hQ
        exact hQ _ (Same.refl _)
      have h1 : ¬ (100 : Int) < (x.length : Int) := of_decide_eq_false h1
      have hl : (tl x).length ≤ 100 := by rw [len_tl] at h1; omega
      have hl2 : x.length ≤ 100 := by rw [len_tl]; exact hl
      unfold hostB at hQ
      rw [decide_eq_true hl, Bool.true_and] at hQ
      refine ⟨_, rfl, ⟨_, rfl⟩, _, _, rfl, rfl, by decide +kernel, Nat.le_trans (by omega : _ ≤ 10000) (by decide), fun p hp => ?_⟩
      have e1 := split_sp1 x (c := 46) (by decide)
      have ml : ∀ p ∈ Txt.split x ⟨#[46]⟩, p.length ≤ x.length := fun p hp => split_mem_len (c := 46) (by decide) hp
      rw [← dot_eq] at e1 ml
      rw [← e1] at hQ
      have hne : Txt.split x ("." : Str) ≠ [] := fun e => by rw [e] at e1; exact sp1_ne _ _ e1.symm
      generalize Txt.split x ("." : Str) = P at *
      obtain ⟨P0, z, eP⟩ : ∃ P0 z, P = P0 ++ [z] := ⟨P.dropLast, P.getLast hne, (List.dropLast_concat_getLast hne).symm⟩
      have s1 := Same.new (o := HO.lst (P.map V.str)) hp
      have m1 : (upd H p (.lst (P.map V.str))) p = some (.lst (P.map V.str)) := upd_same
      generalize upd H p (.lst (P.map V.str)) = H1 at s1 m1 ⊢
      unfold hostL at hQ
      refine ⟨_, rfl, p, _, rfl, .inl (SqL.of m1), _, _, rfl, rfl, _, rfl, iteB (fun h2 => ?_) (fun h2 => ?_)⟩
      · have h2 : (10 : Int) < ((P.map V.str).length : Int) := of_decide_eq_true h2
        rw [List.length_map] at h2
        rw [decide_eq_false (by rw [List.length_map]; omega), Bool.false_and] at hQ
        exact hQ _ s1
      have h2 : ¬ (10 : Int) < ((P.map V.str).length : Int) := of_decide_eq_false h2
      rw [List.length_map] at h2
      rw [decide_eq_true (by rw [List.length_map]; omega), Bool.true_and] at hQ
      refine ⟨_, rfl, p, P, rfl, SqL.of m1, fun y hy => Nat.le_trans (ml y hy) (by omega), _, rfl, ?_⟩
      cases h3 : (P.map tl).all labB with
      | false =>
        rw [h3, Bool.false_and] at hQ
        exact iteT (hQ _ s1)
      | true =>
        rw [h3, Bool.true_and, lastL_map eP] at hQ
        refine iteF ?_
        have ha : atI (P.map V.str) (-1) = some (.str z) := by rw [eP, List.map_append]; exact atI_last _ _
        refine ⟨_, rfl, _, rfl, p, _, _, _, rfl, rfl, SqL.of m1, ha, z, rfl, Nat.le_trans (ml z (by rw [eP]; simp)) (by omega), _, rfl, _, rfl, ?_⟩
        cases h4 : digB (tl z) with
        | false =>
          rw [h4] at hQ
          exact iteT (hQ _ s1)
        | true =>
          rw [h4] at hQ
          refine iteF ⟨_, rfl, p, P, rfl, SqL.of m1, fun y hy => Nat.le_trans (ml y hy) (by omega), ?_⟩
          rw [List.length_map] at hQ
          exact hQ _ s1
    · refine ⟨_, rfl, _, _, _, _, false, rfl, .ty _, ht, hk, _, rfl, iteT ?_⟩
      exact hQ _ (Same.refl _)
theorem ok_need_host (T : Txt K mg) : Cal P w K mg base CX0 6 "need_host" ["host"] sp_need_host := by
  refine T.d_need_host.ok0 sc_need_host (fun vs H Q E h => ?_) (fun f cdv A outer s H vs Q E hr h => ?_)
  · first | (obtain ⟨_, rfl, _⟩ := h; rfl) | (obtain ⟨_, _, rfl, _⟩ := h; rfl) | (obtain ⟨_, _, _, rfl, _⟩ := h; rfl) | (obtain ⟨_, _, _, _, rfl, _⟩ := h; rfl) | (obtain ⟨_, _, _, _, _, rfl, _⟩ := h; rfl)
  · refine ⟨_, (pss_cons (ps_if (pt_not (pt_val (pe_callB call_isi (by rfl) T.b_isinstance (by decide +kernel) (pa_cons (pv 0) (pa_cons (pe_bltn (v := .ty "str") (by rfl) T.b_str (by decide +kernel) rfl) pa_nil)))))
      (pss_one ps_never)
      pss_nil)
      (pss_one (ps_if (pt_not (pt_val (pe_c (ok_is_host T) hr (by decide) (by rfl) pass0 (pa_cons (pv 0) pa_nil))))
      (pss_one ps_never)
      pss_nil))), ?_⟩
    obtain ⟨x, rfl, hx, hQ⟩ := h
    have hl := hostB_len hx
    refine ⟨_, rfl, _, _, _, _, true, rfl, .ty _, .base (.str x), kit_str K, _, rfl, iteF ?_⟩
    refine ⟨_, rfl, .str x, true, rfl, .inl ⟨x, rfl, by omega, hx.symm⟩, fun H1 s1 => ⟨_, rfl, iteF ?_⟩⟩
    exact hQ _ s1
theorem ok_labels_of (T : Txt K mg) : Cal P w K mg base CX0 7 "labels_of" ["host"] sp_labels_of := by
  refine T.d_labels_of.ok0 sc_labels_of (fun vs H Q E h => ?_) (fun f cdv A outer s H vs Q E hr h => ?_)
  · first | (obtain ⟨_, rfl, _⟩ := h; rfl) | (obtain ⟨_, _, rfl, _⟩ := h; rfl) | (obtain ⟨_, _, _, rfl, _⟩ := h; rfl) | (obtain ⟨_, _, _, _, rfl, _⟩ := h; rfl) | (obtain ⟨_, _, _, _, _, rfl, _⟩ := h; rfl)
  · refine ⟨_, (pss_cons (ps_expr (pe_c (ok_need_host T) hr (by decide) (by rfl) pass0 (pa_cons (pv 0) pa_nil)))
      (pss_one (ps_ret (pe_callTy call_tuple_of (by rfl) T.b_tuple (by decide +kernel) (pa_cons (pe_split (pv 0) pe_str) pa_nil))))), ?_⟩
    obtain ⟨x, rfl, hx, hQ⟩ := h
    have hl := hostB_len hx
    refine ⟨_, rfl, x, rfl, hx, fun H1 s1 => ?_⟩
    refine ⟨_, rfl, ⟨_, rfl⟩, _, _, rfl, rfl, by decide +kernel, Nat.le_trans (by omega : _ ≤ 10000) (by decide), fun p hp => ?_⟩
    have e1 := split_sp1 x (c := 46) (by decide)
    rw [← dot_eq] at e1
    have s2 := Same.new (o := HO.lst ((Txt.split x ("." : Str)).map V.str)) hp
    refine ⟨p, _, rfl, .inl ⟨SqL.of upd_same, fun l hl => ?_⟩⟩
    exact hQ l _ _ ((s1.trans s2).trans (Same.new hl)) e1 upd_same
theorem ok_is_address_host (T : Txt K mg) : Cal P w K mg base CX0 6 "is_address_host" ["value"] (sp_is_address_host K) := by
  refine T.d_is_address_host.ok0 sc_is_address_host (fun vs H Q E h => ?_) (fun f cdv A outer s H vs Q E hr h => ?_)
  · first | (obtain ⟨_, rfl, _⟩ := h; rfl) | (obtain ⟨_, _, rfl, _⟩ := h; rfl) | (obtain ⟨_, _, _, rfl, _⟩ := h; rfl) | (obtain ⟨_, _, _, _, rfl, _⟩ := h; rfl) | (obtain ⟨_, _, _, _, _, rfl, _⟩ := h; rfl)
  · refine ⟨_, (pss_one (ps_ret (pe_and (pe_c (ok_is_host T) hr (by decide) (by rfl) pass0 (pa_cons (pv 0) pa_nil)) (pe_one (pe_c (ok_is_digits T) hr (by decide) (by rfl) pass0 (pa_cons (pe_ix ix_list (pe_split (pv 0) pe_str) (pe_un un_neg pe_int) (fun _ _ => rfl)) pa_nil)))))), ?_⟩
    obtain ⟨v, b, rfl, hv, hQ⟩ := h
    rcases hv with ⟨x, rfl, hx, rfl⟩ | ⟨t, ht, hk, rfl⟩
    · refine ⟨_, rfl, .str x, _, rfl, .inl ⟨x, rfl, hx, rfl⟩, fun H1 s1 => ⟨_, rfl, ?_⟩⟩
      unfold addrB at hQ
      cases h1 : hostB (tl x) with
      | false =>
        rw [h1, Bool.false_and] at hQ
        exact iteF (hQ _ s1)
      | true =>
        rw [h1, Bool.true_and] at hQ
        have hl := hostB_len h1
        refine iteT ⟨_, rfl, ⟨_, rfl⟩, _, _, rfl, rfl, by decide +kernel, Nat.le_trans (by omega : _ ≤ 10000) (by decide), fun p hp => ?_⟩
        have e1 := split_sp1 x (c := 46) (by decide)
        rw [← dot_eq] at e1
        rw [← e1] at hQ
        have hne : Txt.split x ("." : Str) ≠ [] := fun e => by rw [e] at e1; exact sp1_ne _ _ e1.symm
        generalize ePx : Txt.split x ("." : Str) = P at *
        obtain ⟨P0, z, eP⟩ : ∃ P0 z, P = P0 ++ [z] := ⟨P.dropLast, P.getLast hne, (List.dropLast_concat_getLast hne).symm⟩
        rw [eP] at ePx
        have s2 := Same.new (o := HO.lst (P.map V.str)) hp
        rw [lastL_map eP] at hQ
        have hz : z.length ≤ 1000000 := Nat.le_trans (split_mem_len (x := x) (c := 46) (by decide) (by rw [← dot_eq, ePx]; simp)) hx
        have ha : atI (P.map V.str) (-1) = some (.str z) := by rw [eP, List.map_append]; exact atI_last _ _
        exact ⟨_, rfl, p, _, _, _, rfl, rfl, SqL.of upd_same, ha, z, rfl, hz, hQ _ (s1.trans s2)⟩
    · refine ⟨_, rfl, v, false, rfl, .inr ⟨t, ht, hk, rfl⟩, fun H1 s1 => ⟨_, rfl, iteF ?_⟩⟩
      exact hQ _ s1
theorem ok_host_fits (T : Txt K mg) : Cal P w K mg base CX0 7 "host_fits" ["host", "domain"] sp_host_fits := by
  refine T.d_host_fits.ok0 sc_host_fits (fun vs H Q E h => ?_) (fun f cdv A outer s H vs Q E hr h => ?_)
  · first | (obtain ⟨_, rfl, _⟩ := h; rfl) | (obtain ⟨_, _, rfl, _⟩ := h; rfl) | (obtain ⟨_, _, _, rfl, _⟩ := h; rfl) | (obtain ⟨_, _, _, _, rfl, _⟩ := h; rfl) | (obtain ⟨_, _, _, _, _, rfl, _⟩ := h; rfl)
  · refine ⟨_, (pss_cons (ps_expr (pe_c (ok_need_host T) hr (by decide) (by rfl) pass0 (pa_cons (pv 0) pa_nil)))
      (pss_cons (ps_expr (pe_c (ok_need_host T) hr (by decide) (by rfl) pass0 (pa_cons (pv 1) pa_nil)))
      (pss_cons (ps_if (pt_cmpR (op_eq) (pv 0) (pv 1) (nomark _))
      (pss_one (ps_ret pe_bl))
      pss_nil)
      (pss_one (ps_ret (pe_and (pe_not (pe_c (ok_is_address_host T) hr (by decide) (by rfl) pass0 (pa_cons (pv 0) pa_nil))) (pe_one (pe_m1 PySem.F.slot_str_endswith PySem.F.type_str_endswith mt_endswith (pv 0) (pe_op op_add_str pe_str (pv 1)))))))))), ?_⟩
    obtain ⟨x, y, rfl, hx, hy, hQ⟩ := h
    have hxl := hostB_len hx
    have hyl := hostB_len hy
    refine ⟨_, rfl, x, rfl, hx, fun H1 s1 => ⟨_, rfl, y, rfl, hy, fun H2 s2 => ?_⟩⟩
    have s12 := s1.trans s2
    refine ⟨_, rfl, _, rfl, rfl, _, rfl, iteB (fun h1 => ?_) (fun h1 => ?_)⟩
    · have e : x = y := V.str.inj (of_decide_eq_true h1)
      subst e
      have : fitB (tl x) (tl x) = true := by unfold fitB; rw [decide_eq_true rfl, Bool.true_or]
      rw [this] at hQ
      exact hQ _ s12
    have hne : tl x ≠ tl y := fun e => of_decide_eq_false h1 (by rw [ext_tl e])
    unfold fitB at hQ
    rw [decide_eq_false hne, Bool.false_or] at hQ
    refine ⟨_, rfl, .str x, _, rfl, .inl ⟨x, rfl, by omega, rfl⟩, fun H3 s3 => ⟨_, rfl, ?_⟩⟩
    refine ⟨_, rfl, ?_⟩
    cases h2 : addrB (tl x) with
    | true =>
      rw [h2] at hQ
      exact iteF (hQ _ (s12.trans s3))
    | false =>
      rw [h2] at hQ
      have hd1 : ("." : Str).length = 1 := by decide +kernel
      have hdl : ("." : Str).length + y.length ≤ 10000 := by omega
      refine iteT ⟨_, rfl, ⟨_, rfl⟩, _, rfl, _, _, rfl, rfl, Nat.le_trans hdl (by decide), _, _, rfl, rfl, ?_⟩
      rw [endswith_tl, tl_append, tl_dot]
      exact hQ _ (s12.trans s3)
theorem ok__law_draw (T : Txt K mg) : Cal P w K mg base CX0 1 "_law_draw" ["cell", "k"] sp__law_draw := by
  refine T.d__law_draw.ok0 sc__law_draw (fun vs H Q E h => ?_) (fun f cdv A outer s H vs Q E hr h => ?_)
  · first | (obtain ⟨_, rfl, _⟩ := h; rfl) | (obtain ⟨_, _, rfl, _⟩ := h; rfl) | (obtain ⟨_, _, _, rfl, _⟩ := h; rfl) | (obtain ⟨_, _, _, _, rfl, _⟩ := h; rfl) | (obtain ⟨_, _, _, _, _, rfl, _⟩ := h; rfl)
  · refine ⟨_, (pss_one (ps_ret (pe_disp (pps_cons pe_str (pe_ifExp (pt_cmpR (op_ge) (pv 0) (pe_op op_pow pe_int pe_int) (nomark _)) (pv 0) pe_int) (pps_cons pe_str (pv 0) (pps_cons pe_str (pe_op op_mul pe_int (pv 1)) pps_nil))) rfl rfl (by simp) (by decide)))), ?_⟩
    obtain ⟨c, k, rfl, hk0, hk1, hQ⟩ := h
    have fin : ∀ l : Int, 0 ≤ l → ∀ p, H p = none → Q (.ref p) (upd (upd H p (.dK [])) p (.dK (mergeK [] (dkv l c (1000 * k))))) := fun l hl p hp =>
      hQ _ _ (fun b o e => by rw [upd_ne (ne_of_none e hp), upd_ne (ne_of_none e hp)]; exact e) hp ⟨l, c, 1000 * k, by rw [upd_same, dkv_merge], hl, by omega, by omega⟩
    intro p hp
    refine ⟨_, rfl, _, _, rfl, rfl, ⟨by decide, by decide, by decide⟩, _, _, rfl, rfl, _, rfl, ?_⟩
    refine iteB (fun hb => ?_) (fun hb => ?_)
    · have hc : (10 : Int) ^ (18 : Int).toNat ≤ c := of_decide_eq_true hb
      have h0 : (0 : Int) ≤ (10 : Int) ^ (18 : Int).toNat := by decide
      refine ⟨_, rfl, _, rfl, _, rfl, _, _, rfl, rfl, .inl ⟨by decide, by decide⟩, upd_same, dkv c c (1000 * k), rfl, by show 3 ≤ 15; decide, fin c (by omega) p hp⟩
    · refine ⟨_, rfl, _, rfl, _, _, rfl, rfl, .inl ⟨by decide, by decide⟩, upd_same, dkv 0 c (1000 * k), rfl, by show 3 ≤ 15; decide, fin 0 (by omega) p hp⟩
theorem ok__law_mixed (T : Txt K mg) : Cal P w K mg base CX0 1 "_law_mixed" ["cell", "k"] sp__law_mixed := by
  refine T.d__law_mixed.ok0 sc__law_mixed (fun vs H Q E h => ?_) (fun f cdv A outer s H vs Q E hr h => ?_)
  · first | (obtain ⟨_, rfl, _⟩ := h; rfl) | (obtain ⟨_, _, rfl, _⟩ := h; rfl) | (obtain ⟨_, _, _, rfl, _⟩ := h; rfl) | (obtain ⟨_, _, _, _, rfl, _⟩ := h; rfl) | (obtain ⟨_, _, _, _, _, rfl, _⟩ := h; rfl)
  · refine ⟨_, (pss_cons (ps_set (i := 2) sc__law_mixed.nd rfl (by first | exact Or.inl rfl | exact Or.inr rfl) (pe_op op_add (pe_op op_add (pe_op op_mod (pe_callTy call_int1 (by rfl) T.b_int (by decide +kernel) (pa_cons (pv 0) pa_nil)) (pe_ix ix_list (pe_lst (pa_cons pe_int (pa_cons pe_int (pa_cons pe_int (pa_cons pe_int pa_nil))))) (pe_op op_mod (pe_callTy call_int1 (by rfl) T.b_int (by decide +kernel) (pa_cons (pv 1) pa_nil)) pe_int) (fun _ _ => rfl))) (pe_op op_mul pe_int (pv 1))) pe_int))
      (pss_one (ps_ret (pe_op op_mod (pe_callTy call_int1 (by rfl) T.b_int (by decide +kernel) (pa_cons (pe_op op_mul (pe_op op_mod (pe_callTy call_int1 (by rfl) T.b_int (by decide +kernel) (pa_cons (pe_op op_mul (pv 2) (pv 2)) pa_nil)) pe_int) pe_int) pa_nil)) pe_int)))), ?_⟩
    obtain ⟨c, k, rfl, hk0, hk1, hQ⟩ := h
    refine ⟨_, rfl, .inl ⟨_, rfl, ?_⟩⟩
    refine ⟨by show 4 ≤ sizeLine; decide, fun p hp => ?_⟩
    refine ⟨_, rfl, .inl ⟨_, rfl, ?_⟩⟩
    refine ⟨_, _, rfl, rfl, by show (0 : Int) < 4; decide, ?_⟩
    obtain ⟨v, hv, ha⟩ := menu (xs := [V.int 1000000007, V.int 998244353, V.int 2147483629, V.int 1000000009]) (i := k % 4) (by omega) (by show k % 4 < 4; omega)
    obtain ⟨m, rfl, hm0, hm1⟩ : ∃ m : Int, v = .int m ∧ 0 < m ∧ m < 2147483647 := by
      simp only [List.mem_cons, List.not_mem_nil, or_false] at hv
      rcases hv with rfl | rfl | rfl | rfl <;> exact ⟨_, rfl, by decide, by decide⟩
    refine ⟨p, _, _, _, rfl, rfl, SqL.of upd_same, ha, ?_⟩
    refine ⟨_, _, rfl, rfl, hm0, ?_⟩
    refine ⟨_, rfl, _, _, rfl, rfl, .inl ⟨by decide, by decide⟩, ?_⟩
    refine ⟨_, _, rfl, rfl, ?_⟩
    refine ⟨_, _, rfl, rfl, ?_⟩
    have h1 : 0 ≤ c % m := Int.emod_nonneg _ (by omega)
    have h2 : c % m < m := Int.emod_lt_of_pos _ hm0
    generalize c % m = q at h1 h2 ⊢
    refine ⟨_, rfl, _, rfl, _, _, rfl, rfl, .inl ⟨by show (-(2 ^ 64) : Int) < q + 7919 * k + 13; omega, by show q + 7919 * k + 13 < (2 ^ 64 : Int); omega⟩, ?_⟩
    refine .inl ⟨_, rfl, ?_⟩
    refine ⟨_, _, rfl, rfl, by show (0 : Int) < 2147483647; decide, ?_⟩
    refine ⟨_, _, rfl, rfl, .inr ⟨by decide, by decide⟩, ?_⟩
    refine .inl ⟨_, rfl, ?_⟩
    refine ⟨_, _, rfl, rfl, by show (0 : Int) < 2147483647; decide, ?_⟩
    exact hQ _ _ (Same.new hp) (Int.emod_nonneg _ (by decide)) (Int.emod_lt_of_pos _ (by decide))
theorem ok__law_digit (T : Txt K mg) : Cal P w K mg base CX0 2 "_law_digit" ["draw", "span"] sp__law_digit := by
  refine T.d__law_digit.ok0 sc__law_digit (fun vs H Q E h => ?_) (fun f cdv A outer s H vs Q E hr h => ?_)
  · first | (obtain ⟨_, rfl, _⟩ := h; rfl) | (obtain ⟨_, _, rfl, _⟩ := h; rfl) | (obtain ⟨_, _, _, rfl, _⟩ := h; rfl) | (obtain ⟨_, _, _, _, rfl, _⟩ := h; rfl) | (obtain ⟨_, _, _, _, _, rfl, _⟩ := h; rfl)
  · have hu := hu_of hr
    refine ⟨_, (Evl.pss_cut (ps_if (pt_cmpR (op_eq) (pe_dget hu (pv 0) pe_str (fun _ _ => rfl)) pe_int (nomark _))
      (pss_one (ps_for PassesOwn.never rfl (pi_range1 (by rfl) T.b_range (pa_cons pe_int pa_nil)) (pg_name (i := 2) sc__law_digit.nd rfl (by first | exact Or.inl rfl | exact Or.inr rfl))
      (pss_cons (ps_dput hu (pv 0) pe_str (pe_op op_add (pe_dget hu (pv 0) pe_str (fun _ _ => rfl)) pe_int) rfl)
      (pss_one (ps_dput hu (pv 0) pe_str (pe_op op_add (pe_op op_mul (pe_dget hu (pv 0) pe_str (fun _ _ => rfl)) pe_int) (pe_c (ok__law_mixed T) hr (by decide) (by rfl) pass0 (pa_cons (pe_dget hu (pv 0) pe_str (fun _ _ => rfl)) (pa_cons (pe_dget hu (pv 0) pe_str (fun _ _ => rfl)) pa_nil)))) rfl)))))
      pss_nil)
      (pss_cons (ps_set (i := 3) sc__law_digit.nd rfl (by first | exact Or.inl rfl | exact Or.inr rfl) (pe_op op_mod (pe_callTy call_int1 (by rfl) T.b_int (by decide +kernel) (pa_cons (pe_dget hu (pv 0) pe_str (fun _ _ => rfl)) pa_nil)) (pv 1)))
      (pss_cons (ps_dput hu (pv 0) pe_str (pe_op op_fdivW (pe_callTy call_int1 (by rfl) T.b_int (by decide +kernel) (pa_cons (pe_dget hu (pv 0) pe_str (fun _ _ => rfl)) pa_nil)) (pv 1)) rfl)
      (pss_one (ps_ret (pv 3)))))), ?_⟩
    obtain ⟨d, sp, n, rfl, hs0, hs1, ⟨l, c, t, hd, hl, ht, hn⟩, hQ⟩ := h
    refine ⟨fun σ' H' => ∃ (j : Option V) (l1 t1 : Int), σ' = [some (.ref d), some (.int sp), j, none] ∧ Keep d H H' ∧ H' d = some (.dK (dkv l1 c t1)) ∧ 0 ≤ l1 ∧ 0 ≤ t1 ∧ t1 + 4 * (n : Int) ≤ 1000000000, ?_, ?_⟩
    · refine ⟨_, rfl, d, _, rfl, dget_left hd, rfl, _, rfl, ?_⟩
      refine iteB (fun hb => ?_) (fun hb => ?_)
      · refine ⟨4, rfl, by decide, by decide, for_range (n := 4) (fun i σ H1 => ∃ (j : Option V) (l1 t1 : Int), σ = [some (.ref d), some (.int sp), j, none] ∧ Keep d H H1 ∧ H1 d = some (.dK (dkv l1 c t1)) ∧ 0 ≤ l1 ∧ 0 ≤ t1 ∧ t1 = t + i) ⟨none, l, t, rfl, Keep.refl, hd, hl, ht, by simp⟩ ?_ ?_⟩
        · rintro i σ H1 hi ⟨j, l1, t1, rfl, k1, h1, hl1, ht1, et⟩
          refine ⟨_, rfl, d, _, rfl, dget_turns h1, _, _, rfl, rfl, _, rfl, d, _, rfl, dput_turns _ h1, ?_⟩
          have h2 : (upd H1 d (.dK (dkv l1 c (t1 + 1)))) d = some (.dK (dkv l1 c (t1 + 1))) := upd_same
          refine ⟨_, rfl, d, _, rfl, dget_left h2, _, _, rfl, rfl, .inr ⟨by decide, by decide⟩, _, rfl, d, _, rfl, dget_cell h2, _, rfl, d, _, rfl, dget_turns h2, ?_⟩
          refine ⟨_, _, rfl, by omega, by omega, fun r H3 s3 hr0 hr1 => ?_⟩
          refine ⟨_, _, rfl, rfl, _, rfl, d, _, rfl, dput_left _ (s3 _ _ h2), ?_⟩
          exact ⟨_, _, _, rfl, ((k1.upd).same s3).upd, upd_same, by omega, by omega, by omega⟩
        · rintro σ H1 ⟨j, l1, t1, rfl, k1, h1, hl1, ht1, et⟩
          exact ⟨j, l1, t1, rfl, k1, h1, hl1, ht1, by omega⟩
      · exact ⟨none, l, t, rfl, Keep.refl, hd, hl, ht, by omega⟩
    · rintro σ' H1 ⟨j, l1, t1, rfl, k1, h1, hl1, ht1, ht2⟩
      refine ⟨_, rfl, d, _, rfl, dget_left h1, .inl ⟨_, rfl, _, rfl, _, _, rfl, rfl, hs0, ?_⟩⟩
      refine ⟨_, rfl, d, _, rfl, dget_left h1, .inl ⟨_, rfl, _, rfl, _, _, rfl, rfl, ?_, _, rfl, d, _, rfl, dput_left _ h1, ?_⟩⟩
      · exact wide_div (b := 32) hs0 (by omega) (by decide) (by decide)
      · exact ⟨_, rfl, hQ _ _ (Int.emod_nonneg _ (by omega)) (Int.emod_lt_of_pos _ hs0) k1.upd ⟨_, _, _, upd_same, Int.ediv_nonneg hl1 (by omega), ht1, ht2⟩⟩
theorem ok__law_host (T : Txt K mg) : Cal P w K mg base CX0 3 "_law_host" ["draw"] sp__law_host := by
  refine T.d__law_host.ok0 sc__law_host (fun vs H Q E h => ?_) (fun f cdv A outer s H vs Q E hr h => ?_)
  · first | (obtain ⟨_, rfl, _⟩ := h; rfl) | (obtain ⟨_, _, rfl, _⟩ := h; rfl) | (obtain ⟨_, _, _, rfl, _⟩ := h; rfl) | (obtain ⟨_, _, _, _, rfl, _⟩ := h; rfl) | (obtain ⟨_, _, _, _, _, rfl, _⟩ := h; rfl)
  · refine ⟨_, (pss_cons (ps_setLc (i := 1) (own := [(("j" : Str), 2)]) rfl sc__law_host.nd rfl rfl (sw_true rfl rfl rfl (by decide +kernel)) (pi_range1 (by rfl) T.b_range (pa_cons (pe_op op_add pe_int (pe_c (ok__law_digit T) hr (by decide) (by rfl) pass0 (pa_cons (pv 0) (pa_cons pe_int pa_nil)))) pa_nil)) (blkOk_by (N := ["draw", "words", "j"]) (sc := defScope s__law_host) (by decide +kernel)) (fun _ _ _ _ _ => (pg_name (i := 2) sc__law_host.nd rfl (by first | exact Or.inl rfl | exact Or.inr rfl))) (fun _ _ _ _ _ => pts_nil) (fun _ _ _ _ _ => (pe_ix (show IxR _ (rIxL K) from ix_list) (pe_lst (pa_cons pe_str (pa_cons pe_str (pa_cons pe_str (pa_cons pe_str (pa_cons pe_str (pa_cons pe_str pa_nil))))))) (pe_c (ok__law_digit T) hr (by decide) (by rfl) pass0 (pa_cons (pv 0) (pa_cons pe_int pa_nil))) (fun _ _ => rfl))))
      (pss_one (ps_ret (pe_join pe_str (pv 1))))), ?_⟩
    obtain ⟨d, n, rfl, D, hQ⟩ := h
    refine ⟨_, rfl, d, 4, n + 19, rfl, by decide, by decide, D, fun r H1 h0 h1 k1 D1 => ?_⟩
    obtain ⟨m, rfl⟩ : ∃ m : Nat, r = (m : Int) := ⟨r.toNat, by omega⟩
    refine ⟨_, _, rfl, rfl, _, rfl, by omega, by omega, fun L hL => ?_⟩
    have hdL : L ≠ d := D1.ne hL
    refine lc_range (n := ((1 : Int) + (m : Int)).toNat) (fun i H2 => ∃ W : List Str, W.length = i ∧ (∀ w ∈ W, wlab (tl w) = true ∧ (tl w).length ≤ 3) ∧ H2 L = some (.lst (W.map V.str)) ∧ Keep d H1 H2 ∧ DrawAt H2 d (n + 19 - i)) ⟨[], rfl, by simp, upd_same, Keep.refl.updN hL, D1.upd hdL.symm⟩ ?_ ?_
    · rintro i H2 hi ⟨W, hW, hw, hl, kk, D2⟩
      refine ⟨rfl, ?_⟩
      refine ⟨by show 6 ≤ sizeLine; decide, fun p hp => ?_⟩
      have pd := D2.ne hp
      refine ⟨_, rfl, d, 6, n + 19 - i - 1, rfl, by decide, by decide, (D2.upd pd.symm).less (by omega), fun r H3 h0 h1 k3 D3 => ?_⟩
      obtain ⟨v, hv, ha⟩ := menu (xs := [V.str "a", V.str "b", V.str "ab", V.str "b0", V.str "x-y", V.str "9a"]) (i := r) h0 (by show r < 6; omega)
      obtain ⟨z, rfl, hz⟩ : ∃ z : Str, v = .str z ∧ wlab (tl z) = true ∧ (tl z).length ≤ 3 := by
        simp only [List.mem_cons, List.not_mem_nil, or_false] at hv
        rcases hv with rfl | rfl | rfl | rfl | rfl | rfl <;> exact ⟨_, rfl, by decide +kernel, by decide +kernel⟩
      have hl3 : H3 L = some (.lst (W.map V.str)) := k3 L _ (by rw [upd_ne (ne_of_none hl hp)]; exact hl) hdL
      refine ⟨p, _, _, _, rfl, rfl, SqL.of (k3 _ _ upd_same pd), ha, ?_⟩
      refine ⟨_, hl3, Nat.lt_of_le_of_lt (by rw [List.length_map]; omega : _ ≤ 1000) (by decide), W ++ [z], by rw [List.length_append, hW]; rfl, fun w hw' => ?_, by rw [upd_same, List.map_append]; rfl, ?_, (D3.less (by omega)).upd hdL.symm⟩
      · rcases List.mem_append.mp hw' with q | q
        · exact hw w q
        · rw [List.mem_singleton.mp q]; exact hz
      · exact (kk.trans (Same.then (Same.new hp) k3)).updN hL
    · rintro H2 ⟨W, hW, hw, hl, kk, D2⟩
      have hWl : W.length = 1 + m := by omega
      have hW0 : W ≠ [] := fun e => by rw [e] at hWl; simp at hWl; omega
      have hx := host_of_words hW0 (by omega) hw
      refine ⟨⟨_, rfl⟩, _, rfl, _, L, W, rfl, rfl, .inl (SqL.of hl), ?_, hQ _ _ hx (k1.trans kk) (D2.less (by omega))⟩
      have h1 := PySem.StrLaws.sumLen_le (B := 4) W fun w hw' => by rw [len_tl]; exact Nat.le_trans (hw w hw').2 (by decide)
      have h3 : ("." : Str).length = 1 := by decide +kernel
      rw [h3]; omega
theorem ok__law_pair (T : Txt K mg) : Cal P w K mg base CX0 4 "_law_pair" ["draw"] sp__law_pair := by
  refine T.d__law_pair.ok0 sc__law_pair (fun vs H Q E h => ?_) (fun f cdv A outer s H vs Q E hr h => ?_)
  · first | (obtain ⟨_, rfl, _⟩ := h; rfl) | (obtain ⟨_, _, rfl, _⟩ := h; rfl) | (obtain ⟨_, _, _, rfl, _⟩ := h; rfl) | (obtain ⟨_, _, _, _, rfl, _⟩ := h; rfl) | (obtain ⟨_, _, _, _, _, rfl, _⟩ := h; rfl)
  · refine ⟨_, (pss_cons (ps_set (i := 1) sc__law_pair.nd rfl (by first | exact Or.inl rfl | exact Or.inr rfl) (pe_c (ok__law_host T) hr (by decide) (by rfl) pass0 (pa_cons (pv 0) pa_nil)))
      (pss_cons (ps_set (i := 2) sc__law_pair.nd rfl (by first | exact Or.inl rfl | exact Or.inr rfl) (pe_c (ok__law_digit T) hr (by decide) (by rfl) pass0 (pa_cons (pv 0) (pa_cons pe_int pa_nil))))
      (pss_cons (ps_if (pt_cmpR (op_lt) (pv 2) pe_int (nomark _))
      (pss_one (ps_ret (pe_tup (pa_cons (pe_op op_add_str (pe_op op_add_str (pe_c (ok__law_host T) hr (by decide) (by rfl) pass0 (pa_cons (pv 0) pa_nil)) pe_str) (pv 1)) (pa_cons (pv 1) pa_nil)))))
      pss_nil)
      (pss_cons (ps_if (pt_cmpR (op_eq) (pv 2) pe_int (nomark _))
      (pss_one (ps_ret (pe_tup (pa_cons (pe_op op_add_str pe_str (pv 1)) (pa_cons (pv 1) pa_nil)))))
      pss_nil)
      (pss_cons (ps_if (pt_cmpR (op_eq) (pv 2) pe_int (nomark _))
      (pss_one (ps_ret (pe_tup (pa_cons (pv 1) (pa_cons (pe_op op_add_str (pe_op op_add_str (pe_c (ok__law_host T) hr (by decide) (by rfl) pass0 (pa_cons (pv 0) pa_nil)) pe_str) (pv 1)) pa_nil)))))
      pss_nil)
      (pss_cons (ps_setLc (i := 3) (own := [(("j" : Str), 4)]) rfl sc__law_pair.nd rfl rfl (sw_true rfl rfl rfl (by decide +kernel)) (pi_range1 (by rfl) T.b_range (pa_cons pe_int pa_nil)) (blkOk_by (N := ["draw", "domain", "way", "number", "j"]) (sc := defScope s__law_pair) (by decide +kernel)) (fun _ _ _ _ _ => (pg_name (i := 4) sc__law_pair.nd rfl (by first | exact Or.inl rfl | exact Or.inr rfl))) (fun _ _ _ _ _ => pts_nil) (fun _ _ _ _ _ => (pe_callTy call_str_int (by rfl) T.b_str (by decide +kernel) (pa_cons (pe_c (ok__law_digit T) hr (by decide) (by rfl) pass0 (pa_cons (pv 0) (pa_cons pe_int pa_nil))) pa_nil))))
      (pss_cons (ps_if (pt_cmpR (op_eq) (pv 2) pe_int (nomark _))
      (pss_one (ps_ret (pe_tup (pa_cons (pe_join pe_str (pv 3)) (pa_cons (pe_join pe_str (pv 3)) pa_nil)))))
      pss_nil)
      (pss_cons (ps_if (pt_cmpR (op_eq) (pv 2) pe_int (nomark _))
      (pss_one (ps_ret (pe_tup (pa_cons (pe_join pe_str (pv 3)) (pa_cons (pe_join pe_str (pe_op op_cat (pe_slice sl_list (pv 3) po_none (po_some pe_int)) (pe_lst (pa_cons pe_str pa_nil)))) pa_nil)))))
      pss_nil)
      (pss_one (ps_ret (pe_tup (pa_cons (pv 1) (pa_cons (pe_c (ok__law_host T) hr (by decide) (by rfl) pass0 (pa_cons (pv 0) pa_nil)) pa_nil))))))))))))), ?_⟩
    obtain ⟨d, n, rfl, D, hQ⟩ := h
    have fin : ∀ (x y : Str) (H1 : Hp), AnyHost x → AnyHost y → Keep d H H1 → DrawAt H1 d n → ([V.str x, V.str y] : List V).length ≤ sizeLine ∧ ∀ p, H1 p = none → Q (.ref p) (upd H1 p (.tup [.str x, .str y])) := fun x y H1 hx hy k1 D1 =>
      ⟨by show 2 ≤ sizeLine; decide, fun p hp => hQ p x y _ hx hy (k1.same (Same.new hp)) upd_same (D1.same (Same.new hp))⟩
    have hd1 : ("." : Str).length = 1 := by decide +kernel
    refine ⟨_, rfl, d, n + 80, rfl, D, fun x H1 ps k1 D1 => ?_⟩
    have px := ps.w
    have hxl := px.len
    refine ⟨_, rfl, d, 7, n + 79, rfl, by decide, by decide, D1, fun r H2 hr0 hr1 k2 D2 => ?_⟩
    have k12 := k1.trans k2
    refine ⟨_, rfl, _, _, rfl, rfl, _, rfl, iteB (fun _ => ?_) (fun _ => ?_)⟩
    · refine ⟨_, rfl, d, n + 59, rfl, D2, fun y H3 py k3 D3 => ?_⟩
      have py := py.w
      have hyl := py.len
      have hs1 : y.length + ("." : Str).length ≤ 1000 := by omega
      have hs2 : (y ++ ("." : Str)).length + x.length ≤ 1000 := by rw [Str.length_append]; omega
      refine ⟨_, _, rfl, rfl, Nat.le_trans hs1 (by decide), _, rfl, _, _, rfl, rfl, Nat.le_trans hs2 (by decide), _, rfl, ?_⟩
      exact fin _ x H3 (.inl ((py.dot px).more (by decide))) (.inl (px.more (by decide))) (k12.trans k3) (D3.less (by omega))
    refine ⟨_, rfl, rfl, _, rfl, iteB (fun _ => ?_) (fun _ => ?_)⟩
    · have hq1 : ("q" : Str).length = 1 := by decide +kernel
      have hs1 : ("q" : Str).length + x.length ≤ 1000 := by omega
      refine ⟨_, rfl, _, _, rfl, rfl, Nat.le_trans hs1 (by decide), _, rfl, ?_⟩
      exact fin _ x H2 (.inl (ps.q.more (by decide))) (.inl (px.more (by decide))) k12 (D2.less (by omega))
    refine ⟨_, rfl, rfl, _, rfl, iteB (fun _ => ?_) (fun _ => ?_)⟩
    · refine ⟨_, rfl, _, rfl, d, n + 59, rfl, D2, fun y H3 py k3 D3 => ?_⟩
      have py := py.w
      have hyl := py.len
      have hs1 : y.length + ("." : Str).length ≤ 1000 := by omega
      have hs2 : (y ++ ("." : Str)).length + x.length ≤ 1000 := by rw [Str.length_append]; omega
      refine ⟨_, _, rfl, rfl, Nat.le_trans hs1 (by decide), _, rfl, _, _, rfl, rfl, Nat.le_trans hs2 (by decide), ?_⟩
      exact fin x _ H3 (.inl (px.more (by decide))) (.inl ((py.dot px).more (by decide))) (k12.trans k3) (D3.less (by omega))
    refine ⟨4, rfl, by decide, by decide, fun L hL => ?_⟩
    have hdL : L ≠ d := D2.ne hL
    refine lc_range (n := 4) (fun i H3 => ∃ W : List Str, W.length = i ∧ (∀ w ∈ W, ∃ n : Nat, n < 256 ∧ tl w = numL n) ∧ H3 L = some (.lst (W.map V.str)) ∧ Keep d H2 H3 ∧ DrawAt H3 d (n + 79 - i)) ⟨[], rfl, by simp, upd_same, Keep.refl.updN hL, D2.upd hdL.symm⟩ ?_ ?_
    · rintro i H3 hi ⟨W, hW, hw, hl, kk, D3⟩
      refine ⟨rfl, ?_⟩
      refine ⟨_, rfl, d, 256, n + 79 - i - 1, rfl, by decide, by decide, D3.less (by omega), fun r H4 h0 h1 k4 D4 => ?_⟩
      obtain ⟨m, rfl⟩ : ∃ m : Nat, r = (m : Int) := ⟨r.toNat, by omega⟩
      have hlog : ((m : Int)).natAbs.log2 < 1920 := by
        have : ((m : Int)).natAbs < 2 ^ 8 := by rw [Int.natAbs_natCast]; omega
        exact Nat.lt_of_lt_of_le (PySem.Flt.log2_lt_of (by decide) this) (by decide)
      have hl4 : H4 L = some (.lst (W.map V.str)) := k4 L _ hl hdL
      refine ⟨_, rfl, hlog, _, hl4, Nat.lt_of_le_of_lt (by rw [List.length_map]; omega : _ ≤ 1000) (by decide), W ++ [Str.ofString (toString ((m : Nat) : Int))], by rw [List.length_append, hW]; rfl, fun w hw' => ?_, by rw [upd_same, List.map_append]; rfl, (kk.trans k4).updN hL, (D4.less (by omega)).upd hdL.symm⟩
      rcases List.mem_append.mp hw' with q | q
      · exact hw w q
      · rw [List.mem_singleton.mp q]; exact ⟨m, by omega, tl_num m⟩
    · rintro H3 ⟨W, hW, hw, hl, kk, D3⟩
      have hA := addr_join hW hw
      have szW : (W.map (·.length)).sum + W.length * ("." : Str).length ≤ 16777216 := by
        have h1 := PySem.StrLaws.sumLen_le (B := 4) W fun w hw' => by
          obtain ⟨n, hn, e⟩ := hw w hw'
          rw [len_tl, e]
          have := num_ok n hn
          simp only [Bool.and_eq_true, decide_eq_true_eq] at this
          omega
        rw [hd1]; omega
      have k13 := k12.trans kk
      refine ⟨_, rfl, rfl, _, rfl, iteB (fun _ => ?_) (fun _ => ?_)⟩
      · refine ⟨⟨_, rfl⟩, _, rfl, _, L, W, rfl, rfl, .inl (SqL.of hl), szW, ⟨_, rfl⟩, _, rfl, _, L, W, rfl, rfl, .inl (SqL.of hl), szW, ?_⟩
        exact fin _ _ H3 (.inr hA) (.inr hA) k13 (D3.less (by omega))
      refine ⟨_, rfl, rfl, _, rfl, iteB (fun _ => ?_) (fun _ => ?_)⟩
      · refine ⟨⟨_, rfl⟩, _, rfl, _, L, W, rfl, rfl, .inl (SqL.of hl), szW, ⟨_, rfl⟩, _, rfl, 3, rfl, L, _, rfl, SqL.of hl, fun p1 hp1 => ?_⟩
        have hc3 : cutV (W.map V.str) none (some 3) = (W.take 3).map V.str := by
          rw [cutV_to _ (by decide), List.map_take]; rfl
        rw [hc3]
        have s1 := Same.new (o := HO.lst ((W.take 3).map V.str)) hp1
        refine ⟨by show 1 ≤ sizeLine; decide, fun p2 hp2 => ?_⟩
        have s2 := Same.new (o := HO.lst ([V.str "0"])) hp2
        have e3 : (W.take 3).map V.str ++ [V.str "0"] = (W.take 3 ++ [("0" : Str)]).map V.str := by rw [List.map_append]; rfl
        refine ⟨_, _, _, _, rfl, rfl, s2 _ _ upd_same, upd_same, Nat.le_trans (by rw [List.length_map, List.length_take]; show _ + 1 ≤ 1000; omega : _ ≤ 1000) (by decide), fun p3 hp3 => ?_⟩
        rw [e3]
        have s3 := Same.new (o := HO.lst ((W.take 3 ++ [("0" : Str)]).map V.str)) hp3
        have hW3 : (W.take 3 ++ [("0" : Str)]).length = 4 := by rw [List.length_append, List.length_take, hW]; rfl
        have hw3 : ∀ w ∈ W.take 3 ++ [("0" : Str)], ∃ n : Nat, n < 256 ∧ tl w = numL n := fun w hw' => by
          rcases List.mem_append.mp hw' with q | q
          · exact hw w (List.mem_of_mem_take q)
          · rw [List.mem_singleton.mp q]; exact ⟨0, by decide, by decide +kernel⟩
        have sz3 : ((W.take 3 ++ [("0" : Str)]).map (·.length)).sum + (W.take 3 ++ [("0" : Str)]).length * ("." : Str).length ≤ 16777216 := by
          have h1 := PySem.StrLaws.sumLen_le (B := 4) (W.take 3 ++ [("0" : Str)]) fun w hw' => by
            obtain ⟨n, hn, e⟩ := hw3 w hw'
            rw [len_tl, e]
            have := num_ok n hn
            simp only [Bool.and_eq_true, decide_eq_true_eq] at this
            omega
          rw [hd1]; omega
        refine ⟨_, p3, _, rfl, rfl, .inl (SqL.of upd_same), sz3, ?_⟩
        have s123 := (s1.trans s2).trans s3
        exact fin _ _ _ (.inr hA) (.inr (addr_join hW3 hw3)) (k13.same s123) ((D3.same s123).less (by omega))
      · refine ⟨_, rfl, _, rfl, d, n + 55, rfl, D3.less (by omega), fun y H4 py k4 D4 => ?_⟩
        have py := py.w
        exact fin x y H4 (.inl (px.more (by decide))) (.inl (py.more (by decide))) (k13.trans k4) (D4.less (by omega))
theorem ok__law_due (T : Txt K mg) : Cal P w K mg base CX0 1 "_law_due" ["host", "domain"] sp__law_due := by
  refine T.d__law_due.ok0 sc__law_due (fun vs H Q E h => ?_) (fun f cdv A outer s H vs Q E hr h => ?_)
  · first | (obtain ⟨_, rfl, _⟩ := h; rfl) | (obtain ⟨_, _, rfl, _⟩ := h; rfl) | (obtain ⟨_, _, _, rfl, _⟩ := h; rfl) | (obtain ⟨_, _, _, _, rfl, _⟩ := h; rfl) | (obtain ⟨_, _, _, _, _, rfl, _⟩ := h; rfl)
  · refine ⟨_, (pss_cons (ps_par (i := 2) (j := 3) rfl sc__law_due.nd rfl rfl (by decide) rfl rfl (pa_cons (pe_split (pv 0) pe_str) (pa_cons (pe_split (pv 1) pe_str) pa_nil)) (by rfl))
      (pss_cons (ps_if (pt_val (pe_m0 PySem.F.slot_str_isdigit PySem.F.type_str_isdigit mt_isdigit (pe_ix ix_list (pv 2) (pe_un un_neg pe_int) (fun _ _ => rfl))))
      (pss_one (ps_ret (pe_cmpR (op_eqD hr.units) (pv 2) (pv 3) (nomark _))))
      pss_nil)
      (pss_one (ps_ret (pe_and (pe_cmpR (op_ge) (pe_callB call_len_seq (by rfl) T.b_len (by decide +kernel) (pa_cons (pv 2) pa_nil)) (pe_callB call_len_seq (by rfl) T.b_len (by decide +kernel) (pa_cons (pv 3) pa_nil)) (nomark _)) (pe_one (pe_cmpR (op_eqD hr.units) (pe_slice sl_list (pv 2) (po_some (pe_op op_sub (pe_callB call_len_seq (by rfl) T.b_len (by decide +kernel) (pa_cons (pv 2) pa_nil)) (pe_callB call_len_seq (by rfl) T.b_len (by decide +kernel) (pa_cons (pv 3) pa_nil)))) po_none) (pv 3) (nomark _)))))))), ?_⟩
    obtain ⟨x, y, rfl, hx, hy, hQ⟩ := h
    have hxl := hostB_len hx
    have hyl := hostB_len hy
    rw [fit_due hx] at hQ
    refine ⟨_, rfl, ⟨_, rfl⟩, _, _, rfl, rfl, by decide +kernel, Nat.le_trans (by omega : _ ≤ 10000) (by decide), fun p1 hp1 => ?_⟩
    refine ⟨_, rfl, ⟨_, rfl⟩, _, _, rfl, rfl, by decide +kernel, Nat.le_trans (by omega : _ ≤ 10000) (by decide), fun p2 hp2 => ?_⟩
    have e1 := split_sp1 x (c := 46) (by decide)
    have e2 := split_sp1 y (c := 46) (by decide)
    have o1 := split_strOk (x := x) (c := 46) (by decide) (host_lt hx)
    have o2 := split_strOk (x := y) (c := 46) (by decide) (host_lt hy)
    rw [← dot_eq] at e1 e2 o1 o2
    have hlab := host_labels hx
    rw [← e1] at hlab
    rw [← e1, ← e2] at hQ
    have hne : Txt.split x ("." : Str) ≠ [] := fun e => by rw [e] at e1; exact sp1_ne _ _ e1.symm
    generalize Txt.split x ("." : Str) = P at *
    generalize Txt.split y ("." : Str) = F at *
    obtain ⟨P0, z, eP⟩ : ∃ P0 z, P = P0 ++ [z] := ⟨P.dropLast, P.getLast hne, (List.dropLast_concat_getLast hne).symm⟩
    have s1 := Same.new (o := HO.lst (P.map V.str)) hp1
    have s2 := Same.new (o := HO.lst (F.map V.str)) hp2
    have s12 := s1.trans s2
    have m1 := s2 _ _ (upd_same (H := H) (a := p1) (o := HO.lst (P.map V.str)))
    have m2 : (upd (upd H p1 (HO.lst (P.map V.str))) p2 (HO.lst (F.map V.str))) p2 = some (HO.lst (F.map V.str)) := upd_same
    generalize (upd (upd H p1 (HO.lst (P.map V.str))) p2 (HO.lst (F.map V.str))) = H2 at s12 m1 m2 ⊢
    refine ⟨_, _, rfl, ?_⟩
    have hz : labB (tl z) = true := hlab _ (List.mem_map.mpr ⟨z, by rw [eP]; simp, rfl⟩)
    have ha : atI (P.map V.str) (-1) = some (.str z) := by rw [eP, List.map_append]; exact atI_last _ _
    refine ⟨_, rfl, _, rfl, p1, _, _, _, rfl, rfl, SqL.of m1, ha, ⟨_, rfl⟩, z, rfl, rfl, trivial, _, rfl, ?_⟩
    rw [isdigit_lab hz]
    rw [lastL_map eP] at hQ
    refine iteB (fun h1 => ?_) (fun h1 => ?_)
    · rw [if_pos h1] at hQ
      refine ⟨_, rfl, _, rfl, _, _, dp_strs (SqL.of m1), dp_strs (SqL.of m2), shaped_strs o1, shaped_strs o2, ?_⟩
      rw [show PyData.eqv (.list (P.map PyData.str)) (.list (F.map PyData.str)) = decide (P.map tl = F.map tl) by
        rw [PyData.eqv, eqvAll_strs, Bool.eq_iff_iff, decide_eq_true_eq, decide_eq_true_eq]
        exact ⟨fun e => by rw [e], map_tl_inj⟩]
      exact hQ _ s12
    · rw [if_neg (by rw [h1]; exact Bool.false_ne_true)] at hQ
      refine ⟨_, rfl, p1, _, rfl, .inl (SqL.of m1), _, rfl, p2, _, rfl, .inl (SqL.of m2), _, _, rfl, rfl, _, rfl, ?_⟩
      rw [List.length_map, List.length_map]
      rw [List.length_map, List.length_map] at hQ
      have ec : decide ((F.length : Int) ≤ (P.length : Int)) = decide (F.length ≤ P.length) := by
        rw [Bool.eq_iff_iff]; simp
      rw [ec]
      by_cases hk : F.length ≤ P.length
      · rw [decide_eq_true hk]
        rw [decide_eq_true hk, Bool.true_and] at hQ
        refine iteT ?_
        have hc1 : cutV (P.map V.str) (some (((P.map V.str).length : Int) - ((F.map V.str).length : Int))) none = (P.drop (P.length - F.length)).map V.str := by
          rw [List.length_map, List.length_map, cutV_from _ (by omega), List.map_drop]
          congr 1; omega
        refine ⟨_, rfl, _, rfl, p1, _, rfl, .inl (SqL.of m1), _, rfl, p2, _, rfl, .inl (SqL.of m2), _, _, rfl, rfl, _, rfl, p1, _, rfl, SqL.of m1, fun q1 hq1 => ?_⟩
        rw [hc1]
        have s3 := Same.new (o := HO.lst ((P.drop (P.length - F.length)).map V.str)) hq1
        refine ⟨_, rfl, _, _, dp_strs (SqL.of upd_same), dp_strs (SqL.of (s3 _ _ m2)), shaped_strs fun z hz => o1 z (List.mem_of_mem_drop hz), shaped_strs o2, ?_⟩
        rw [show PyData.eqv (.list ((P.drop (P.length - F.length)).map PyData.str)) (.list (F.map PyData.str)) = decide ((P.map tl).drop (P.length - F.length) = F.map tl) by
          rw [PyData.eqv, eqvAll_strs, Bool.eq_iff_iff, decide_eq_true_eq, decide_eq_true_eq, ← List.map_drop]
          exact ⟨fun e => by rw [e], map_tl_inj⟩]
        exact hQ _ (s12.trans s3)
      · rw [decide_eq_false hk]
        rw [decide_eq_false hk, Bool.false_and] at hQ
        exact iteF (hQ _ s12)
theorem ok_law {f : Addr} {fd : FuncData} (F : Fun K "law" "law" s_law f fd) (T : Txt K mg) : FnOk P w K mg base CX0 8 f fd ["script"] (sp_law K) := by
  refine F.ok sc_law (fun vs H Q E h => ?_) (fun cdv A outer s H vs Q E hr h => ?_)
  · first | (obtain ⟨_, rfl, _⟩ := h; rfl) | (obtain ⟨_, _, rfl, _⟩ := h; rfl) | (obtain ⟨_, _, _, rfl, _⟩ := h; rfl) | (obtain ⟨_, _, _, _, rfl, _⟩ := h; rfl) | (obtain ⟨_, _, _, _, _, rfl, _⟩ := h; rfl)
  · refine ⟨_, (pss_cons (ps_for PassesOwn.never rfl (pi_enum (by rfl) T.b_enumerate (pa_cons (pe_op op_cat (pe_slice sl_list (pv 0) po_none (po_some pe_int)) (pe_lst (pa_cons (pe_callB (cr_sum rfl) (by rfl) T.b_sum (by decide +kernel) (pa_cons (pv 0) pa_nil)) pa_nil))) pa_nil)) (pg_tup rfl (pgs_cons (pg_name (i := 1) sc_law.nd rfl (by first | exact Or.inl rfl | exact Or.inr rfl)) (pgs_cons (pg_name (i := 2) sc_law.nd rfl (by first | exact Or.inl rfl | exact Or.inr rfl)) pgs_nil)))
      (pss_cons (ps_set (i := 3) sc_law.nd rfl (by first | exact Or.inl rfl | exact Or.inr rfl) (pe_c (ok__law_draw T) hr (by decide) (by rfl) pass0 (pa_cons (pv 2) (pa_cons (pv 1) pa_nil))))
      (pss_one (ps_for PassesOwn.never rfl (pi_range1 (by rfl) T.b_range (pa_cons pe_int pa_nil)) (pg_name (i := 4) sc_law.nd rfl (by first | exact Or.inl rfl | exact Or.inr rfl))
      (pss_cons (ps_asg (pe_c (ok__law_pair T) hr (by decide) (by rfl) pass0 (pa_cons (pv 3) pa_nil)) (pg_tup rfl (pgs_cons (pg_name (i := 5) sc_law.nd rfl (by first | exact Or.inl rfl | exact Or.inr rfl)) (pgs_cons (pg_name (i := 6) sc_law.nd rfl (by first | exact Or.inl rfl | exact Or.inr rfl)) pgs_nil))))
      (pss_cons (ps_if (PW.pt (pw_or (pt_cmpR (op_ne) (pe_c (ok_host_fits T) hr (by decide) (by rfl) pass0 (pa_cons (pv 5) (pa_cons (pv 6) pa_nil))) (pe_c (ok__law_due T) hr (by decide) (by rfl) pass0 (pa_cons (pv 5) (pa_cons (pv 6) pa_nil))) (nomark _)) (pw_or1 (pt_cmpR (op_notBl) (pe_c (ok_host_fits T) hr (by decide) (by rfl) pass0 (pa_cons (pv 5) (pa_cons (pv 5) pa_nil))) pe_bl (nomark _)))))
      (pss_one (ps_ret pe_bl))
      pss_nil)
      (pss_one (ps_if (PW.pt (pw_or (pt_cmpR (op_ne) (pe_join pe_str (pe_c (ok_labels_of T) hr (by decide) (by rfl) pass0 (pa_cons (pv 5) pa_nil))) (pv 5) (nomark _)) (pw_or1 (pt_cmpR (op_ne) (pe_c (ok_host_fits T) hr (by decide) (by rfl) pass0 (pa_cons (pv 6) (pa_cons (pv 5) pa_nil))) (pe_c (ok__law_due T) hr (by decide) (by rfl) pass0 (pa_cons (pv 6) (pa_cons (pv 5) pa_nil))) (nomark _)))))
      (pss_one (ps_ret pe_bl))
      pss_nil))))))))
      (pss_one (ps_ret pe_bl))), ?_⟩
    obtain ⟨a0, ns, rfl, hS, hlen, hQ⟩ := h
    refine ⟨_, rfl, 6, rfl, a0, _, rfl, hS, fun p hp => ?_⟩
    have s1 : Same H (upd H p (.lst (cutV (ns.map V.int) none (some 6)))) := Same.new hp
    refine ⟨_, rfl, a0, ns, rfl, s1.seq hS, by show 1 ≤ sizeLine; decide, fun p2 hp2 => ?_⟩
    have s2 := Same.new (o := HO.lst [V.int ns.sum]) hp2
    have hc6 : cutV (ns.map V.int) none (some 6) = (ns.take 6).map V.int := by
      rw [cutV_to _ (by decide), List.map_take]; rfl
    rw [hc6] at s1 s2 ⊢
    have l6 : (ns.take 6).length ≤ 6 := by rw [List.length_take]; omega
    refine ⟨_, _, _, _, rfl, rfl, s2 _ _ upd_same, upd_same, Nat.le_trans (by rw [List.length_map]; show _ + 1 ≤ 100; omega) (by decide : 100 ≤ sizeLine), fun p3 hp3 => ?_⟩
    have s3 := Same.new (o := HO.lst ((ns.take 6).map V.int ++ [V.int ns.sum])) hp3
    have hm : upd (upd (upd H p (.lst ((ns.take 6).map V.int))) p2 (.lst [V.int ns.sum])) p3 (.lst ((ns.take 6).map V.int ++ [V.int ns.sum])) p3 = some (.lst ((ns.take 6).map V.int ++ [V.int ns.sum])) := upd_same
    generalize (upd (upd (upd H p (.lst ((ns.take 6).map V.int))) p2 (.lst [V.int ns.sum])) p3 (.lst ((ns.take 6).map V.int ++ [V.int ns.sum]))) = Hb at hm ⊢
    have hxs : ∀ i x, ((ns.take 6).map V.int ++ [V.int ns.sum])[i]? = some x → i ≤ 6 ∧ ∃ z : Int, x = .int z := fun i x hi => by
      have h1 := (List.getElem?_eq_some_iff.mp hi).1
      have h2 := List.mem_of_getElem? hi
      rw [List.length_append, List.length_map, List.length_singleton] at h1
      refine ⟨by omega, ?_⟩
      rw [List.mem_append, List.mem_map, List.mem_singleton] at h2
      rcases h2 with ⟨z, _, rfl⟩ | rfl <;> exact ⟨_, rfl⟩
    generalize ((ns.take 6).map V.int ++ [V.int ns.sum]) = xs at hm hxs
    refine ⟨p3, xs, rfl, SqL.of hm, for_enum (K := K) (a := p3) (xs := xs) (fun i σ H' => ∃ v1 v2 v3 v4 v5 v6 : Option V, σ = [some (.ref a0), v1, v2, v3, v4, v5, v6] ∧ Same Hb H')
      ⟨none, none, none, none, none, none, rfl, Same.refl _⟩ (fun i σ H' _ ⟨_, _, _, _, _, _, _, q⟩ => SqL.of (q _ _ hm)) ?_ ?_⟩
    · rintro i x T σ H1 hi ⟨v1, v2, v3, v4, v5, v6, rfl, sb⟩ hT
      obtain ⟨hi6, z, rfl⟩ := hxs i x hi
      refine ⟨T, _, rfl, SqT.of upd_same, rfl, _, _, rfl, _, _, rfl, rfl, ?_⟩
      have sT := sb.trans (Same.new (o := HO.tup [V.int (i : Nat), V.int z]) hT)
      refine ⟨_, rfl, _, rfl, z, i, rfl, by omega, by omega, fun d H2 sd hd D => ?_⟩
      have hbd : Hb d = none := sT.free hd
      have sb2 : Same Hb H2 := sT.trans sd
      refine ⟨8, rfl, by decide, by decide, for_range (n := 8) (fun j σ H3 => ∃ v4 v5 v6 : Option V, σ = [some (.ref a0), some (.int (i : Nat)), some (.int z), some (.ref d), v4, v5, v6] ∧ Same Hb H3 ∧ DrawAt H3 d (100000000 - 200 * j)) ⟨v4, v5, v6, rfl, sb2, D.less (by decide)⟩ ?_ ?_⟩
      · rintro j σ H3 hj ⟨v4, v5, v6, rfl, sb3, D3⟩
        refine ⟨_, rfl, d, 100000000 - 200 * j - 110, rfl, D3.less (by omega), fun pr x y H4 px py k4 hpr D4 => ?_⟩
        have sb4 : Same Hb H4 := fun b o e => k4 b o (sb3 b o e) (ne_of_none e hbd)
        refine ⟨pr, _, rfl, SqT.of hpr, rfl, _, _, rfl, _, _, rfl, rfl, ?_⟩
        have hx := px.host
        have hy := py.host
        have hxl := px.len
        refine ⟨_, rfl, _, rfl, x, y, rfl, hx, hy, fun H5 s5 => ⟨_, rfl, _, rfl, x, y, rfl, hx, hy, fun H6 s6 => ?_⟩⟩
        refine ⟨rfl, _, rfl, iteNS rfl ?_⟩
        refine ⟨_, rfl, _, rfl, x, x, rfl, hx, hx, fun H7 s7 => ?_⟩
        rw [fitB_self]
        refine ⟨_, _, rfl, rfl, _, rfl, ?_⟩
        refine ⟨⟨_, rfl⟩, _, rfl, x, rfl, hx, fun q P H8 s8 eP hq => ?_⟩
        have hd1 : ("." : Str).length = 1 := by decide +kernel
        have hPl : P.length ≤ 200 := by
          have := sp1_length (c := 46) (tl x)
          rw [← eP, List.length_map, ← len_tl] at this
          omega
        have sz : (P.map (·.length)).sum + P.length * ("." : Str).length ≤ 16777216 := by
          have h1 := PySem.StrLaws.sumLen_le (B := 200) P fun w hw => by
            have := sp1_mem_len (c := 46) (l := tl x) (p := tl w) (by rw [← eP]; exact List.mem_map.mpr ⟨w, hw, rfl⟩)
            rw [len_tl] at hxl ⊢
            omega
          rw [hd1]
          have : P.length * 200 ≤ 200 * 200 := Nat.mul_le_mul_right _ hPl
          omega
        refine ⟨_, q, P, rfl, rfl, .inr (SqT.of hq), sz, ?_⟩
        have ee : Txt.join ("." : Str) P = x := ext_tl (by rw [join_tl, tl_dot, eP, joinL_sp1])
        rw [ee]
        refine ⟨_, rfl, rfl, _, rfl, iteNS rfl ?_⟩
        refine ⟨_, rfl, _, rfl, y, x, rfl, hy, hx, fun H9 s9 => ⟨_, rfl, _, rfl, y, x, rfl, hy, hx, fun H10 s10 => ?_⟩⟩
        refine ⟨rfl, _, rfl, iteNS rfl ?_⟩
        have sall := ((((s5.trans s6).trans s7).trans s8).trans s9).trans s10
        exact ⟨_, _, _, rfl, sb4.trans sall, (D4.same sall).less (by omega)⟩
      · rintro σ H3 ⟨v4, v5, v6, rfl, sb3, D3⟩
        exact ⟨_, _, _, _, _, _, rfl, sb3⟩
    · rintro σ H1 ⟨v1, v2, v3, v4, v5, v6, rfl, sb⟩
      exact hQ _
end
theorem bd_has_only : ∀ (kV doc pm : Value) (an : Option Addr) (cdv ct : Value) (us : List Value), us.length = (["text", "signs"] : List Str).length → bindArgs (PySem.W.fnOf "has_only" "has_only" (defArgs s_has_only) (defBody s_has_only) (defScope s_has_only) .none kV doc pm an cdv ct) ⟨us, []⟩ = pure ((["text", "signs"] : List Str).zip us) :=
  fun _ _ _ _ _ _ us hl => match us, hl with | [_, _], _ => rfl
theorem bd_is_digits : ∀ (kV doc pm : Value) (an : Option Addr) (cdv ct : Value) (us : List Value), us.length = (["text"] : List Str).length → bindArgs (PySem.W.fnOf "is_digits" "is_digits" (defArgs s_is_digits) (defBody s_is_digits) (defScope s_is_digits) .none kV doc pm an cdv ct) ⟨us, []⟩ = pure ((["text"] : List Str).zip us) :=
  fun _ _ _ _ _ _ us hl => match us, hl with | [_], _ => rfl
theorem bd__is_label : ∀ (kV doc pm : Value) (an : Option Addr) (cdv ct : Value) (us : List Value), us.length = (["text"] : List Str).length → bindArgs (PySem.W.fnOf "_is_label" "_is_label" (defArgs s__is_label) (defBody s__is_label) (defScope s__is_label) .none kV doc pm an cdv ct) ⟨us, []⟩ = pure ((["text"] : List Str).zip us) :=
  fun _ _ _ _ _ _ us hl => match us, hl with | [_], _ => rfl
theorem bd_are_labels : ∀ (kV doc pm : Value) (an : Option Addr) (cdv ct : Value) (us : List Value), us.length = (["texts"] : List Str).length → bindArgs (PySem.W.fnOf "are_labels" "are_labels" (defArgs s_are_labels) (defBody s_are_labels) (defScope s_are_labels) .none kV doc pm an cdv ct) ⟨us, []⟩ = pure ((["texts"] : List Str).zip us) :=
  fun _ _ _ _ _ _ us hl => match us, hl with | [_], _ => rfl
theorem bd__is_number : ∀ (kV doc pm : Value) (an : Option Addr) (cdv ct : Value) (us : List Value), us.length = (["label"] : List Str).length → bindArgs (PySem.W.fnOf "_is_number" "_is_number" (defArgs s__is_number) (defBody s__is_number) (defScope s__is_number) .none kV doc pm an cdv ct) ⟨us, []⟩ = pure ((["label"] : List Str).zip us) :=
  fun _ _ _ _ _ _ us hl => match us, hl with | [_], _ => rfl
theorem bd__are_four_numbers : ∀ (kV doc pm : Value) (an : Option Addr) (cdv ct : Value) (us : List Value), us.length = (["labels"] : List Str).length → bindArgs (PySem.W.fnOf "_are_four_numbers" "_are_four_numbers" (defArgs s__are_four_numbers) (defBody s__are_four_numbers) (defScope s__are_four_numbers) .none kV doc pm an cdv ct) ⟨us, []⟩ = pure ((["labels"] : List Str).zip us) :=
  fun _ _ _ _ _ _ us hl => match us, hl with | [_], _ => rfl
theorem bd_is_host : ∀ (kV doc pm : Value) (an : Option Addr) (cdv ct : Value) (us : List Value), us.length = (["value"] : List Str).length → bindArgs (PySem.W.fnOf "is_host" "is_host" (defArgs s_is_host) (defBody s_is_host) (defScope s_is_host) .none kV doc pm an cdv ct) ⟨us, []⟩ = pure ((["value"] : List Str).zip us) :=
  fun _ _ _ _ _ _ us hl => match us, hl with | [_], _ => rfl
theorem bd_need_host : ∀ (kV doc pm : Value) (an : Option Addr) (cdv ct : Value) (us : List Value), us.length = (["host"] : List Str).length → bindArgs (PySem.W.fnOf "need_host" "need_host" (defArgs s_need_host) (defBody s_need_host) (defScope s_need_host) .none kV doc pm an cdv ct) ⟨us, []⟩ = pure ((["host"] : List Str).zip us) :=
  fun _ _ _ _ _ _ us hl => match us, hl with | [_], _ => rfl
theorem bd_labels_of : ∀ (kV doc pm : Value) (an : Option Addr) (cdv ct : Value) (us : List Value), us.length = (["host"] : List Str).length → bindArgs (PySem.W.fnOf "labels_of" "labels_of" (defArgs s_labels_of) (defBody s_labels_of) (defScope s_labels_of) .none kV doc pm an cdv ct) ⟨us, []⟩ = pure ((["host"] : List Str).zip us) :=
  fun _ _ _ _ _ _ us hl => match us, hl with | [_], _ => rfl
theorem bd_is_address_host : ∀ (kV doc pm : Value) (an : Option Addr) (cdv ct : Value) (us : List Value), us.length = (["value"] : List Str).length → bindArgs (PySem.W.fnOf "is_address_host" "is_address_host" (defArgs s_is_address_host) (defBody s_is_address_host) (defScope s_is_address_host) .none kV doc pm an cdv ct) ⟨us, []⟩ = pure ((["value"] : List Str).zip us) :=
  fun _ _ _ _ _ _ us hl => match us, hl with | [_], _ => rfl
theorem bd_host_fits : ∀ (kV doc pm : Value) (an : Option Addr) (cdv ct : Value) (us : List Value), us.length = (["host", "domain"] : List Str).length → bindArgs (PySem.W.fnOf "host_fits" "host_fits" (defArgs s_host_fits) (defBody s_host_fits) (defScope s_host_fits) .none kV doc pm an cdv ct) ⟨us, []⟩ = pure ((["host", "domain"] : List Str).zip us) :=
  fun _ _ _ _ _ _ us hl => match us, hl with | [_, _], _ => rfl
theorem bd__law_draw : ∀ (kV doc pm : Value) (an : Option Addr) (cdv ct : Value) (us : List Value), us.length = (["cell", "k"] : List Str).length → bindArgs (PySem.W.fnOf "_law_draw" "_law_draw" (defArgs s__law_draw) (defBody s__law_draw) (defScope s__law_draw) .none kV doc pm an cdv ct) ⟨us, []⟩ = pure ((["cell", "k"] : List Str).zip us) :=
  fun _ _ _ _ _ _ us hl => match us, hl with | [_, _], _ => rfl
theorem bd__law_mixed : ∀ (kV doc pm : Value) (an : Option Addr) (cdv ct : Value) (us : List Value), us.length = (["cell", "k"] : List Str).length → bindArgs (PySem.W.fnOf "_law_mixed" "_law_mixed" (defArgs s__law_mixed) (defBody s__law_mixed) (defScope s__law_mixed) .none kV doc pm an cdv ct) ⟨us, []⟩ = pure ((["cell", "k"] : List Str).zip us) :=
  fun _ _ _ _ _ _ us hl => match us, hl with | [_, _], _ => rfl
theorem bd__law_digit : ∀ (kV doc pm : Value) (an : Option Addr) (cdv ct : Value) (us : List Value), us.length = (["draw", "span"] : List Str).length → bindArgs (PySem.W.fnOf "_law_digit" "_law_digit" (defArgs s__law_digit) (defBody s__law_digit) (defScope s__law_digit) .none kV doc pm an cdv ct) ⟨us, []⟩ = pure ((["draw", "span"] : List Str).zip us) :=
  fun _ _ _ _ _ _ us hl => match us, hl with | [_, _], _ => rfl
theorem bd__law_host : ∀ (kV doc pm : Value) (an : Option Addr) (cdv ct : Value) (us : List Value), us.length = (["draw"] : List Str).length → bindArgs (PySem.W.fnOf "_law_host" "_law_host" (defArgs s__law_host) (defBody s__law_host) (defScope s__law_host) .none kV doc pm an cdv ct) ⟨us, []⟩ = pure ((["draw"] : List Str).zip us) :=
  fun _ _ _ _ _ _ us hl => match us, hl with | [_], _ => rfl
theorem bd__law_pair : ∀ (kV doc pm : Value) (an : Option Addr) (cdv ct : Value) (us : List Value), us.length = (["draw"] : List Str).length → bindArgs (PySem.W.fnOf "_law_pair" "_law_pair" (defArgs s__law_pair) (defBody s__law_pair) (defScope s__law_pair) .none kV doc pm an cdv ct) ⟨us, []⟩ = pure ((["draw"] : List Str).zip us) :=
  fun _ _ _ _ _ _ us hl => match us, hl with | [_], _ => rfl
theorem bd__law_due : ∀ (kV doc pm : Value) (an : Option Addr) (cdv ct : Value) (us : List Value), us.length = (["host", "domain"] : List Str).length → bindArgs (PySem.W.fnOf "_law_due" "_law_due" (defArgs s__law_due) (defBody s__law_due) (defScope s__law_due) .none kV doc pm an cdv ct) ⟨us, []⟩ = pure ((["host", "domain"] : List Str).zip us) :=
  fun _ _ _ _ _ _ us hl => match us, hl with | [_, _], _ => rfl
theorem bd_law : ∀ (kV doc pm : Value) (an : Option Addr) (cdv ct : Value) (us : List Value), us.length = (["script"] : List Str).length → bindArgs (PySem.W.fnOf "law" "law" (defArgs s_law) (defBody s_law) (defScope s_law) .none kV doc pm an cdv ct) ⟨us, []⟩ = pure ((["script"] : List Str).zip us) :=
  fun _ _ _ _ _ _ us hl => match us, hl with | [_], _ => rfl
theorem fin_mk {l : PySem.W.OpenLaw} {w : World} {K : PySem.W.Frag} {mg : Str → Option Value} {fa : Addr} (hfa : mg "law" = some (.ref fa)) (D : Df K mg "law" s_law ["script"]) (T : Txt K mg) :
    ∃ fd : FuncData, (∀ (s : Shared) (v : Value), BindsTo s fd ⟨[v], []⟩ [("script", v)]) ∧ ∀ base : Heap, K.In base → base.Ns PySem.mainGlobals mg → FnOk l.prog w K mg base CX0 8 fa fd ["script"] (sp_law K) := by
  obtain ⟨f, fd, F, m, b⟩ := D
  cases hfa.symm.trans m
  exact ⟨fd, fun s v => .of_eq (b [v] rfl), fun base _ _ => ok_law F T⟩
theorem walk {l : PySem.W.OpenLaw} {q : Program} {loose : List Str} {XP : (Str → Option Value) → Heap → Prop} {YP : World → Heap → Prop} {d : DefRec} {K : Params → PySem.W.Frag} (hn : l.most = some 63) (hdf : d.params.defaults = [])
    (hY : ∀ (w : World) (h : Heap), YP w h → (K w.params).In h)
    (F : ∀ (w : World) (mg : Str → Option Value) (fa : Addr) (h : Heap), (K w.params).In h → h.Ns PySem.mainGlobals mg → mg d.name = some (.ref fa) →
      ∃ fd : FuncData, (∀ (s : Shared) (u : Value), BindsTo s fd ⟨[u], []⟩ [("script", u)]) ∧ ∀ base : Heap, (K w.params).In base → base.Ns PySem.mainGlobals mg → FnOk l.prog w (K w.params) mg base CX0 8 fa fd ["script"] (sp_law (K w.params))) :
    PySem.W.WalkO q loose XP YP l.row.toRowW d [] (fun f vs => PySem.call f vs) :=
  L2.walk_of (n := 63) (k := 8) (x := "script") (CX := fun _ => CX0) (sp := fun w => sp_law (K w.params)) hn (by decide) hdf ⟨rfl, by decide, by decide⟩ hY F (fun _ _ a ns hl _ hS => ⟨a, ns, rfl, hS, hl, fun _ => rfl⟩) fun _ _ _ _ _ z => z
end Pf
open PySem PySem.W PyProof.Rows
set_option maxRecDepth 100000 in
set_option maxHeartbeats 0 in
theorem PySem.Challenge.cw_crumbjar_k04_hosts_that_fit_holds : PySem.Challenge.rw_crumbjar_k04_hosts_that_fit.Holds := by
  w_on; o_law; k_head; (case hw => w_witness2)
  k_fill
  refine Pf.walk (l := PySem.Challenge.rw_crumbjar_k04_hosts_that_fit) rfl rfl (fun w h Y => PySem.W.kIn_of Y) ?F
  case F =>
    intro w mg fa h KX G hmg
    refine' Pf.fin_mk hmg (Kb.Df.mk KX G Pf.bd_law ?a17 ?l17 ?c17 ?k17) ⟨(PySem.W.mg_none_of KX G ?z0),
      (PySem.W.mg_none_of KX G ?z1),
      (PySem.W.mg_none_of KX G ?z2),
      (PySem.W.mg_none_of KX G ?z3),
      (PySem.W.mg_none_of KX G ?z4),
      (PySem.W.mg_none_of KX G ?z5),
      (PySem.W.mg_none_of KX G ?z6),
      (PySem.W.mg_none_of KX G ?z7),
      ⟨_, PySem.W.mg_of KX G ?x0, ?r0⟩,
      ⟨_, PySem.W.mg_of KX G ?x1, ?r1⟩,
      ⟨_, PySem.W.mg_of KX G ?x2, ?r2⟩,
      ⟨_, PySem.W.mg_of KX G ?x3, ?r3⟩,
      ⟨_, PySem.W.mg_of KX G ?x4, ?r4⟩,
      ⟨_, PySem.W.mg_of KX G ?x5, ?r5⟩,
      (Kb.Df.mk KX G Pf.bd_has_only ?a0 ?l0 ?c0 ?k0),
      (Kb.Df.mk KX G Pf.bd_is_digits ?a1 ?l1 ?c1 ?k1),
      (Kb.Df.mk KX G Pf.bd__is_label ?a2 ?l2 ?c2 ?k2),
      (Kb.Df.mk KX G Pf.bd_are_labels ?a3 ?l3 ?c3 ?k3),
      (Kb.Df.mk KX G Pf.bd__is_number ?a4 ?l4 ?c4 ?k4),
      (Kb.Df.mk KX G Pf.bd__are_four_numbers ?a5 ?l5 ?c5 ?k5),
      (Kb.Df.mk KX G Pf.bd_is_host ?a6 ?l6 ?c6 ?k6),
      (Kb.Df.mk KX G Pf.bd_need_host ?a7 ?l7 ?c7 ?k7),
      (Kb.Df.mk KX G Pf.bd_labels_of ?a8 ?l8 ?c8 ?k8),
      (Kb.Df.mk KX G Pf.bd_is_address_host ?a9 ?l9 ?c9 ?k9),
      (Kb.Df.mk KX G Pf.bd_host_fits ?a10 ?l10 ?c10 ?k10),
      (Kb.Df.mk KX G Pf.bd__law_draw ?a11 ?l11 ?c11 ?k11),
      (Kb.Df.mk KX G Pf.bd__law_mixed ?a12 ?l12 ?c12 ?k12),
      (Kb.Df.mk KX G Pf.bd__law_digit ?a13 ?l13 ?c13 ?k13),
      (Kb.Df.mk KX G Pf.bd__law_host ?a14 ?l14 ?c14 ?k14),
      (Kb.Df.mk KX G Pf.bd__law_pair ?a15 ?l15 ?c15 ?k15),
      (Kb.Df.mk KX G Pf.bd__law_due ?a16 ?l16 ?c16 ?k16)⟩
    (case z0 => k_is)
    (case z1 => k_is)
    (case z2 => k_is)
    (case z3 => k_is)
    (case z4 => k_is)
    (case z5 => k_is)
    (case z6 => k_is)
    (case z7 => k_is)
    (case x0 => k_is)
    (case r0 => first | exact ⟨_, rfl⟩ | rfl)
    (case x1 => k_is)
    (case r1 => first | exact ⟨_, rfl⟩ | rfl)
    (case x2 => k_is)
    (case r2 => first | exact ⟨_, rfl⟩ | rfl)
    (case x3 => k_is)
    (case r3 => first | exact ⟨_, rfl⟩ | rfl)
    (case x4 => k_is)
    (case r4 => first | exact ⟨_, rfl⟩ | rfl)
    (case x5 => k_is)
    (case r5 => first | exact ⟨_, rfl⟩ | rfl)
    (case a0 => k_is)
    (case l0 => k_is)
    (case c0 => k_is)
    (case k0 => k_is)
    (case a1 => k_is)
    (case l1 => k_is)
    (case c1 => k_is)
    (case k1 => k_is)
    (case a2 => k_is)
    (case l2 => k_is)
    (case c2 => k_is)
    (case k2 => k_is)
    (case a3 => k_is)
    (case l3 => k_is)
    (case c3 => k_is)
    (case k3 => k_is)
    (case a4 => k_is)
    (case l4 => k_is)
    (case c4 => k_is)
    (case k4 => k_is)
    (case a5 => k_is)
    (case l5 => k_is)
    (case c5 => k_is)
    (case k5 => k_is)
    (case a6 => k_is)
    (case l6 => k_is)
    (case c6 => k_is)
    (case k6 => k_is)
    (case a7 => k_is)
    (case l7 => k_is)
    (case c7 => k_is)
    (case k7 => k_is)
    (case a8 => k_is)
    (case l8 => k_is)
    (case c8 => k_is)
    (case k8 => k_is)
    (case a9 => k_is)
    (case l9 => k_is)
    (case c9 => k_is)
    (case k9 => k_is)
    (case a10 => k_is)
    (case l10 => k_is)
    (case c10 => k_is)
    (case k10 => k_is)
    (case a11 => k_is)
    (case l11 => k_is)
    (case c11 => k_is)
    (case k11 => k_is)
    (case a12 => k_is)
    (case l12 => k_is)
    (case c12 => k_is)
    (case k12 => k_is)
    (case a13 => k_is)
    (case l13 => k_is)
    (case c13 => k_is)
    (case k13 => k_is)
    (case a14 => k_is)
    (case l14 => k_is)
    (case c14 => k_is)
    (case k14 => k_is)
    (case a15 => k_is)
    (case l15 => k_is)
    (case c15 => k_is)
    (case k15 => k_is)
    (case a16 => k_is)
    (case l16 => k_is)
    (case c16 => k_is)
    (case k16 => k_is)
    (case a17 => k_is)
    (case l17 => k_is)
    (case c17 => k_is)
    (case k17 => k_is)
#print axioms PySem.Challenge.cw_crumbjar_k04_hosts_that_fit_holds
