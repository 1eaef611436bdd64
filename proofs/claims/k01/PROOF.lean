import PyProof.Rows.All
import Wide.All
import OpenK.AllK
import Wide.FinOn
import HandS.ForMost
import HandS.HeadEnd
import KE.KIntText
import HandS.Wide
import HandS.IsInst
import HandS.TupAny
import HandS.Codes
import HandS.Defaults
import HandS.HeadHook2
import HandS.Head2
import HandS.Walk
import PySem.Challenge.RW_woundwalks_k01_rows_and_words_of_anythin
set_option Elab.async false
set_option linter.all false
set_option maxRecDepth 100000
set_option maxHeartbeats 0
/-! a def that shows things (repr): its promise holds where no showing runs around it -/
namespace Gk
open PySem PySem.Spec PyProof.Rows L2

structure FnG (P : Program) (w : World) (K : PySem.W.Frag) (mg : Str → Option Value) (base : Heap)
    (CX : CXT) (k : Nat) (f : Addr) (fd : FuncData) (ps : List Str) (sp : Sp) : Prop where
  ar : ∀ vs H Q E, sp vs H Q E → vs.length = ps.length
  go : ∀ (A : Around) (outer : List Env) (s : Shared) (H : Hp) (args : Args) (us : List Value)
    (vs : List V) (Q : VK) (E : XK), A.guards = some [] → Room k A →
    Env0 P w K mg base A outer s H → BindsTo s fd args (ps.zip us) → Vals vs us → sp vs H Q E →
    codeAny (model P w) A (.call (.ref f) args) (CR CX outer P w H s Q E) s

section
variable {P : Program} {w : World} {K : PySem.W.Frag} {mg : Str → Option Value} {base : Heap} {CX : CXT}

theorem FnG.of {k : Nat} {f : Addr} {fd : FuncData} {ps : List Str} {sp : Sp}
    (F : FnOk P w K mg base CX k f fd ps sp) : FnG P w K mg base CX k f fd ps sp :=
  ⟨F.len, fun A outer s H args us vs Q E _ hr => F.run A outer s H args us vs Q E hr⟩

theorem fnG_body {k : Nat} {f : Addr} {name qual : Str} {params : Arguments} {body : List Stmt}
    {scope : Scope} {dV kV doc pm cdv ct oc : Value} {an od : Option Addr}
    {osl : Array (Option Value)} {N ps : List Str} {sp : Sp}
    (lk : K.lookup f = some ⟨oc, od, .func (PySem.W.fnOf name qual params body scope dV kV doc pm an cdv ct), osl⟩)
    (hcd : PySem.W.codeIn K cdv qual = true) (S : FnScope N ps scope)
    (ar : ∀ vs H Q E, sp vs H Q E → vs.length = ps.length)
    (hb : ∀ (A : Around) (outer : List Env) (s : Shared) (H : Hp) (vs : List V) (Q : VK) (E : XK),
      A.guards = some [] → Room k (A.deeper (envOfC qual scope s.heap.objs.size f cdv)) → sp vs H Q E →
      ∃ t, PSs (cxOf CX P w K mg base N qual scope f cdv A outer s H E) body t ∧
        t { nx := fun _ H' => Q .non H', rt := Q } (start N vs) H) :
    FnG P w K mg base CX (k + 1) f (PySem.W.fnOf name qual params body scope dV kV doc pm an cdv ct) ps sp := by
  constructor
  · exact ar
  intro A outer s H args us vs Q E hg room env bnd rel wish
  have kin : K.In s.heap := env.mod.kin.keeps (fun b o q => (env.bs b o q).1)
  have nol : s.heap.NoLimit := env.mod.nolimit.keeps (fun b o q => (env.bs b o q).1)
  apply codeAny_call_function room.depth (kin _ _ lk) rfl S.co S.gen rfl (PySem.W.codeRec_of kin hcd)
  apply bnd
  apply wpAny_newFunctionEnv_cells S.kind
  · rintro ⟨n, v⟩ hy
    cases S.par n (List.of_mem_zip hy).1 with
    | inl q => exact Or.inl q
    | inr q => exact Or.inr ⟨q, PySem.W.cellsFrom_some _ _ _ (Or.inl q)⟩
  rintro _ rfl s1 inn
  refine And.intro (nol.keeps inn.toInCall.keep) (codeAny_func ?_)
  obtain ⟨t, run, want⟩ := hb A outer s H vs Q E hg (room.deeper _) wish
  have inv := inv_start (CX := CX) (E := E) S room.hd env (ar _ _ _ _ wish) rel inn
  apply wpAny_mono (run.run [] s1 _ H _ inv want)
  · intro fl s' out
    cases fl with
    | ret u => obtain ⟨v, _, H', J, rv, q⟩ := out; exact ⟨v, H', J.os, J.bare, J.base, J.hok, rv, q⟩
    | next => obtain ⟨_, H', J, q⟩ := out; exact ⟨V.non, H', J.os, J.bare, J.base, J.hok, rfl, q⟩
    | brk => obtain ⟨_, _, _, q⟩ := out; exact q.elim
    | cont => obtain ⟨_, _, _, q⟩ := out; exact q.elim
  · exact fun _ _ q => q

theorem okG {x qual : Str} {st : Stmt} {f : Addr} {fd : FuncData} {N ps : List Str} {k : Nat} {sp : Sp}
    (F : Fun K x qual st f fd) (S : FnScope N ps (defScope st))
    (ar : ∀ vs H Q E, sp vs H Q E → vs.length = ps.length)
    (hb : ∀ (cdv : Value) (A : Around) (outer : List Env) (s : Shared) (H : Hp) (vs : List V) (Q : VK) (E : XK),
      A.guards = some [] → Room k (A.deeper (envOfC qual (defScope st) s.heap.objs.size f cdv)) → sp vs H Q E →
      ∃ t, PSs (cxOf CX0 P w K mg base N qual (defScope st) f cdv A outer s H E).nox (defBody st) t ∧
        t { nx := fun _ H' => Q .non H', rt := Q } (start N vs) H) :
    FnG P w K mg base CX0 (k + 1) f fd ps sp := by
  obtain ⟨_, _, _, _, _, _, cdv, _, _, rfl, lk, hcd⟩ := F.ex
  apply fnG_body lk hcd S ar
  intro A outer s H vs Q E hg hr hsp
  obtain ⟨t, h1, h2⟩ := hb cdv A outer s H vs Q E hg hr hsp
  exact ⟨t, h1.nox, h2⟩
end

section
variable {X : Cx} {CX : CXT} {k : Nat} {f : Addr} {fd : FuncData} {ps : List Str} {sp : Sp} {E : XK}

theorem runG {pins : List (Addr × Obj)} {σ : L2.St} {H : Hp} {s : Shared} {Q : VK} {us ds : List Value}
    {vs dvs : List V} (F : FnG X.prog X.w X.K X.mg X.base CX k f fd ps sp) (hg : X.A.guards = some [])
    (hr : Room k X.A) (hb : Binds X.K fd ps ds) (hd : Vals dvs ds) (hx : Passes CX X E)
    (I : L2.Inv X pins σ H s) (r : Vals vs us) (h : sp (vs ++ dvs) H Q E) :
    wpAny (model X.prog X.w) X.A (call (.ref f) us) (EP X pins σ Q) X.xe s := by
  have rel := r.append hd
  have hl : (us ++ ds).length = ps.length := rel.length.symm.trans (F.ar _ _ _ _ h)
  apply wpAny_call
  apply codeAny_mono (F.go X.A X.stack s H ⟨us, []⟩ _ _ Q E hg hr I.env0 (hb s us I.kIn hl) rel h)
  intro out s' q
  rcases out with e | fl
  · exact hx pins σ H s e s' I q
  · cases fl <;> first | exact I.after q | exact q.elim

/-- f(e, ..) of such a def -/
theorem pe_callG {x : Str} {p pos : Pos} {e : Expr} {es : List Expr} {t : TA} {ds : List Value} {dvs : List V}
    (F : FnG X.prog X.w X.K X.mg X.base CX k f fd ps sp) (hg : X.A.guards = some []) (hr : Room k X.A)
    (gl : Gl X x) (hm : X.mg x = some (.ref f)) (hk : PySem.W.keepIn X.K (.ref f) = true)
    (hb : Binds X.K fd ps ds) (hd : Vals dvs ds) (hx : Passes CX X E) (ha : PA X (e :: es) t)
    (hdb : (x == ("__debug__" : Str)) = false := by decide)
    (he : starEach (e :: es) X.env = (false, eval e X.env) :: starEach es X.env := by rfl)
    (hpl : (backTo pos (starEach es X.env)).any (·.1) = false := by rfl) :
    PE X (.Call (.Name x p) (e :: es) [] pos) (tCall sp dvs E t) := by
  constructor
  intro pins s σ H Q I h
  apply wpAny_Call_Name_kw
  apply ld_glob I gl hm _ hdb
  apply PySem.W.callWith_K (h₀ := X.base) I.ok.mod.kin hk _ he hpl
  apply thn (ha.run pos pins s σ H _ I h)
  rintro us s1 ⟨vs, H1, I1, r, q⟩
  exact ⟨I1.kIn, runG F hg hr hb hd hx I1 r q⟩
end

/-! ### the end of a law -/
theorem lawG {P : Program} {w : World} {K : PySem.W.Frag} {mg mb : Str → Option Value} {CX : CXT} {k : Nat}
    {fa a : Addr} {fd : FuncData} {x : Str} {sp : Sp} {s₁ : Shared} {vs : List Value} {ns : List Int}
    (KX : K.In s₁.heap) (hns : s₁.heap.Ns mainGlobals mg) (hb : s₁.heap.Ns builtinsNs mb)
    (hbb : ∀ x : Str, x ≠ "__name__" → mb x = bootBuiltins x) (hlim : s₁.heap.NoLimit) (hg : s₁.gens = #[])
    (ha : s₁.heap.get? a = some { cls := .type "list", data := .seq vs.toArray }) (hi : IntsAre vs ns)
    (hl : ns.length ≤ sizeLine) (hr : Room k callerA)
    (F : ∀ base : Heap, K.In base → base.Ns mainGlobals mg → FnG P w K mg base CX k fa fd [x] sp)
    (hbind : ∀ (s : Shared) (u : Value), BindsTo s fd ⟨[u], []⟩ [(x, u)])
    (hsp : ∀ H : Hp, Only H → SqL K H a (ns.map V.int) → sp [.ref a] H (fun v _ => v = .bl true) fun _ _ _ => False)
    (hCX : ∀ H e s', CX [] H s₁ (fun _ _ _ => False) e s' → False) :
    codeAny (model P w) callerA (.call (.ref fa) ⟨[.ref a], []⟩) (fun r s' => r = .ok (.ret (.bool true)) ∧
      OldK s₁.heap s'.heap ∧ s'.os = s₁.os ∧ AllBare s'.gens) s₁ := by
  have main : ∀ H : Hp, Only H → SqL K H a (ns.map V.int) → HOk P w H s₁.heap →
      (∀ b u, H b = some u → b = a ∧ K.lookup a = none) →
      codeAny (model P w) callerA (.call (.ref fa) ⟨[.ref a], []⟩) (fun r s' => r = .ok (.ret (.bool true)) ∧
        OldK s₁.heap s'.heap ∧ s'.os = s₁.os ∧ AllBare s'.gens) s₁ := by
    intro H only seq hok here
    have free : ∀ b o, s₁.heap.get? b = some o → (∀ z n, o.data ≠ .seq z n) → H b = none := by
      intro b o e nd
      match q : H b with
      | none => rfl
      | some u =>
        obtain ⟨rfl, _⟩ := here b u q
        cases e.symm.trans ha
        exact (nd _ _ rfl).elim
    have nsK : ∀ {b : Addr} {m : Str → Option Value}, s₁.heap.Ns b m → (hidT s₁.heap H).Ns b m := by
      rintro b m ⟨o, es, ep, e, d, r⟩
      exact ⟨o, es, ep, hidT_get e (free b o e (fun z n z' => by rw [d] at z'; cases z')), d, r⟩
    have kin : K.In (hidT s₁.heap H) := by
      intro b o e
      apply hidT_get (KX b o e)
      match q : H b with
      | none => rfl
      | some u =>
        obtain ⟨rfl, z⟩ := here b u q
        cases z.symm.trans e
    have lim : (hidT s₁.heap H).NoLimit := by
      obtain ⟨mc, h1, h2⟩ := hlim
      exact ⟨mc, nsK h1, h2⟩
    have env : Env0 P w K mg (hidT s₁.heap H) callerA [] s₁ H := {
      frames := rfl
      mod := ⟨kin, nsK hns, ⟨mb, nsK hb, hbb⟩, lim⟩
      bs := fun b o e => of_hidT e
      bsz := Nat.le_of_eq (hidT_size _ _)
      funs := trivial
      frf := fun b z => absurd (show b ∈ ([] : List Addr) from z) List.not_mem_nil
      hok := hok
      bare := .of_eq hg }
    have call := (F _ kin (nsK hns)).go callerA [] s₁ H ⟨[.ref a], []⟩ [.ref a] [.ref a] _ _ rfl hr env
      (hbind s₁ (.ref a)) (.cons rfl .nil) (hsp H only seq)
    apply codeAny_mono call
    intro r s' out
    match r, out with
    | .error e, out => exact (hCX H e s' out).elim
    | .ok .next, out => exact False.elim out
    | .ok .brk, out => exact False.elim out
    | .ok .cont, out => exact False.elim out
    | .ok (.ret u), out =>
      obtain ⟨v, H', os, bare, un, hok', rv, rfl⟩ := out
      cases (show u = Value.bool true from rv)
      refine ⟨rfl, OldK.of_keep ?_, os, bare⟩
      intro b o e
      cases only b with
      | inl n => exact un.keep b o e n (fun z => absurd (show b ∈ ([] : List Addr) from z) List.not_mem_nil) List.not_mem_nil
      | inr n =>
        obtain ⟨ob, xs, z⟩ := n
        have e1 := (hok b _ z).1
        have e2 := (hok' b _ (un.frzs b ob _ z)).1
        rw [e2, ← e1, e]
  match hk : K.lookup a with
  | some o =>
    cases (KX a o hk).symm.trans ha
    apply main (fun _ => none) (fun _ => Or.inl rfl)
    · refine Or.inr ⟨_, vs.toArray, _, hk, rfl, rfl, rfl, ?_, ?_⟩
      · rw [List.size_toArray, hi.length]; exact hl
      · simpa using vals_ints hi
    · intro b u z
      exact absurd (show (none : Option HO) = some u from z) nofun
    · intro b u z
      exact absurd (show (none : Option HO) = some u from z) nofun
  | none =>
    apply main (upd (fun _ => none) a (.frz { cls := .type "list", data := .seq vs.toArray } (.lst (ns.map V.int))))
    · intro b
      by_cases e : b = a
      · subst e; exact Or.inr ⟨_, _, upd_same⟩
      · exact Or.inl (upd_ne e)
    · exact Or.inl (Or.inr ⟨_, upd_same⟩)
    · intro b u z
      by_cases e : b = a
      · subst e
        cases upd_same.symm.trans z
        refine ⟨ha, ?_, vs, _, vals_ints hi, ha⟩
        rw [List.length_map]; exact hl
      · cases (upd_ne (H := fun _ => none) e).symm.trans z
    · intro b u z
      by_cases e : b = a
      · exact ⟨e, hk⟩
      · cases (upd_ne (H := fun _ => none) e).symm.trans z

theorem walkG {l : PySem.W.OpenLaw} {n k : Nat} {q : Program} {loose : List Str}
    {XP : (Str → Option Value) → Heap → Prop} {YP : World → Heap → Prop} {d : DefRec} {CX : CXT} {x : Str}
    (hn : l.most = some n) (hn2 : n ≤ sizeLine) (hdf : d.params.defaults = []) (hr : Room k callerA)
    (F : ∀ (w : World) (mg : Str → Option Value) (fa : Addr) (h : Heap), YP w h → h.Ns mainGlobals mg →
      mg d.name = some (.ref fa) →
      ∃ (K : PySem.W.Frag) (fd : FuncData) (sp : Sp), K.In h ∧
        (∀ (s : Shared) (u : Value), BindsTo s fd ⟨[u], []⟩ [(x, u)]) ∧
        (∀ (H : Hp) (a : Addr) (ns : List Int), ns.length ≤ n → Only H → SqL K H a (ns.map V.int) →
          sp [.ref a] H (fun v _ => v = .bl true) fun _ _ _ => False) ∧
        ∀ base : Heap, K.In base → base.Ns mainGlobals mg → FnG l.prog w K mg base CX k fa fd [x] sp)
    (hCX : ∀ (H : Hp) (s : Shared) (e : Value) (s' : Shared), CX [] H s (fun _ _ _ => False) e s' → False) :
    PySem.W.WalkO q loose XP YP l.row.toRowW d [] (fun f vs => PySem.call f vs) := by
  apply Att.attach_call hn hdf
  intro w s₀ s₁ mg mb fa o pm cd doc a vs ns G Y _ _ _ hmg hobj hints hlen hgens
  obtain ⟨K, fd, sp, KX, hb, hsp, hF⟩ := F w mg fa _ Y G.T.g hmg
  exact lawG KX G.T.g G.T.b G.T.builtins G.T.nolimit hgens hobj hints (Nat.le_trans hlen hn2) hr hF hb
    (fun H hO hS => hsp H a ns hlen hO hS) (fun H e s' => hCX H s₁ e s')
end Gk

namespace Gk
open PySem PySem.Spec PyProof.Rows

open PySem.NumText PySem.W
/-- '1' and nine hundred noughts -/
def bigC : List Nat := 49 :: List.replicate 900 48
def bigS : PySem.Str := ⟨bigC.toArray⟩

theorem noughts : ∀ (n : Nat) (p : Array Nat),
    (List.replicate n 48).foldlM (step 10) (p, true) = some ((p.toList ++ List.replicate n 0).toArray, true)
  | 0, p => by simp
  | n + 1, p => by
    have e : step 10 (p, true) 48 = some (p.push 0, true) := rfl
    rw [List.replicate_succ, List.foldlM_cons, e]
    show (List.replicate n 48).foldlM (step 10) (p.push 0, true) = _
    rw [noughts n (p.push 0), List.replicate_succ]
    simp
theorem zeros_while {p : Nat → Bool} (h : p 48 = false) (n : Nat) : (List.replicate (n + 1) 48).dropWhile p = List.replicate (n + 1) 48 := by
  rw [List.replicate_succ, List.dropWhile_cons, h]
  rfl
theorem big_rev : bigC.reverse = List.replicate 900 48 ++ [49] := by
  unfold bigC
  rw [List.reverse_cons, List.reverse_replicate]
theorem big_sign : sign (bigC.dropWhile blank) = (false, bigC) := rfl
theorem big_core : core bigC = bigC := by
  unfold core
  rw [big_sign]
  show (List.dropWhile blank bigC.reverse).reverse = bigC
  have e : List.dropWhile blank bigC.reverse = bigC.reverse := by
    rw [big_rev, show 900 = 899 + 1 from rfl, List.replicate_succ, List.cons_append]
    rfl
  rw [e, List.reverse_reverse]
theorem big_neg : (sign (bigC.dropWhile blank)).1 = false := by rw [big_sign]
theorem ascii : ∀ n : Nat, (List.replicate n 48).all (· < 128) = true
  | 0 => rfl
  | n + 1 => by rw [List.replicate_succ, List.all_cons, ascii n]; rfl
theorem big_text : numTextOf bigS = bigC := by
  have h : bigS.cps.all (· < 128) = true := by
    unfold bigS bigC
    rw [← Array.all_toList]
    show (49 :: List.replicate 900 48).all _ = true
    rw [List.all_cons, ascii 900]
    rfl
  exact if_pos h
theorem all_on : ∀ n : Nat, (List.replicate n 48).takeWhile (· != 0) = List.replicate n 48
  | 0 => rfl
  | n + 1 => by
    rw [List.replicate_succ, List.takeWhile_cons]
    show 48 :: List.takeWhile _ (List.replicate n 48) = _
    rw [all_on n]
theorem big_seen : numSeenOf bigS = bigC := by
  show (numTextOf bigS).takeWhile (· != 0) = bigC
  rw [big_text]
  unfold bigC
  rw [List.takeWhile_cons]
  show 49 :: List.takeWhile _ (List.replicate 900 48) = _
  rw [all_on]
theorem big_len : bigC.length = 901 := by unfold bigC; rw [List.length_cons, List.length_replicate]
theorem digits_n (n : Nat) : digits? 10 (49 :: List.replicate n 48) = some ((1 :: List.replicate n 0).toArray) := by
  unfold digits?
  have e : step 10 (#[], false) 49 = some (#[1], true) := rfl
  rw [List.foldlM_cons, e]
  have e2 : (some (#[1], true) >>= fun s' => List.foldlM (step 10) s' (List.replicate n 48)) = List.foldlM (step 10) (#[1], true) (List.replicate n 48) := rfl
  rw [e2, noughts]
  rfl
theorem big_digits : digits? 10 bigC = some ((1 :: List.replicate 900 0).toArray) := digits_n 900
theorem grows : ∀ (n : Nat) (a : Nat), 0 < a → 0 < (List.replicate n 0).foldl (fun acc d => acc * 10 + d) a
  | 0, a, h => h
  | n + 1, a, h => by
    rw [List.replicate_succ, List.foldl_cons]
    exact grows n _ (by omega)
theorem big_worth : ∃ n, 0 < n ∧ PySem.intText? bigS = some n := by
  refine ⟨worth false ((1 :: List.replicate 900 0).toArray), ?_, ?_⟩
  · unfold worth
    have h := grows 900 (0 * 10 + 1) (by decide)
    simp only [List.foldl_toArray, List.foldl_cons]
    simp only [Bool.false_eq_true, if_false]
    exact Int.ofNat_lt.mpr h
  · unfold PySem.intText?
    rw [big_seen, big_text, big_core, big_digits, big_neg]
    rw [if_pos (by rw [big_len]; decide)]
    show (if (1 :: List.replicate 900 0).toArray.size ≤ 4300 then _ else _) = _
    rw [if_pos (by rw [List.size_toArray, List.length_cons, List.length_replicate]; decide)]
theorem big_long : ¬ ((numSeenOf bigS).length ≤ 640) := by rw [big_seen, big_len]; decide

theorem digits_wp {M : Model} {A : Around} {E : Value → Shared → Prop} {s : Shared} {Q : Nat → Shared → Prop}
    (hn : s.heap.NoDigits) (h : Q 4300 s) : wpAny M A Builtin.intMaxStrDigits Q E s := by
  obtain ⟨mc, hns, hnone⟩ := hn
  unfold Builtin.intMaxStrDigits
  apply wpAny_bind (wpAny_nsGet hns _)
  rw [hnone]
  exact wpAny_pure h

theorem big_from {M : Model} {A : Around} {E : Value → Shared → Prop} {s : Shared} {Q : Value → Shared → Prop} {v : Value} {text : List Nat} {n : Int}
    (hl : ¬ ((text.takeWhile (· != 0)).length ≤ 640))
    (hr : (int_private% "readNumeral") 4300 10 (text.takeWhile (· != 0)) = (int_private% "Numeral.value") n)
    (ha : ((text.takeWhile (· != 0)).length == text.length) = true)
    (hn : s.heap.NoDigits) (h : Q (.int n s.toks) { s with toks := s.toks + 1 }) :
    wpAny M A ((int_private% "intFromText") v text 10) Q E s := by
  obtain ⟨hp, g, d, tk, os⟩ := s
  repeat (any_goals (first
    | assumption
    | (with_reducible refine wpAny_ite_false (decide_eq_false hl) ?_)
    | (with_reducible refine wpAny_ite_true (decide_eq_true ha) ?_)
    | (with_reducible refine digits_wp hn ?_)
    | wp_step))
  all_goals (try rw [hr])
  all_goals (try dsimp only)
  repeat (any_goals (first
    | assumption
    | (with_reducible refine wpAny_ite_true (decide_eq_true ha) ?_)
    | wp_step))

set_option maxHeartbeats 4000000 in
theorem big_new {u : Tok} {n : Int} (hn : PySem.intText? bigS = some n) :
    Meets (Builtin.«int.__new__» ⟨[.type "int", .str bigS u], []⟩)
      (fun _ R s => s.heap.NoDigits ∧ R (.ok (.ret (.int n s.toks))) { s with toks := s.toks + 1 }) := by
  intro prog w A R s h
  obtain ⟨hd, h⟩ := h
  have hk : (int_private% "readNumeral") 4300 10 (numSeenOf bigS) = (int_private% "Numeral.value") n ∧ ((numSeenOf bigS).length == (numTextOf bigS).length) = true := by
    rcases read4300 bigS (by show bigC.toArray.size ≤ _; rw [List.size_toArray, big_len, sizeLine_eq]; decide) with ⟨m, h1, h2, h3⟩ | ⟨h1, _⟩
    · rw [hn] at h1
      injection h1 with h1
      subst h1
      exact ⟨h3, h2⟩
    · rw [hn] at h1
      cases h1
  have hl := big_long
  have f1 := F.conv_sub_int
  have f2 := F.madeHere_int
  have f3 := KIN.str_int
  have f4 := KIN.str_idx
  have f5 := KIN.str_trunc
  have f6 : typeOf (.str bigS u) = pure (.type "str") := rfl
  generalize bigS = x at *
  obtain ⟨hp, g, d, tk, os⟩ := s
  clear hn
  have hk2 := KIN.Hid.mk hk
  have hl2 := KIN.Hid.mk hl
  clear hk hl
  repeat (any_goals (first
    | assumption
    | ((with_reducible show wpAny _ _ ((int_private% "intFromText") _ _ _) _ _ _); refine big_from hl2.out hk2.out.1 hk2.out.2 hd ?_)
    | wp_step))
theorem call_big {prog : Program} {w : World} {A : Around} {E : Value → Shared → Prop} {s : Shared} {Q : Value → Shared → Prop} {t : Tok} {n : Int}
    (hn : PySem.intText? bigS = some n) (hd : s.heap.NoDigits) (h : Q (.int n s.toks) { s with toks := s.toks + 1 }) :
    wpAny (model prog w) A (call (.type "int") [.str bigS t]) Q E s :=
  call_int_1 (big_new hn) ⟨hd, typeIs_int _ _ _, h⟩
end Gk

namespace Gk
open PySem PySem.Spec PyProof.Rows L2

/-! ### data in the abstract heap: what is shown by repr; its lists stand at none of p -/
mutual
inductive Dx (p : List Addr) (H : Hp) : V → PyData → Prop
  | non : Dx p H .non .none
  | bl (b : Bool) : Dx p H (.bl b) (.bool b)
  | int (i : Int) : Dx p H (.int i) (.int i)
  | str (x : Str) : x.length ≤ 100000 → Dx p H (.str x) (.str x)
  | lst {a : Addr} {xs : List V} {ds : List PyData} : H a = some (.lst xs) → a ∉ p → xs.length ≤ 100000 → DxA p H xs ds → Dx p H (.ref a) (.list ds)
  | tup {a : Addr} {xs : List V} {ds : List PyData} : H a = some (.tup xs) → xs.length ≤ 100000 → DxA p H xs ds → Dx p H (.ref a) (.tuple ds)
  | dic0 {a : Addr} : H a = some (.dK []) → Dx p H (.ref a) (.dict [])
  | dic1 {a : Addr} {x : Str} {i : Int} : H a = some (.dK [(Sum.inr x, .int i)]) → Dx p H (.ref a) (.dict [(.str x, .int i)])
inductive DxA (p : List Addr) (H : Hp) : List V → List PyData → Prop
  | nil : DxA p H [] []
  | cons {v : V} {vs : List V} {d : PyData} {ds : List PyData} : Dx p H v d → DxA p H vs ds → DxA p H (v :: vs) (d :: ds)
end

/-- all that stood elsewhere than at p is as it was -/
def Keep (p : List Addr) (H H' : Hp) : Prop := ∀ b o, b ∉ p → H b = some o → H' b = some o
theorem Keep.refl (p : List Addr) (H : Hp) : Keep p H H := fun _ _ _ h => h
theorem Keep.trans {p : List Addr} {H H1 H2 : Hp} (a : Keep p H H1) (b : Keep p H1 H2) : Keep p H H2 := fun c o n h => b c o n (a c o n h)
theorem Keep.of {p : List Addr} {H H' : Hp} (s : Same H H') : Keep p H H' := fun b o _ h => s b o h
theorem Keep.free {p : List Addr} {H H' : Hp} (k : Keep p H H') {b : Addr} (n : b ∉ p) (h : H' b = none) : H b = none := by
  match q : H b with
  | none => rfl
  | some o => rw [k b o n q] at h; cases h
theorem same_new {H : Hp} {p : Addr} {o : HO} (h : H p = none) : Same H (upd H p o) := fun b x e => by
  rw [upd_ne (ne_of_none e h)]
  exact e
theorem keep_at {H : Hp} {p : Addr} {o : HO} {N : List Addr} (h : p ∈ N) : Keep N H (upd H p o) := fun b x n e => by
  rw [upd_ne (show b ≠ p from fun z => n (by rw [z]; exact h))]
  exact e
theorem Keep.sub {H H' : Hp} {N M : List Addr} (k : Keep N H H') (h : ∀ a ∈ N, a ∈ M) : Keep M H H' := fun b x n e => k b x (fun z => n (h b z)) e
/-- at each of these stands a list -/
def Lists (p : List Addr) (H : Hp) : Prop := ∀ a ∈ p, ∃ xs, H a = some (.lst xs)
theorem Lists.not {p : List Addr} {H : Hp} {a : Addr} {o : HO} (l : Lists p H) (h : H a = some o) (n : ∀ xs, o ≠ .lst xs) : a ∉ p := fun m => by
  obtain ⟨xs, e⟩ := l a m
  rw [h] at e
  exact n xs (Option.some.inj e)

mutual
theorem Dx.keep {p : List Addr} {H H' : Hp} (hp : Lists p H) (k : Keep p H H') : ∀ {v : V} {d : PyData}, Dx p H v d → Dx p H' v d
  | _, _, .non => .non
  | _, _, .bl b => .bl b
  | _, _, .int i => .int i
  | _, _, .str x h => .str x h
  | _, _, .lst h n l a => .lst (k _ _ n h) n l (DxA.keep hp k a)
  | _, _, .tup h l a => .tup (k _ _ (hp.not h (fun _ => nofun)) h) l (DxA.keep hp k a)
  | _, _, .dic0 h => .dic0 (k _ _ (hp.not h (fun _ => nofun)) h)
  | _, _, .dic1 h => .dic1 (k _ _ (hp.not h (fun _ => nofun)) h)
theorem DxA.keep {p : List Addr} {H H' : Hp} (hp : Lists p H) (k : Keep p H H') : ∀ {vs : List V} {ds : List PyData}, DxA p H vs ds → DxA p H' vs ds
  | _, _, .nil => .nil
  | _, _, .cons h t => .cons (Dx.keep hp k h) (DxA.keep hp k t)
end
mutual
theorem Dx.same {p : List Addr} {H H' : Hp} (k : Same H H') : ∀ {v : V} {d : PyData}, Dx p H v d → Dx p H' v d
  | _, _, .non => .non
  | _, _, .bl b => .bl b
  | _, _, .int i => .int i
  | _, _, .str x h => .str x h
  | _, _, .lst h n l a => .lst (k _ _ h) n l (DxA.same k a)
  | _, _, .tup h l a => .tup (k _ _ h) l (DxA.same k a)
  | _, _, .dic0 h => .dic0 (k _ _ h)
  | _, _, .dic1 h => .dic1 (k _ _ h)
theorem DxA.same {p : List Addr} {H H' : Hp} (k : Same H H') : ∀ {vs : List V} {ds : List PyData}, DxA p H vs ds → DxA p H' vs ds
  | _, _, .nil => .nil
  | _, _, .cons h t => .cons (Dx.same k h) (DxA.same k t)
end
theorem DxA.length {p : List Addr} {H : Hp} : ∀ {vs : List V} {ds : List PyData}, DxA p H vs ds → vs.length = ds.length
  | _, _, .nil => rfl
  | _, _, .cons _ t => congrArg Nat.succ (DxA.length t)
theorem DxA.append {p : List Addr} {H : Hp} : ∀ {vs ws : List V} {ds es : List PyData}, DxA p H vs ds → DxA p H ws es → DxA p H (vs ++ ws) (ds ++ es)
  | _, _, _, _, .nil, s => s
  | _, _, _, _, .cons h t, s => .cons h (DxA.append t s)
theorem DxA.take {p : List Addr} {H : Hp} : ∀ {vs : List V} {ds : List PyData} (n : Nat), DxA p H vs ds → DxA p H (vs.take n) (ds.take n)
  | _, _, 0, _ => .nil
  | _, _, _ + 1, .nil => .nil
  | _, _, n + 1, .cons h t => .cons h (DxA.take n t)
theorem DxA.drop {p : List Addr} {H : Hp} : ∀ {vs : List V} {ds : List PyData} (n : Nat), DxA p H vs ds → DxA p H (vs.drop n) (ds.drop n)
  | _, _, 0, s => s
  | _, _, _ + 1, .nil => .nil
  | _, _, n + 1, .cons _ t => DxA.drop n t
theorem DxA.get {p : List Addr} {H : Hp} : ∀ {vs : List V} {ds : List PyData} {i : Nat} {v : V}, DxA p H vs ds → vs[i]? = some v → ∃ d, ds[i]? = some d ∧ Dx p H v d
  | _, _, _, _, .nil, e => by simp at e
  | _, _, 0, _, .cons h _, e => by simp at e; subst e; exact ⟨_, rfl, h⟩
  | _, _, i + 1, v, .cons _ t, e => by
    obtain ⟨d, e1, e2⟩ := DxA.get (i := i) (v := v) t (by simpa using e)
    exact ⟨d, by simpa using e1, e2⟩
theorem DxA.strs {p : List Addr} {H : Hp} : ∀ xs : List Str, (∀ x ∈ xs, x.length ≤ 100000) → DxA p H (xs.map V.str) (xs.map PyData.str)
  | [], _ => .nil
  | x :: xs, h => .cons (.str x (h x (List.mem_cons_self ..))) (DxA.strs xs fun y hy => h y (List.mem_cons_of_mem _ hy))

mutual
theorem Dx.new {p : List Addr} {H H' : Hp} {L : Addr} (hL : H L = none) (k : Same H H') : ∀ {v : V} {d : PyData}, Dx p H v d → Dx (L :: p) H' v d
  | _, _, .non => .non
  | _, _, .bl b => .bl b
  | _, _, .int i => .int i
  | _, _, .str x h => .str x h
  | _, _, .lst h n l a => .lst (k _ _ h) (fun z => (List.mem_cons.mp z).elim (fun e => by rw [e, hL] at h; cases h) n) l (DxA.new hL k a)
  | _, _, .tup h l a => .tup (k _ _ h) l (DxA.new hL k a)
  | _, _, .dic0 h => .dic0 (k _ _ h)
  | _, _, .dic1 h => .dic1 (k _ _ h)
theorem DxA.new {p : List Addr} {H H' : Hp} {L : Addr} (hL : H L = none) (k : Same H H') : ∀ {vs : List V} {ds : List PyData}, DxA p H vs ds → DxA (L :: p) H' vs ds
  | _, _, .nil => .nil
  | _, _, .cons h t => .cons (Dx.new hL k h) (DxA.new hL k t)
end
/-! no list stands in it -/
mutual
def listless : PyData → Bool
  | .list _ => false
  | .tuple xs => listlessA xs
  | _ => true
def listlessA : List PyData → Bool
  | [] => true
  | x :: xs => listless x && listlessA xs
end
section
variable {X : Cx} {pins : List (Addr × Obj)} {σ : L2.St} {H : Hp} {s : Shared}
mutual
theorem Dx.reads (I : L2.Inv X pins σ H s) {p : List Addr} : ∀ (d : PyData) (v : V) (u : Value), Dx p H v d → RelV v u → ∃ as, Reads s.heap u d as ∧ (listless d = true → sysModules ∉ as)
  | .none, _, _, h, r => by
    cases h; cases r
    exact ⟨_, Reads.none, fun _ => List.not_mem_nil⟩
  | .bool b, _, _, h, r => by
    cases h; cases r
    exact ⟨_, Reads.bool b, fun _ => List.not_mem_nil⟩
  | .int i, _, _, h, r => by
    cases h
    obtain ⟨t, rfl⟩ := r
    exact ⟨_, Reads.int i t, fun _ => List.not_mem_nil⟩
  | .str x, _, _, h, r => by
    cases h
    obtain ⟨t, rfl⟩ := r
    exact ⟨_, Reads.str x t, fun _ => List.not_mem_nil⟩
  | .list ds, _, _, h, r => by
    cases h with
    | lst hs _ _ ha =>
      cases r
      obtain ⟨_, its, n, rv, e⟩ := I.hok _ _ hs
      obtain ⟨as, hr, _⟩ := DxA.readsA I ds _ its ha rv
      exact ⟨_, Reads.list e rfl rfl (by simpa using hr), fun z => by cases z⟩
  | .tuple ds, _, _, h, r => by
    cases h with
    | tup hs _ ha =>
      cases r
      obtain ⟨_, its, rv, o, ho, hc, n, hd⟩ := I.hok _ _ hs
      obtain ⟨as, hr, hl⟩ := DxA.readsA I ds _ its ha rv
      exact ⟨_, Reads.tuple ho hc hd (by simpa using hr), fun z => hl z⟩
  | .dict kvs, _, _, h, r => by
    cases h with
    | dic0 hs =>
      cases r
      obtain ⟨_, hy, vs, rv, o, es, ep, ho, hx, hd, _, pr, _⟩ := I.hok _ _ hs
      cases rv
      have e0 : es.toList = [] := by
        generalize es.toList = l at pr
        cases pr
        rfl
      refine ⟨_, Reads.dict (as := []) (bs := []) ho hx.1 hd (by rw [e0]; exact .nil) (by rw [e0]; exact .nil), fun _ z => ?_⟩
      rcases List.mem_cons.mp z with q | q
      · rw [← q] at hy; simp at hy
      · exact List.not_mem_nil q
    | dic1 hs =>
      cases r
      obtain ⟨_, hy, vs, rv, o, es, ep, ho, hx, hd, _, pr, _⟩ := I.hok _ _ hs
      match vs, rv with
      | [(ke, ve)], .cons r1 .nil =>
        have h1 : Sum.inr _ = ke := r1.1
        obtain ⟨t, h2⟩ : ∃ t, ve = Value.int _ t := r1.2
        subst h1
        subst h2
        generalize hl : es.toList = l at pr
        cases pr with
        | cons k1 k2 k3 =>
          cases k3
          rename_i en
          obtain ⟨t2, e2⟩ := Value.isStrOf_shape (show Value.isStrOf _ en.key = true from k1)
          refine ⟨_, Reads.dict (as := []) (bs := []) ho hx.1 hd (by rw [hl]; exact .cons (as := []) (by dsimp only; rw [e2]; exact .str _ _) .nil) (by rw [hl]; exact .cons (as := []) (by dsimp only; rw [k2]; exact .int _ _) .nil), fun _ z => ?_⟩
          rcases List.mem_cons.mp z with q | q
          · rw [← q] at hy; simp at hy
          · exact List.not_mem_nil q
termination_by d => sizeOf d
theorem DxA.readsA (I : L2.Inv X pins σ H s) {p : List Addr} : ∀ (ds : List PyData) (vs : List V) (us : List Value), DxA p H vs ds → Vals vs us → ∃ as, ReadsAll s.heap us ds as ∧ (listlessA ds = true → sysModules ∉ as)
  | [], _, _, h, r => by
    cases h; cases r
    exact ⟨_, ReadsAll.nil, fun _ => List.not_mem_nil⟩
  | d :: ds, _, _, h, r => by
    cases h with
    | cons h1 h2 =>
      cases r with
      | cons r1 r2 =>
        obtain ⟨as, q1, l1⟩ := Dx.reads I d _ _ h1 r1
        obtain ⟨bs, q2, l2⟩ := DxA.readsA I ds _ _ h2 r2
        refine ⟨_, ReadsAll.cons q1 q2, fun z => ?_⟩
        have z' : (listless d && listlessA ds) = true := by simpa [listlessA] using z
        rw [Bool.and_eq_true] at z'
        intro hm
        rcases List.mem_append.mp hm with q | q
        · exact l1 z'.1 q
        · exact l2 z'.2 q
termination_by ds => sizeOf ds
end
end

/-! ### repr -/
theorem textFrom_le : ∀ (ts : List Str) (k : Nat) (acc : Str), (textFrom k acc ts).length ≤ acc.length + piled ts
  | [], _, acc => Nat.le_add_right _ _
  | t :: r, k, acc => by
    have ih := textFrom_le r (k + 1) (acc ++ (if k > 0 then ", " else "" : String) ++ t)
    have e : (acc ++ (if k > 0 then ", " else "" : String) ++ t).length ≤ acc.length + 2 + t.length := by
      rw [strLen_append, strLen_append]
      have z : (Str.ofString (if k > 0 then ", " else "" : String)).length ≤ 2 := by split <;> decide
      omega
    rw [piled_cons]
    show (textFrom (k + 1) _ r).length ≤ _
    omega
theorem listText_le (ts : List Str) : (listText ts).length ≤ piled ts + 2 := by
  have h := textFrom_le ts 0 "["
  unfold listText
  rw [strLen_append]
  have e1 : (Str.ofString "]").length = 1 := by decide
  have e2 : (Str.ofString "[").length = 1 := by decide
  omega
theorem join_le (ts : List Str) : (Str.join ", " ts).length ≤ piled ts := by
  match ts with
  | [] => exact Nat.zero_le _
  | t :: r =>
    have h := join_length_add (t :: r) (by simp)
    omega
theorem tupleText_le (ts : List Str) : (tupleText ts).length ≤ piled ts + 3 := by
  have h := join_le ts
  unfold tupleText
  rw [strLen_append, strLen_append]
  have e1 : (Str.ofString "(").length = 1 := by decide
  have e2 : (Str.ofString (if ts.length == 1 then ",)" else ")" : String)).length ≤ 2 := by split <;> decide
  omega
theorem piled_le {n : Nat} : ∀ (ds : List PyData), (∀ d ∈ ds, d.shown.length ≤ n) → piled (PyData.shownAll ds) ≤ ds.length * (n + 2)
  | [], _ => by simp [PyData.shownAll, piled_nil]
  | d :: ds, h => by
    have ih := piled_le ds fun e he => h e (List.mem_cons_of_mem _ he)
    have h1 := h d (List.mem_cons_self ..)
    simp only [PyData.shownAll]
    rw [piled_cons, List.length_cons, Nat.succ_mul]
    omega
theorem shown_list_le {n : Nat} {ds : List PyData} (h : ∀ d ∈ ds, d.shown.length ≤ n) : (PyData.list ds).shown.length ≤ ds.length * (n + 2) + 2 := by
  have h1 := piled_le ds h
  have h2 := listText_le (PyData.shownAll ds)
  simp only [PyData.shown]
  omega
theorem shown_tuple_le {n : Nat} {ds : List PyData} (h : ∀ d ∈ ds, d.shown.length ≤ n) : (PyData.tuple ds).shown.length ≤ ds.length * (n + 2) + 3 := by
  have h1 := piled_le ds h
  have h2 := tupleText_le (PyData.shownAll ds)
  simp only [PyData.shown]
  omega

/-- what can be shown -/
structure Shows (d : PyData) : Prop where
  ok : d.showable = true
  deep : d.depth ≤ 30
  size : d.shown.length ≤ 16000000
  clean : d.hasDict = false ∨ listless d = true

theorem big_line : (16000000 : Nat) ≤ sizeLine := by rw [sizeLine_eq]; decide

section
variable {X : Cx}
def rRepr (p : List Addr) : List V → Hp → VK → Prop := fun xs H Q => ∃ v d, xs = [v] ∧ Dx p H v d ∧ Shows d ∧ Q (.str d.shown) H
theorem call_reprD {k : Nat} (p : List Addr) (hg : X.A.guards = some []) (hr : Room k X.A) : CallR X (.builtin "repr") (rRepr p) := by
  intro pins s σ H xs us Q I r h
  obtain ⟨v, d, rfl, hd, hs, q⟩ := h
  obtain ⟨u, rfl, ru⟩ := vals1 r
  have hz : d.shown.length ≤ sizeLine := Nat.le_trans hs.size big_line
  have hu : X.A.units + (d.depth + 1) < cLine := by
    have h1 := hr.un
    have h2 := hs.deep
    omega
  obtain ⟨as, hr, hl⟩ := Dx.reads I d v u hd ru
  have heap : ∀ a, u = .ref a → wpAny (model X.prog X.w) X.A (call (.builtin "repr") [u]) (EP X pins σ Q) X.xe s := by
    rintro a rfl
    refine repr_of_reads' hr hs.ok (fun z => ?_) hg hu (fun _ _ e => e) (fun h' t tk hk => ?_) hz
    · rcases hs.clean with c | c
      · rw [c] at z; cases z
      · exact hl c
    · exact ⟨.str _, H, I.kept (t' := tk) hk, ⟨t, rfl⟩, q⟩
  cases hd with
  | non => cases ru; exact PySem.P.repr_of_none ⟨.str _, H, I.tok _, ⟨_, rfl⟩, q⟩
  | bl b => cases ru; exact PySem.P.repr_of_bool ⟨.str _, H, I.tok _, ⟨_, by simp only [PyData.shown]; split <;> rfl⟩, q⟩
  | int i =>
    obtain ⟨t, rfl⟩ := ru
    exact PySem.P.repr_of_int (by simpa [PyData.showable] using hs.ok) ⟨.str _, H, I.tok _, ⟨_, rfl⟩, q⟩
  | str x _ =>
    obtain ⟨t, rfl⟩ := ru
    exact PySem.P.repr_of_str ⟨.str _, H, I.tok _, ⟨_, rfl⟩, q⟩ hz
  | lst _ _ _ _ => exact heap _ ru
  | tup _ _ _ => exact heap _ ru
  | dic0 _ => exact heap _ ru
  | dic1 _ => exact heap _ ru

/-! ### a text, so many times -/
def repS (z : Str) (n : Nat) : Str := ⟨(List.replicate n z.cps.toList).flatten.toArray⟩
theorem foldl_cat (z : Array Nat) : ∀ (n : Nat) (acc : Array Nat), (List.replicate n z).foldl (· ++ ·) acc = (acc.toList ++ (List.replicate n z.toList).flatten).toArray
  | 0, acc => by simp
  | n + 1, acc => by
    rw [List.replicate_succ, List.foldl_cons, foldl_cat z n, List.replicate_succ, List.flatten_cons]
    simp
theorem repS_zero (z : Str) : repS z 0 = Str.empty := rfl
theorem repS_one (z : Str) : repS z 1 = z := by
  unfold repS
  obtain ⟨⟨l⟩⟩ := z
  simp
theorem repS_empty {z : Str} (h : z.length = 0) (n : Nat) : repS z n = z := by
  obtain ⟨⟨l⟩⟩ := z
  have e : l = [] := List.length_eq_zero_iff.mp h
  subst e
  unfold repS
  simp
theorem repS_fold (z : Str) (n : Nat) : (⟨(List.replicate n z.cps).foldl (· ++ ·) #[]⟩ : Str) = repS z n := by
  unfold repS
  rw [foldl_cat]
  simp
theorem repS_length (z : Str) (n : Nat) : (repS z n).length = n * z.length := by
  show (List.replicate n z.cps.toList).flatten.toArray.size = n * z.cps.size
  rw [List.size_toArray, List.length_flatten, List.map_replicate, List.sum_replicate_nat, Array.length_toList]
theorem op_mulStr : OpR X (binaryOp .Mult) (fun x y H Q => ∃ (z : Str) (k : Nat), x = .str z ∧ y = .int (k : Int) ∧ z.length * k ≤ 10000000 ∧ k ≤ 10000000 ∧ z.length ≤ 10000000 ∧ Q (.str (repS z k)) H) := by
  intro pins s σ H x y v u Q I rx ry h
  obtain ⟨z, k, rfl, rfl, hz, hk, hl, q⟩ := h
  obtain ⟨t, rfl⟩ := rx
  obtain ⟨t', rfl⟩ := ry
  refine PySem.P.mul_str ?_ (fun h1 h2 => ?_) (fun h1 h2 => ?_) ?_
  · rw [decide_eq_false (by omega), decide_eq_false (by omega)]; rfl
  · have : (1 : Int) ≤ k := by omega
    have h3 : (10000000 : Int) ≤ (2 ^ 63 - 1) / (k : Int) := by
      apply (Int.le_ediv_iff_mul_le (by omega)).mpr
      omega
    omega
  · show decide (z.length * ((k : Int).toNat) > sizeLine) = false
    have := big_line
    exact decide_eq_false (by rw [show ((k : Int).toNat) = k from rfl]; omega)
  · by_cases h0 : k = 0
    · subst h0
      rw [if_pos (by decide)]
      exact ⟨by decide, .str _, H, I.tok _, ⟨_, rfl⟩, by rw [repS_zero] at q; exact q⟩
    · rw [if_neg (by omega)]
      by_cases h1 : ((k : Int) == 1 || z.length == 0) = true
      · rw [if_pos h1]
        have e : repS z k = z := by
          rw [Bool.or_eq_true, beq_iff_eq, beq_iff_eq] at h1
          rcases h1 with h1 | h1
          · have : k = 1 := by omega
            rw [this, repS_one]
          · exact repS_empty h1 k
        rw [e] at q
        exact ⟨.str _, H, I, ⟨_, rfl⟩, q⟩
      · rw [if_neg h1]
        rw [show ((k : Int).toNat) = k from rfl, repS_fold]
        refine ⟨?_, .str _, H, I.tok _, ⟨_, rfl⟩, q⟩
        have := big_line
        rw [repS_length, Nat.mul_comm]
        omega

/-! ### int of the long text -/
theorem noDigits_of {K : PySem.W.Frag} {h : Heap} (X : K.In h) (L : h.NoLimit)
    (e : PySem.W.nsIn K cStatics "sys.int_max_str_digits" = some none) : h.NoDigits := by
  obtain ⟨mc, G, _⟩ := L
  refine ⟨mc, G, ?_⟩
  obtain ⟨o, es, ep, ho, hd, _, hf⟩ := G
  rw [← hf]
  unfold PySem.W.nsIn at e
  cases q : K.lookup cStatics with
  | none => rw [q] at e; cases e
  | some ob =>
    have z := X _ _ q
    rw [ho] at z
    cases z
    obtain ⟨c1, c2, c3, c4⟩ := o
    cases (show c3 = _ from hd)
    rw [q] at e
    dsimp only at e
    unfold nsFind findBy
    rw [← Array.find?_toList]
    cases f : es.toList.find? (fun x => x.key.isStr "sys.int_max_str_digits") with
    | none => rfl
    | some en => rw [f] at e; cases e
theorem call_bigInt (hd : PySem.W.nsIn X.K cStatics "sys.int_max_str_digits" = some none) :
    CallR X (.type "int") (fun xs H Q => xs = [.str bigS] ∧ ∀ n : Int, 0 < n → Q (.int n) H) := by
  intro pins s σ H xs us Q I r h
  obtain ⟨rfl, q⟩ := h
  obtain ⟨u, rfl, t, rfl⟩ := vals1 r
  obtain ⟨n, h0, hn⟩ := big_worth
  exact call_big hn (noDigits_of I.kIn I.nolimit hd) ⟨.int n, H, I.tok _, ⟨_, rfl⟩, q n h0⟩

/-! ### calls with keywords alone -/
variable {CX : CXT} {k n : Nat} {f : Addr} {fd : FuncData} {ps ks : List Str} {sp : Sp} {E : XK} {x : Str} {p pos : Pos}
  {kws : List Keyword} {tk : TA} {g : List Value → List Value → List Value} {gV : List V → List V → List V}
theorem pe_callN0 (F : FnOk X.prog X.w X.K X.mg X.base CX k f fd ps sp) (hr : Room k X.A) (hg : Gl X x)
    (hm : X.mg x = some (.ref f)) (hk : PySem.W.keepIn X.K (.ref f) = true) (hb : KBn X.K fd ps 0 ks g gV)
    (hx : Passes CX X E) (hkw : PK X kws tk)
    (hall : (backToKw pos (keywordEach kws X.env)).all (·.1.isSome) = true := by rfl)
    (hks : (backToKw pos (keywordEach kws X.env)).filterMap (·.1) = ks := by rfl)
    (hdb : (x == ("__debug__" : Str)) = false := by decide)
    (hpl : (backToKw pos (keywordEach kws X.env)).any (·.1.isNone) = false := by rfl) :
    PE X (.Call (.Name x p) [] kws pos) (tCallN 0 ks.length sp gV E tNil tk) := by
  constructor
  intro pins s σ H Q I h
  apply wpAny_Call_Name_kw
  apply ld_glob I hg hm _ hdb
  apply PySem.W.callWith_KW0 (h₀ := X.base) I.ok.mod.kin hk hall _ hpl
  apply thn (hkw.run pos pins s σ H _ I h)
  rintro ws s2 ⟨zs, H2, I2, rz, l1, l2, q2⟩
  refine ⟨I2.kIn, ?_⟩
  rw [hks]
  exact run_fnN (us := []) F hr hb hx I2 .nil rz l1 l2 q2
theorem kbn_mk {K : PySem.W.Frag} {y qual : Str} {params : Arguments} {body : List Stmt} {scope : Scope} {kwd : List (Str × V)}
    (F : FunD K y qual params body scope [] kwd f fd)
    (hrel : ∀ {vs zs : List V} {us ws : List Value}, Vals vs us → Vals zs ws → Vals (gV vs zs) (g us ws))
    (h : ∀ (kV doc pm : Value) (an : Option Addr) (cdv ct : Value) (us ws : List Value), us.length = n → ws.length = ks.length →
      bindArgs (PySem.W.fnOf y qual params body scope .none kV doc pm an cdv ct) ⟨us, ks.zip ws⟩ = pure (ps.zip (g us ws))) :
    KBn K fd ps n ks g gV := by
  obtain ⟨oc, od, dV, kV, doc, pm, an, cdv, ct, osl, rfl, lk, hcd, hD, hK⟩ := F.ex
  rcases hD with ⟨_, rfl⟩ | ⟨e, _⟩
  · exact ⟨fun s us ws X l1 l2 => .of_eq (h kV doc pm an cdv ct us ws l1 l2), hrel⟩
  · exact absurd rfl e
end

/-! ### a def of the head that shows things -/
section
variable {P : Program} {w : World} {K : PySem.W.Frag} {mg : Str → Option Value} {base : Heap}
theorem okGD {CX : CXT} {x qual : Str} {params : Arguments} {body : List Stmt} {scope : Scope} {dvs : List V} {kws : List (Str × V)}
    {f : Addr} {fd : FuncData} {N ps : List Str} {k : Nat} {sp : Sp}
    (F : FunD K x qual params body scope dvs kws f fd) (S : FnScope N ps scope)
    (ar : ∀ vs H Q E, sp vs H Q E → vs.length = ps.length)
    (hb : ∀ (cdv : Value) (A : Around) (outer : List Env) (s : Shared) (H : Hp) (vs : List V) (Q : VK) (E : XK),
      A.guards = some [] → Room k (A.deeper (envOfC qual scope s.heap.objs.size f cdv)) → sp vs H Q E →
      ∃ t, PSs (cxOf CX P w K mg base N qual scope f cdv A outer s H E) body t ∧
        t { nx := fun _ H' => Q .non H', rt := Q } (start N vs) H) :
    FnG P w K mg base CX (k + 1) f fd ps sp := by
  obtain ⟨_, _, _, _, _, _, _, cdv, _, _, rfl, lk, hcd, _, _⟩ := F.ex
  exact fnG_body lk hcd S ar fun A outer s H vs Q E hg hr hsp => hb cdv A outer s H vs Q E hg hr hsp
end

/-! ### bundles: a def as its callers see it -/
structure Bi (mg : Str → Option Value) : Prop where
  len : mg "len" = none
  range : mg "range" = none
  isinstance : mg "isinstance" = none
  all : mg "all" = none
  any : mg "any" = none
  abs : mg "abs" = none
  int : mg "int" = none
  max : mg "max" = none
  min : mg "min" = none
  repr : mg "repr" = none
  tuple : mg "tuple" = none
  list : mg "list" = none
  str : mg "str" = none
  sorted : mg "sorted" = none
  sum : mg "sum" = none
  zip : mg "zip" = none
  enumerate : mg "enumerate" = none
  reversed : mg "reversed" = none
  divmod : mg "divmod" = none
  dict : mg "dict" = none
  set : mg "set" = none
  bool : mg "bool" = none
  ValueError : mg "ValueError" = none
def biFa : List He.Fa := [.free "len", .free "range", .free "isinstance", .free "all", .free "any", .free "abs", .free "int",
  .free "max", .free "min", .free "repr", .free "tuple", .free "list", .free "str", .free "sorted", .free "sum", .free "zip",
  .free "enumerate", .free "reversed", .free "divmod", .free "dict", .free "set", .free "bool", .free "ValueError"]
theorem bi_of {K : PySem.W.Frag} {h : Heap} {mg : Str → Option Value} (X : K.In h) (G : h.Ns mainGlobals mg)
    (c : ∀ (i : Nat) (f : He.Fa), biFa[i]? = some f → f.ok K = true) : Bi mg :=
  ⟨He.free_ok X G (c 0 _ rfl), He.free_ok X G (c 1 _ rfl), He.free_ok X G (c 2 _ rfl), He.free_ok X G (c 3 _ rfl),
   He.free_ok X G (c 4 _ rfl), He.free_ok X G (c 5 _ rfl), He.free_ok X G (c 6 _ rfl), He.free_ok X G (c 7 _ rfl),
   He.free_ok X G (c 8 _ rfl), He.free_ok X G (c 9 _ rfl), He.free_ok X G (c 10 _ rfl), He.free_ok X G (c 11 _ rfl),
   He.free_ok X G (c 12 _ rfl), He.free_ok X G (c 13 _ rfl), He.free_ok X G (c 14 _ rfl), He.free_ok X G (c 15 _ rfl),
   He.free_ok X G (c 16 _ rfl), He.free_ok X G (c 17 _ rfl), He.free_ok X G (c 18 _ rfl), He.free_ok X G (c 19 _ rfl),
   He.free_ok X G (c 20 _ rfl), He.free_ok X G (c 21 _ rfl), He.free_ok X G (c 22 _ rfl)⟩
/-- a module's constant -/
def Con (mg : Str → Option Value) (x : Str) (v : V) : Prop := ∃ u, mg x = some u ∧ RelV v u
theorem pe_k {X : Cx} {x : Str} {pos : Pos} {v : V} (hg : Gl X x) (h : Con X.mg x v) (hdb : (x == ("__debug__" : Str)) = false := by decide) : PE X (.Name x pos) (tC v) :=
  let ⟨_, h1, h2⟩ := h
  pe_glob hg h1 h2 hdb

def Cl (P : Program) (w : World) (K : PySem.W.Frag) (mg : Str → Option Value) (base : Heap) (k : Nat) (x : Str) (ps : List Str) (sp : Sp) : Prop :=
  ∃ f fd, FnOk P w K mg base CX0 k f fd ps sp ∧ mg x = some (.ref f) ∧ PySem.W.keepIn K (.ref f) = true ∧ Binds K fd ps []
def ClG (P : Program) (w : World) (K : PySem.W.Frag) (mg : Str → Option Value) (base : Heap) (k : Nat) (x : Str) (ps : List Str) (sp : Sp) : Prop :=
  ∃ f fd, FnG P w K mg base CX0 k f fd ps sp ∧ mg x = some (.ref f) ∧ PySem.W.keepIn K (.ref f) = true ∧ Binds K fd ps []
/-- called by keywords -/
def ClK (P : Program) (w : World) (K : PySem.W.Frag) (mg : Str → Option Value) (base : Heap) (k : Nat) (x : Str) (ps : List Str) (sp : Sp)
    (n : Nat) (ks : List Str) (gV : List V → List V → List V) : Prop :=
  ∃ f fd g, FnOk P w K mg base CX0 k f fd ps sp ∧ mg x = some (.ref f) ∧ PySem.W.keepIn K (.ref f) = true ∧ KBn K fd ps n ks g gV
section
variable {X : Cx} {k j n : Nat} {x : Str} {ps ks : List Str} {sp : Sp} {p pos : Pos} {e : Expr} {es : List Expr} {t tk : TA} {kws : List Keyword} {gV : List V → List V → List V}
theorem pe_cl (c : Cl X.prog X.w X.K X.mg X.base k x ps sp) (hr : Room j X.A) (hk : k ≤ j) (hg : Gl X x) (ha : PA X (e :: es) t)
    (hdb : (x == ("__debug__" : Str)) = false := by decide)
    (he : starEach (e :: es) X.env = (false, eval e X.env) :: starEach es X.env := by rfl)
    (hpl : (backTo pos (starEach es X.env)).any (·.1) = false := by rfl) :
    PE X (.Call (.Name x p) (e :: es) [] pos) (tCall sp [] E0 t) :=
  let ⟨_, _, F, hm, kp, b⟩ := c
  pe_call F (hr.mono hk) hg hm kp b .nil pass0 ha hdb he hpl
theorem pe_clG (c : ClG X.prog X.w X.K X.mg X.base k x ps sp) (gd : X.A.guards = some []) (hr : Room j X.A) (hk : k ≤ j) (hg : Gl X x) (ha : PA X (e :: es) t)
    (hdb : (x == ("__debug__" : Str)) = false := by decide)
    (he : starEach (e :: es) X.env = (false, eval e X.env) :: starEach es X.env := by rfl)
    (hpl : (backTo pos (starEach es X.env)).any (·.1) = false := by rfl) :
    PE X (.Call (.Name x p) (e :: es) [] pos) (tCall sp [] E0 t) :=
  let ⟨_, _, F, hm, kp, b⟩ := c
  pe_callG F gd (hr.mono hk) hg hm kp b .nil pass0 ha hdb he hpl
theorem pe_clK0 (c : ClK X.prog X.w X.K X.mg X.base k x ps sp 0 ks gV) (hr : Room j X.A) (hk : k ≤ j) (hg : Gl X x) (ha : PK X kws tk)
    (hall : (backToKw pos (keywordEach kws X.env)).all (·.1.isSome) = true := by rfl)
    (hks : (backToKw pos (keywordEach kws X.env)).filterMap (·.1) = ks := by rfl)
    (hdb : (x == ("__debug__" : Str)) = false := by decide)
    (hpl : (backToKw pos (keywordEach kws X.env)).any (·.1.isNone) = false := by rfl) :
    PE X (.Call (.Name x p) [] kws pos) (tCallN 0 ks.length sp gV E0 tNil tk) :=
  let ⟨_, _, _, F, hm, kp, b⟩ := c
  pe_callN0 F (hr.mono hk) hg hm kp b pass0 ha hall hks hdb hpl
end

/-! ### the head's facts, with the interpreter's own statics -/
def frS (n : Nat) (g : Addr → Option Obj) : PySem.W.Frag := He.frG g (He.asD g n ++ [cStatics])
def dig (K : PySem.W.Frag) : Bool := He.eqO (PySem.W.nsIn K cStatics "sys.int_max_str_digits") (some none)
def obsS (n : Nat) (fa : List He.Fa) (fn : List He.DefD) (g : Addr → Option Obj) : He.AlD × Bool :=
  (He.obsD fa fn (frS n g), dig (frS n g))
def hookS (n : Nat) (fa : List He.Fa) (fn : List He.DefD) : PySem.W.Hook where
  α := He.AlD × Bool
  obs := fun s => obsS n fa fn s.heap.get?
  val := fun _ => (He.valD fn, true)
  says := fun _ h => ∃ K : PySem.W.Frag, K.In h ∧ He.SaysD fa fn K ∧ dig K = true
  of := fun _ s e => ⟨frS n s.heap.get?, He.frG_in, show He.obsD fa fn _ = He.valD fn from congrArg Prod.fst e, show dig _ = true from congrArg Prod.snd e⟩
  keeps := fun _ _ _ ⟨K, hK, c⟩ k => ⟨K, PySem.W.Frag.In.keeps hK k, c⟩
theorem obsS_eq {n : Nat} {fa : List He.Fa} {fn : List He.DefD} {g : Addr → Option Obj} {s : Shared}
    (h : ∀ a, g a = s.heap.get? a) : obsS n fa fn g = (hookS n fa fn).obs s := by
  have e : g = s.heap.get? := funext h
  subst e
  rfl
end Gk

namespace K01
open PySem PySem.Spec PyProof.Rows L2 Gk
def topS (i : Nat) : Stmt := PySem.Challenge.pw_woundwalks_k01_rows_and_words_of_anythin.main.body.getD i (.Pass ⟨0, 0, 0, 0⟩)
abbrev s_is_name : Stmt := topS 5
theorem sc_is_name : FnScope ["thing", "letter"] ["thing"] (defScope s_is_name) := ⟨rfl, rfl, rfl, by decide +kernel, rfl, by decide +kernel, by decide +kernel⟩

abbrev s_is_row : Stmt := topS 6
theorem sc_is_row : FnScope ["thing", "part"] ["thing"] (defScope s_is_row) := ⟨rfl, rfl, rfl, by decide +kernel, rfl, by decide +kernel, by decide +kernel⟩

abbrev s_is_word : Stmt := topS 7
theorem sc_is_word : FnScope ["thing"] ["thing"] (defScope s_is_word) := ⟨rfl, rfl, rfl, by decide +kernel, rfl, by decide +kernel, by decide +kernel⟩

abbrev s_law_pot : Stmt := topS 9
theorem sc_law_pot : FnScope ["_law_script", "_law_k", "_law_cell", "_law_great"] ["_law_script", "_law_k"] (defScope s_law_pot) := ⟨rfl, rfl, rfl, by decide +kernel, rfl, by decide +kernel, by decide +kernel⟩

abbrev s_law_take : Stmt := topS 10
theorem sc_law_take : FnScope ["_law_pot_here", "_law_upto", "_law_digit"] ["_law_pot_here", "_law_upto"] (defScope s_law_take) := ⟨rfl, rfl, rfl, by decide +kernel, rfl, by decide +kernel, by decide +kernel⟩

abbrev s_law_of : Stmt := topS 11
theorem sc_law_of : FnScope ["_law_pot_here", "_law_some"] ["_law_pot_here", "_law_some"] (defScope s_law_of) := ⟨rfl, rfl, rfl, by decide +kernel, rfl, by decide +kernel, by decide +kernel⟩

abbrev FnP (K : PySem.W.Frag) (x : Str) (st : Stmt) (f : Addr) (fd : FuncData) : Prop := FunD K x x (defArgs st) (defBody st) (defScope st) [] [] f fd
section
variable {P : Program} {w : World} {K : PySem.W.Frag} {mg : Str → Option Value} {base : Heap} {f : Addr} {fd : FuncData}

/-! ### the pot -/
def Pot (H : Hp) (p : Addr) : Prop := ∃ g r : Int, H p = some (.lst [.int g, .int r]) ∧ 0 ≤ g ∧ 0 ≤ r ∧ r < 2305843009213693951
theorem Pot.lst {H : Hp} {p : Addr} (h : Pot H p) : Lists [p] H := fun a m => by
  obtain ⟨g, r, e, _⟩ := h
  rw [List.mem_singleton.mp m]
  exact ⟨_, e⟩
theorem Pot.same {H H' : Hp} {p : Addr} (h : Pot H p) (s : Same H H') : Pot H' p := let ⟨g, r, e, q⟩ := h; ⟨g, r, s _ _ e, q⟩

def spPot (K : PySem.W.Frag) : Sp := fun vs H Q _ => ∃ (a : Addr) (ns : List Int) (k : Nat), vs = [.ref a, .int (k : Int)] ∧ SqL K H a (ns.map V.int) ∧ ns.length ≤ 63 ∧ k ≤ 63 ∧
  ∀ p H', H p = none → Same H H' → Pot H' p → Q (.ref p) H'
theorem zero_rep (n : Nat) : repS "0" n = ⟨(List.replicate n 48).toArray⟩ := by
  unfold repS
  have e : ("0" : Str).cps.toList = [48] := rfl
  rw [e]
  congr 2
  induction n with
  | zero => rfl
  | succ n ih => rw [List.replicate_succ, List.flatten_cons, ih, List.replicate_succ]; rfl
theorem one_cat (l : List Nat) : ("1" : Str) ++ (⟨l.toArray⟩ : Str) = ⟨(49 :: l).toArray⟩ := by
  have e : ("1" : Str) = ⟨#[49]⟩ := rfl
  rw [e]
  show (⟨#[49] ++ l.toArray⟩ : Str) = _
  simp
theorem big_is : ("1" : Str) ++ repS "0" 900 = bigS := by
  rw [zero_rep]
  exact one_cat _
theorem b01 (b : Bool) : -(2 ^ 64) < (if b = true then (1 : Int) else 0) ∧ (if b = true then (1 : Int) else 0) < 2 ^ 64 := by
  cases b <;> exact ⟨by decide, by decide⟩
theorem b0 (b : Bool) : 0 ≤ (if b = true then (1 : Int) else 0) := by cases b <;> decide
theorem ok_pot (F : FnP K "_law_pot" s_law_pot f fd) (B : Bi mg) (hd : PySem.W.nsIn K cStatics "sys.int_max_str_digits" = some none) :
    FnOk P w K mg base CX0 1 f fd ["_law_script", "_law_k"] (spPot K) := by
  refine F.ok sc_law_pot (fun vs H Q E h => ?_) (fun cdv A outer s H vs Q E hr h => ?_)
  · obtain ⟨a, ns, k, rfl, _⟩ := h
    rfl
  · obtain ⟨a, ns, k, rfl, hS, hl, hk, q⟩ := h
    refine ⟨_, PSs.nox ((pss_cons (ps_set (i := 2) sc_law_pot.nd rfl (Or.inl rfl) (pe_op op_add (pe_op op_mul pe_int (pv 1)) (pe_callB call_len_seq (by rfl) B.len (by decide +kernel) (pa_cons (pv 0) pa_nil))))
      (C8.pss_cut (ps_if (pt_cmpR op_lt (pv 1) (pe_callB call_len_seq (by rfl) B.len (by decide +kernel) (pa_cons (pv 0) pa_nil)) (nomark _)) (pss_one (ps_set (i := 2) sc_law_pot.nd rfl (Or.inl rfl) (pe_ix ix_list (pv 0) (pv 1) (fun _ _ => rfl)))) pss_nil)
      (pss_cons (ps_set (i := 3) sc_law_pot.nd rfl (Or.inl rfl) (pe_op op_mul (pe_op op_mod (pe_callB call_abs (by rfl) B.abs (by decide +kernel) (pa_cons (pv 2) pa_nil)) (pe_callTy (call_bigInt hd) (by rfl) B.int (by decide +kernel) (pa_cons (pe_op op_add_str pe_str (pe_op op_mulStr pe_str pe_int)) pa_nil))) (pe_callTy call_int1 (by rfl) B.int (by decide +kernel) (pa_cons (pe_cmpR op_ge (pe_callB call_abs (by rfl) B.abs (by decide +kernel) (pa_cons (pv 2) pa_nil)) (pe_op op_pow pe_int pe_int) (nomark _)) pa_nil))))
      (pss_one (ps_ret (pe_lst (pa_cons (pv 3) (pa_cons (pe_op op_mod (pe_op op_mul (pe_op op_add (pe_op op_add (pe_op op_mod (pv 2) pe_int) (pe_op op_mul (pe_op op_mul pe_int (pv 1)) (pv 1))) pe_int) pe_int) pe_int) pa_nil))))))))), ?_⟩
    -- the cell
    refine ⟨_, rfl, _, _, rfl, rfl, .inl ⟨by decide, by decide⟩, _, rfl, _, _, rfl, .inl hS, _, _, rfl, rfl, ?_⟩
    refine ⟨fun σ H' => H' = H ∧ ∃ c : Int, σ = [some (.ref a), some (.int (k : Int)), some (.int c), none], ?_, ?_⟩
    · refine ⟨_, rfl, _, rfl, _, _, rfl, .inl hS, _, _, rfl, rfl, _, rfl, ite2 (fun e => ?_) (fun e => ?_)⟩
      · have hlt : k < ns.length := by
          have z := of_decide_eq_true e
          rw [List.length_map] at z
          omega
        refine ⟨_, rfl, _, rfl, a, _, _, _, rfl, rfl, hS, atI_nat (j := k) (by rw [List.getElem?_map, List.getElem?_eq_getElem hlt]; rfl), ?_⟩
        exact ⟨rfl, _, rfl⟩
      · exact ⟨rfl, _, rfl⟩
    · rintro σ H' ⟨rfl, c, rfl⟩
      -- the great part
      refine ⟨_, rfl, _, rfl, ?_⟩
      refine ⟨"0", 900, rfl, rfl, by decide +kernel, by decide, by decide, "1", _, rfl, rfl, ?_, ?_, fun n hn => ?_⟩
      · rw [repS_length]; decide
      · rw [big_is]
      · refine ⟨_, _, rfl, rfl, hn, _, rfl, _, rfl, _, _, rfl, rfl, ⟨by decide, by decide, by decide⟩, _, _, rfl, rfl, .inr ⟨_, rfl, ?_⟩⟩
        refine ⟨_, _, rfl, rfl, .inr ?_, ?_⟩
        · exact b01 _
        -- the list
        refine ⟨_, rfl, _, rfl, _, _, rfl, rfl, (by show (0 : Int) < _; decide), _, rfl, _, _, rfl, rfl, .inl ⟨by decide, by decide⟩, _, rfl, _, _, rfl, rfl, .inl ⟨by omega, by omega⟩, _, _, rfl, rfl, _, _, rfl, rfl, _, _, rfl, rfl, .inr ⟨by decide, by decide⟩, _, _, rfl, rfl, (by show (0 : Int) < _; decide), (by show 2 ≤ sizeLine; decide), fun p hp => ?_⟩
        refine q p _ hp (same_new hp) ⟨_, _, upd_same, ?_, Int.emod_nonneg _ (by decide), Int.emod_lt_of_pos _ (by decide)⟩
        apply Int.mul_nonneg
        · exact Int.emod_nonneg _ (by omega)
        · exact b0 _

/-! ### a draw -/
def spTake : Sp := fun vs H Q _ => ∃ (p : Addr) (n : Nat), vs = [.ref p, .int (n : Int)] ∧ Pot H p ∧ 1 ≤ n ∧ n < 1000000 ∧
  ∀ (d : Nat) H', d < n → Keep [p] H H' → Pot H' p → Q (.int (d : Int)) H'
theorem nat_of {d n : Int} (h0 : 0 ≤ d) (h1 : d < n) : ∃ e : Nat, d = e ∧ (e : Int) < n := ⟨d.toNat, by omega, by omega⟩
theorem ok_take (F : FnP K "_law_take" s_law_take f fd) : FnOk P w K mg base CX0 1 f fd ["_law_pot_here", "_law_upto"] spTake := by
  refine F.ok sc_law_take (fun vs H Q E h => ?_) (fun cdv A outer s H vs Q E hr h => ?_)
  · obtain ⟨p, n, rfl, _⟩ := h
    rfl
  · obtain ⟨p, n, rfl, ⟨g, r, hp, hg, hr0, hr1⟩, h1, h2, q⟩ := h
    have hS : SqL K H p [.int g, .int r] := .inl (.inl hp)
    refine ⟨_, PSs.nox ((pss_cons (ps_if (pt_cmpR op_gt (pe_ix ix_list (pv 0) pe_int (fun _ _ => rfl)) pe_int (nomark _)) (pss_cons (ps_set (i := 2) sc_law_take.nd rfl (Or.inl rfl) (pe_op op_mod (pe_ix ix_list (pv 0) pe_int (fun _ _ => rfl)) (pv 1)))
      (pss_cons (ps_asg (pe_op op_fdiv (pe_ix ix_list (pv 0) pe_int (fun _ _ => rfl)) (pv 1)) (pg_sub (pv 0) pe_int set_list))
      (pss_one (ps_ret (pv 2))))) pss_nil)
      (pss_cons (ps_asg (pe_op op_mod (pe_op op_add (pe_op op_mul (pe_ix ix_list (pv 0) pe_int (fun _ _ => rfl)) pe_int) pe_int) pe_int) (pg_sub (pv 0) pe_int set_list))
      (pss_one (ps_ret (pe_op op_mod (pe_op op_fdiv (pe_op op_mod (pe_op op_mul (pe_op op_fdiv (pe_ix ix_list (pv 0) pe_int (fun _ _ => rfl)) pe_int) (pe_op op_add (pe_op op_mod (pe_ix ix_list (pv 0) pe_int (fun _ _ => rfl)) pe_int) pe_int)) pe_int) pe_int) (pv 1))))))), ?_⟩
    refine ⟨_, rfl, _, _, _, _, rfl, rfl, hS, rfl, _, _, rfl, rfl, _, rfl, ite2 (fun e => ?_) (fun e => ?_)⟩
    · -- a digit of the great part
      refine ⟨_, rfl, _, _, _, _, rfl, rfl, hS, rfl, _, rfl, _, _, rfl, rfl, (by show (0 : Int) < n; omega), ?_⟩
      refine ⟨_, rfl, _, _, _, _, rfl, rfl, hS, rfl, _, rfl, _, _, rfl, rfl, ⟨by omega, by omega⟩, ?_⟩
      refine ⟨_, rfl, p, _, _, 0, rfl, rfl, hp, rfl, ?_⟩
      obtain ⟨d, e1, e2⟩ := nat_of (Int.emod_nonneg g (show (n : Int) ≠ 0 by omega)) (Int.emod_lt_of_pos g (show (0 : Int) < n by omega))
      refine ⟨_, rfl, ?_⟩
      show Q (.int (g % (n : Int))) _
      rw [e1]
      refine q d _ (by omega) (keep_at (List.mem_singleton.mpr rfl)) ⟨_, _, upd_same, ?_, hr0, hr1⟩
      exact Int.ediv_nonneg hg (by omega)
    · -- the lesser part
      refine ⟨_, rfl, _, _, _, _, rfl, rfl, hS, rfl, _, _, rfl, rfl, .inr ⟨by decide, by decide⟩, _, _, rfl, rfl, _, _, rfl, rfl, (by show (0 : Int) < _; decide), ?_⟩
      refine ⟨_, rfl, p, _, _, 1, rfl, rfl, hp, rfl, ?_⟩
      have b0 := Int.emod_nonneg (r * 1181783497276652981 + 12345678910987) (show (2305843009213693951 : Int) ≠ 0 by decide)
      have b1 := Int.emod_lt_of_pos (r * 1181783497276652981 + 12345678910987) (show (0 : Int) < 2305843009213693951 by decide)
      have hp2 : ∀ m : Int, upd H p (.lst [.int g, .int m]) p = some (.lst [.int g, .int m]) := fun m => upd_same
      have hS2 : ∀ m : Int, SqL K (upd H p (.lst [.int g, .int m])) p [.int g, .int m] := fun m => .inl (.inl (hp2 m))
      refine ⟨_, rfl, _, _, _, _, rfl, rfl, hS2 _, rfl, _, _, rfl, rfl, ⟨by decide, by decide⟩, _, rfl, _, _, _, _, rfl, rfl, hS2 _, rfl, _, _, rfl, rfl, (by show (0 : Int) < _; decide), _, _, rfl, rfl, ?_⟩
      refine ⟨_, _, rfl, rfl, .inl ⟨?_, ?_⟩, _, _, rfl, rfl, (by show (0 : Int) < _; decide), _, _, rfl, rfl, ⟨by decide, by decide⟩, _, rfl, _, _, rfl, rfl, (by show (0 : Int) < n; omega), ?_⟩
      · omega
      · omega
      · generalize hm : (r * 1181783497276652981 + 12345678910987) % 2305843009213693951 = m at b0 b1
        obtain ⟨d, e1, e2⟩ := nat_of (Int.emod_nonneg (m / 65537 * (m % 65537 + 3) % 2305843009213693921 / 97) (show (n : Int) ≠ 0 by omega)) (Int.emod_lt_of_pos (m / 65537 * (m % 65537 + 3) % 2305843009213693921 / 97) (show (0 : Int) < n by omega))
        show Q (.int (m / 65537 * (m % 65537 + 3) % 2305843009213693921 / 97 % (n : Int))) (upd H p (.lst [.int g, .int ((r * 1181783497276652981 + 12345678910987) % 2305843009213693951)]))
        rw [hm, e1]
        exact q d _ (by omega) (keep_at (List.mem_singleton.mpr rfl)) ⟨_, _, hp2 m, hg, b0, b1⟩

/-! ### one of some -/
def spOf (K : PySem.W.Frag) : Sp := fun vs H Q _ => ∃ p : Addr, Pot H p ∧
  ((∃ (l : Addr) (xs : List V), vs = [.ref p, .ref l] ∧ l ≠ p ∧ H l = some (.lst xs) ∧ 1 ≤ xs.length ∧ xs.length < 1000000 ∧
      ∀ x H', x ∈ xs → Keep [p] H H' → Pot H' p → Q x H') ∨
   (∃ z : Str, vs = [.ref p, .str z] ∧ 1 ≤ z.length ∧ z.length < 1000000 ∧
      ∀ (c : Nat) H', c ∈ z.cps.toList → Keep [p] H H' → Pot H' p → Q (.str ⟨#[c]⟩) H'))
theorem ok_of (F : FnP K "_law_of" s_law_of f fd) (B : Bi mg) (c_law_take : Cl P w K mg base 1 "_law_take" ["_law_pot_here", "_law_upto"] spTake) :
    FnOk P w K mg base CX0 2 f fd ["_law_pot_here", "_law_some"] (spOf K) := by
  refine F.ok sc_law_of (fun vs H Q E h => ?_) (fun cdv A outer s H vs Q E hr h => ?_)
  · obtain ⟨p, _, ⟨l, xs, rfl, _⟩ | ⟨z, rfl, _⟩⟩ := h <;> rfl
  · obtain ⟨p, hp, h⟩ := h
    refine ⟨_, PSs.nox ((pss_one (ps_ret (pe_ix ix_seq (pv 1) (pe_cl c_law_take hr (by decide) (by rfl) (pa_cons (pv 0) (pa_cons (pe_callB call_len (by rfl) B.len (by decide +kernel) (pa_cons (pv 1) pa_nil)) pa_nil))) (fun _ _ => rfl))))), ?_⟩
    rcases h with ⟨l, xs, rfl, hn, hl, h1, h2, q⟩ | ⟨z, rfl, h1, h2, q⟩
    · refine ⟨_, rfl, _, rfl, _, rfl, _, _, rfl, .inl ⟨xs, .inl (.inl hl), rfl⟩, ?_⟩
      refine ⟨p, xs.length, rfl, hp, h1, h2, fun d H' hd k hp' => ?_⟩
      have hl' := k l _ (fun z => hn (List.mem_singleton.mp z)) hl
      refine .inl ⟨l, xs, _, _, rfl, rfl, .inl (.inl hl'), atI_nat (j := d) (List.getElem?_eq_getElem hd), ?_⟩
      exact q _ H' (List.getElem_mem hd) k hp'
    · have hz : z.length ≤ sizeLine := by rw [sizeLine_eq]; omega
      refine ⟨_, rfl, _, rfl, _, rfl, _, _, rfl, ⟨hz, rfl⟩, ?_⟩
      refine ⟨p, z.length, rfl, hp, h1, h2, fun d H' hd k hp' => ?_⟩
      have hd' : d < z.cps.toList.length := by rw [Array.length_toList]; exact hd
      refine .inr (.inr ⟨z, _, _, rfl, rfl, hz, atI_nat (j := d) (List.getElem?_eq_getElem hd'), ?_⟩)
      exact q _ H' (List.getElem_mem hd') k hp'
end
end K01

namespace K01
open PySem PySem.Spec PyProof.Rows L2 Gk
abbrev s_law_is : Stmt := topS 14
theorem sc_law_is : FnScope ["_law_item", "_law_most", "_law_name", "_law_sign"] ["_law_item", "_law_most"] (defScope s_law_is) := ⟨rfl, rfl, rfl, by decide +kernel, rfl, by decide +kernel, by decide +kernel⟩

/-! ### what is told of data -/
def lettersS : Str := "abcdefghijklmnopqrstuvwxyz"
def signOk (c : Nat) : Bool := decide (c ∈ lettersS.cps.toList)
def nameD : PyData → Bool
  | .str x => (decide (1 ≤ x.length) && decide (x.length ≤ 6)) && x.cps.toList.all signOk
  | _ => false
theorem nameD_str (x : Str) : nameD (.str x) = ((decide (1 ≤ x.length) && decide (x.length ≤ 6)) && x.cps.toList.all signOk) := rfl
def rowD (n : Nat) : PyData → Bool
  | .tuple ds => decide (ds.length ≤ n) && ds.all nameD
  | _ => false
def tyD : PyData → String
  | .none => "NoneType"
  | .bool _ => "bool"
  | .int _ => "int"
  | .str _ => "str"
  | .list _ => "list"
  | .tuple _ => "tuple"
  | .dict _ => "dict"
theorem ty_of {K : PySem.W.Frag} {p : List Addr} {H : Hp} {v : V} {d : PyData} (h : Dx p H v d) : TyX K H v (.type (tyD d)) := by
  cases h with
  | non => exact .base .non
  | bl b => exact .base (.bl b)
  | int i => exact .base (.int i)
  | str x _ => exact .base (.str x)
  | lst e _ _ _ => exact .base (.lst e)
  | tup e _ _ => exact .base (.tup e)
  | dic0 e => exact .base (.dK e)
  | dic1 e => exact .base (.dK e)
def isS : PyData → Bool
  | .str _ => true
  | _ => false
def isT : PyData → Bool
  | .tuple _ => true
  | _ => false
theorem kit_s (d : PyData) : kitB (tyD d) "str" = some (isS d) := by cases d <;> (simp only [tyD, isS]; decide +kernel)
theorem kit_t (d : PyData) : kitB (tyD d) "tuple" = some (isT d) := by cases d <;> (simp only [tyD, isT]; decide +kernel)
theorem str_line {x : Str} (h : x.length ≤ 100000) : x.length ≤ sizeLine := by rw [sizeLine_eq]; omega
theorem len_line {n : Nat} (h : n ≤ 100000) : n < sizeLine := by rw [sizeLine_eq]; omega
section
variable {P : Program} {w : World} {K : PySem.W.Frag} {mg : Str → Option Value} {base : Heap} {f : Addr} {fd : FuncData}

def spName : Sp := fun vs H Q _ => ∃ (p : List Addr) (v : V) (d : PyData), vs = [v] ∧ Dx p H v d ∧ ∀ H', Same H H' → Q (.bl (nameD d)) H'
theorem ok_name (F : FnP K "is_name" s_is_name f fd) (B : Bi mg) (c_LONGEST_NAME : Con mg "LONGEST_NAME" (.int 6)) (c_LETTERS : Con mg "LETTERS" (.str lettersS)) :
    FnOk P w K mg base CX0 1 f fd ["thing"] spName := by
  refine F.ok sc_is_name (fun vs H Q E h => ?_) (fun cdv A outer s H vs Q E hr h => ?_)
  · obtain ⟨p, v, d, rfl, _⟩ := h
    rfl
  · obtain ⟨p, v, d, rfl, hd, q⟩ := h
    refine ⟨_, PSs.nox ((pss_cons (ps_if ((pw_or (pt_not (pt_val (pe_callB call_isi (by rfl) B.isinstance (by decide +kernel) (pa_cons (pv 0) (pa_cons (pe_bltn (v := .ty "str") (by rfl) B.str (by decide +kernel) rfl) pa_nil))))) (pw_or1 (pt_not (pt_chain op_le op_le pe_int (pe_callB call_len (by rfl) B.len (by decide +kernel) (pa_cons (pv 0) pa_nil)) (pe_k (by rfl) c_LONGEST_NAME)))))).pt (pss_one (ps_ret pe_bl)) pss_nil)
      (pss_one (ps_ret (pe_callB (cr_all rfl) (by rfl) B.all (by decide +kernel) (pa_cons (pe_lc (own := [("letter", 1)]) (g := gName 1) (tt := tYes) rfl sc_is_name.nd (pi_str (pv 0)) (blkOk_by (own := [("letter", 1)]) (N := ["thing", "letter"]) (sc := defScope s_is_name) (by decide +kernel)) (fun _ _ _ _ _ => (pg_name (i := 1) sc_is_name.nd rfl (Or.inl rfl))) (fun _ _ _ _ _ => pts_nil) (fun _ _ _ _ _ => (pe_cmpR op_in_sign (pv 1) (pe_k (by rfl) c_LETTERS) rfl))) pa_nil)))))), ?_⟩
    refine ⟨_, rfl, _, _, _, _, _, rfl, ClsV.ty _, ty_of hd, kit_ty (kit_s d), _, rfl, ?_⟩
    cases hd with
    | str x hx =>
      refine iteF ⟨_, rfl, _, _, rfl, ⟨str_line hx, rfl⟩, _, _, rfl, rfl, _, rfl, ite2 (fun e1 => ?_) (fun e1 => ?_)⟩
      · have h1 : 1 ≤ x.length := by
          have := of_decide_eq_true e1
          omega
        refine ⟨_, _, rfl, rfl, _, rfl, ?_⟩
        by_cases h6 : x.length ≤ 6
        · have e6 : decide ((x.length : Int) ≤ 6) = true := decide_eq_true (by omega)
          rw [e6]
          refine iteF ?_
          refine ⟨_, rfl, x, rfl, fun D hD => lc_it walk_str (fun i H' => Same H H' ∧ H' D = some (.lst ((x.cps.toList.take i).map fun c => V.bl (signOk c)))) ?_ (fun _ _ _ _ => trivial) ?_ ?_⟩
          · exact ⟨same_new hD, upd_same⟩
          · rintro i _ H1 H2 hi ⟨s1, e1⟩ ⟨rfl, c, hc, rfl⟩
            refine ⟨rfl, _, rfl, c, lettersS, rfl, rfl, _, e1, ?_, fun b o ho => ?_, ?_⟩
            · rw [List.length_map, List.length_take]
              exact Nat.lt_of_le_of_lt (Nat.min_le_right _ _) (len_line (by rw [Array.length_toList]; exact hx))
            · rw [upd_ne (ne_of_none ho hD)]
              exact s1 b o ho
            · rw [upd_same, List.take_add_one, List.map_append]
              have hc' : x.cps.toList[i]? = some c := by rw [Array.getElem?_toList]; exact hc
              rw [hc']
              rfl
          · rintro H1 ⟨s1, e1⟩
            have et : x.cps.toList.take x.cps.size = x.cps.toList := List.take_of_length_le (by rw [Array.length_toList]; exact Nat.le_refl _)
            rw [et] at e1
            refine ⟨D, x.cps.toList.map signOk, rfl, .inl (.inl (by rw [List.map_map]; exact e1)), ?_⟩
            have ea : (x.cps.toList.map signOk).all id = nameD (.str x) := by
              rw [nameD_str]
              rw [decide_eq_true h1, decide_eq_true h6, List.all_map, Bool.true_and, Bool.true_and]
              rfl
            rw [ea]
            exact q H1 s1
        · have e6 : decide ((x.length : Int) ≤ 6) = false := decide_eq_false (by omega)
          rw [e6]
          refine iteT ?_
          have en : nameD (.str x) = false := by
            rw [nameD_str]
            rw [decide_eq_false h6, Bool.and_false, Bool.false_and]
          have := q H (Same.refl H)
          rw [en] at this
          exact this
      · refine ⟨_, rfl, iteT ?_⟩
        have en : nameD (.str x) = false := by
          rw [nameD_str]
          rw [decide_eq_false (show ¬ 1 ≤ x.length by intro z; exact e1 (decide_eq_true (by omega))), Bool.false_and, Bool.false_and]
        have := q H (Same.refl H)
        rw [en] at this
        exact this
    | non => exact iteT (q H (Same.refl H))
    | bl b => exact iteT (q H (Same.refl H))
    | int i => exact iteT (q H (Same.refl H))
    | lst _ _ _ _ => exact iteT (q H (Same.refl H))
    | tup _ _ _ => exact iteT (q H (Same.refl H))
    | dic0 _ => exact iteT (q H (Same.refl H))
    | dic1 _ => exact iteT (q H (Same.refl H))

theorem rowD_tuple (n : Nat) (ds : List PyData) : rowD n (.tuple ds) = (decide (ds.length ≤ n) && ds.all nameD) := rfl
def spRow (n : Nat) : Sp := fun vs H Q _ => ∃ (p : List Addr) (v : V) (d : PyData), vs = [v] ∧ Dx p H v d ∧ ∀ H', Same H H' → Q (.bl (rowD n d)) H'
theorem same_in {H H1 : Hp} {D : Addr} {o : HO} (s : Same H H1) (h : H D = none) : Same H (upd H1 D o) := fun b u hu => by
  rw [upd_ne (ne_of_none hu h)]
  exact s b u hu
theorem ok_row (F : FnP K "is_row" s_is_row f fd) (B : Bi mg) (c_LONGEST_ROW : Con mg "LONGEST_ROW" (.int 400)) (c_is_name : Cl P w K mg base 1 "is_name" ["thing"] spName) :
    FnOk P w K mg base CX0 2 f fd ["thing"] (spRow 400) := by
  refine F.ok sc_is_row (fun vs H Q E h => ?_) (fun cdv A outer s H vs Q E hr h => ?_)
  · obtain ⟨p, v, d, rfl, _⟩ := h
    rfl
  · obtain ⟨p, v, d, rfl, hd, q⟩ := h
    refine ⟨_, PSs.nox ((pss_cons (ps_if ((pw_or (pt_not (pt_val (pe_callB call_isi (by rfl) B.isinstance (by decide +kernel) (pa_cons (pv 0) (pa_cons (pe_bltn (v := .ty "tuple") (by rfl) B.tuple (by decide +kernel) rfl) pa_nil))))) (pw_or1 (pt_cmpR op_gt (pe_callB call_len_seq (by rfl) B.len (by decide +kernel) (pa_cons (pv 0) pa_nil)) (pe_k (by rfl) c_LONGEST_ROW) (nomark _))))).pt (pss_one (ps_ret pe_bl)) pss_nil)
      (pss_one (ps_ret (pe_callB (cr_all rfl) (by rfl) B.all (by decide +kernel) (pa_cons (pe_lc (own := [("part", 1)]) (g := gName 1) (tt := tYes) rfl sc_is_row.nd (pi_tup (pv 0)) (blkOk_by (own := [("part", 1)]) (N := ["thing", "part"]) (sc := defScope s_is_row) (by decide +kernel)) (fun _ _ _ _ _ => (pg_name (i := 1) sc_is_row.nd rfl (Or.inl rfl))) (fun _ _ _ _ _ => pts_nil) (fun _ _ _ _ _ => (pe_cl c_is_name hr (by decide) (by rfl) (pa_cons (pv 1) pa_nil)))) pa_nil)))))), ?_⟩
    refine ⟨_, rfl, _, _, _, _, _, rfl, ClsV.ty _, ty_of hd, kit_ty (kit_t d), _, rfl, ?_⟩
    cases hd with
    | @tup a xs ds hx hl ha =>
      have hn := ha.length
      have hS : SqT K H a xs := .inl (.inl hx)
      refine iteF ⟨_, rfl, _, _, rfl, .inr hS, _, _, rfl, rfl, _, rfl, ?_⟩
      by_cases h4 : ds.length ≤ 400
      · rw [decide_eq_false (show ¬ (400 : Int) < (xs.length : Int) by omega)]
        refine iteF ?_
        refine ⟨_, rfl, a, rfl, ⟨_, hS⟩, fun D hD => lc_tup (K := K) (xs := xs) (fun i H' => Same H H' ∧ H' D = some (.lst ((ds.take i).map fun d => V.bl (nameD d)))) ?_ (fun i H' _ h => ?_) ?_ ?_⟩
        · exact ⟨same_new hD, upd_same⟩
        · exact .inl (.inl (h.1 _ _ hx))
        · rintro i x H1 hi ⟨s1, e1⟩
          obtain ⟨d, hd1, hd2⟩ := ha.get hi
          refine ⟨rfl, _, rfl, p, x, d, rfl, hd2.same s1, fun H2 s2 => ⟨_, s2 _ _ e1, ?_, same_in (s1.trans s2) hD, ?_⟩⟩
          · rw [List.length_map, List.length_take]
            exact Nat.lt_of_le_of_lt (Nat.min_le_right _ _) (len_line (by omega))
          · rw [upd_same, List.take_add_one, List.map_append, hd1]
            rfl
        · rintro H1 ⟨s1, e1⟩
          rw [hn, List.take_of_length_le (Nat.le_refl _)] at e1
          refine ⟨D, ds.map nameD, rfl, .inl (.inl (by rw [List.map_map]; exact e1)), ?_⟩
          have ea : (ds.map nameD).all id = rowD 400 (.tuple ds) := by
            rw [rowD_tuple, decide_eq_true h4, List.all_map, Bool.true_and]
            rfl
          rw [ea]
          exact q H1 s1
      · rw [decide_eq_true (show (400 : Int) < (xs.length : Int) by omega)]
        refine iteT ?_
        have en : rowD 400 (.tuple ds) = false := by rw [rowD_tuple, decide_eq_false h4, Bool.false_and]
        have := q H (Same.refl H)
        rw [en] at this
        exact this
    | non => exact iteT (q H (Same.refl H))
    | bl b => exact iteT (q H (Same.refl H))
    | int i => exact iteT (q H (Same.refl H))
    | lst _ _ _ _ => exact iteT (q H (Same.refl H))
    | str _ _ => exact iteT (q H (Same.refl H))
    | dic0 _ => exact iteT (q H (Same.refl H))
    | dic1 _ => exact iteT (q H (Same.refl H))

theorem ok_word (F : FnP K "is_word" s_is_word f fd) (B : Bi mg) (c_LONGEST_WORD : Con mg "LONGEST_WORD" (.int 12)) (c_is_row : Cl P w K mg base 2 "is_row" ["thing"] (spRow 400)) :
    FnOk P w K mg base CX0 3 f fd ["thing"] (spRow 12) := by
  refine F.ok sc_is_word (fun vs H Q E h => ?_) (fun cdv A outer s H vs Q E hr h => ?_)
  · obtain ⟨p, v, d, rfl, _⟩ := h
    rfl
  · obtain ⟨p, v, d, rfl, hd, q⟩ := h
    refine ⟨_, PSs.nox ((pss_one (ps_ret (pe_and (pe_cl c_is_row hr (by decide) (by rfl) (pa_cons (pv 0) pa_nil)) (pe_one (pe_cmpR op_le (pe_callB call_len_seq (by rfl) B.len (by decide +kernel) (pa_cons (pv 0) pa_nil)) (pe_k (by rfl) c_LONGEST_WORD) (nomark _))))))), ?_⟩
    refine ⟨_, rfl, p, v, d, rfl, hd, fun H1 s1 => ⟨_, rfl, ite2 (fun e => ?_) (fun e => ?_)⟩⟩
    · cases hd with
      | @tup a xs ds hx hl ha =>
        have hn := ha.length
        rw [rowD_tuple, Bool.and_eq_true] at e
        refine ⟨_, rfl, _, _, rfl, .inr (.inl (.inl (s1 _ _ hx))), _, _, rfl, rfl, ?_⟩
        have ea : decide ((xs.length : Int) ≤ 12) = rowD 12 (.tuple ds) := by
          rw [rowD_tuple, e.2, Bool.and_true, hn]
          by_cases h : ds.length ≤ 12
          · rw [decide_eq_true h, decide_eq_true (by omega)]
          · rw [decide_eq_false h, decide_eq_false (by omega)]
        show Q (.bl (decide ((xs.length : Int) ≤ 12))) H1
        rw [ea]
        exact q H1 s1
      | non => cases e
      | bl b => cases e
      | int i => cases e
      | lst _ _ _ _ => cases e
      | str _ _ => cases e
      | dic0 _ => cases e
      | dic1 _ => cases e
    · have en : rowD 12 d = false := by
        cases d with
        | tuple ds =>
          rw [rowD_tuple, Bool.and_eq_true, not_and] at e
          rw [rowD_tuple]
          by_cases h : ds.length ≤ 12
          · have h4 : decide (ds.length ≤ 400) = true := decide_eq_true (by omega)
            have := e h4
            rw [Bool.not_eq_true] at this
            rw [this, Bool.and_false]
          · rw [decide_eq_false h, Bool.false_and]
        | _ => rfl
      have := q H1 s1
      rw [en] at this
      exact this

/-! ### the law's own look -/
def spIs : Sp := fun vs H Q _ => ∃ (p : List Addr) (v : V) (d : PyData) (n : Nat), vs = [v, .int (n : Int)] ∧ Dx p H v d ∧ ∀ H', Same H H' → Q (.bl (rowD n d)) H'
theorem ok_is (F : FnP K "_law_is" s_law_is f fd) (B : Bi mg) : FnOk P w K mg base CX0 1 f fd ["_law_item", "_law_most"] spIs := by
  refine F.ok sc_law_is (fun vs H Q E h => ?_) (fun cdv A outer s H vs Q E hr h => ?_)
  · obtain ⟨p, v, d, n, rfl, _⟩ := h
    rfl
  · obtain ⟨p, v, d, n, rfl, hd, q⟩ := h
    refine ⟨_, PSs.nox ((pss_cons (ps_if ((pw_or (pt_not (pt_val (pe_callB call_isi (by rfl) B.isinstance (by decide +kernel) (pa_cons (pv 0) (pa_cons (pe_bltn (v := .ty "tuple") (by rfl) B.tuple (by decide +kernel) rfl) pa_nil))))) (pw_or1 (pt_cmpR op_gt (pe_callB call_len_seq (by rfl) B.len (by decide +kernel) (pa_cons (pv 0) pa_nil)) (pv 1) (nomark _))))).pt (pss_one (ps_ret pe_bl)) pss_nil)
      (pss_cons (ps_for PassesOwn.never rfl (pi_tup (pv 0)) (pg_name (i := 2) sc_law_is.nd rfl (Or.inl rfl)) (pss_cons (ps_if ((pw_or (pt_not (pt_val (pe_callB call_isi (by rfl) B.isinstance (by decide +kernel) (pa_cons (pv 2) (pa_cons (pe_bltn (v := .ty "str") (by rfl) B.str (by decide +kernel) rfl) pa_nil))))) (pw_or1 (pt_not (pt_chain op_le op_le pe_int (pe_callB call_len (by rfl) B.len (by decide +kernel) (pa_cons (pv 2) pa_nil)) pe_int))))).pt (pss_one (ps_ret pe_bl)) pss_nil)
      (pss_one (ps_if (pt_not (pt_val (pe_callB (cr_all rfl) (by rfl) B.all (by decide +kernel) (pa_cons (pe_lc (own := [("_law_sign", 3)]) (g := gName 3) (tt := tYes) rfl sc_law_is.nd (pi_str (pv 2)) (blkOk_by (own := [("_law_sign", 3)]) (N := ["_law_item", "_law_most", "_law_name", "_law_sign"]) (sc := defScope s_law_is) (by decide +kernel)) (fun _ _ _ _ _ => (pg_name (i := 3) sc_law_is.nd rfl (Or.inl rfl))) (fun _ _ _ _ _ => pts_nil) (fun _ _ _ _ _ => (pe_cmpR op_in_sign (pv 3) pe_str rfl))) pa_nil)))) (pss_one (ps_ret pe_bl)) pss_nil))))
      (pss_one (ps_ret pe_bl))))), ?_⟩
    refine ⟨_, rfl, _, _, _, _, _, rfl, ClsV.ty _, ty_of hd, kit_ty (kit_t d), _, rfl, ?_⟩
    cases hd with
    | @tup a xs ds hx hl ha =>
      have hn := ha.length
      have hS : SqT K H a xs := .inl (.inl hx)
      refine iteF ⟨_, rfl, _, _, rfl, .inr hS, _, rfl, _, _, rfl, rfl, _, rfl, ?_⟩
      by_cases h4 : ds.length ≤ n
      · rw [decide_eq_false (show ¬ (n : Int) < (xs.length : Int) by omega)]
        refine iteF ?_
        refine ⟨_, rfl, a, rfl, ⟨_, hS⟩, for_tup (K := K) (xs := xs) (fun i σ H' => Same H H' ∧ (ds.take i).all nameD = true ∧ ∃ y, σ = [some (.ref a), some (.int (n : Int)), y, none]) ?_ (fun i σ H' _ h => .inl (.inl (h.1 _ _ hx))) ?_ ?_⟩
        · exact ⟨Same.refl H, rfl, _, rfl⟩
        · rintro i x σ H1 hi ⟨s1, e1, y, rfl⟩
          obtain ⟨d, hd1, hd2⟩ := ha.get hi
          have hd3 := hd2.same s1
          have hbad : nameD d = false → rowD n (.tuple ds) = false := fun z => by
            rw [rowD_tuple]
            have : ds.all nameD = false := by
              rw [List.all_eq_false]
              exact ⟨d, List.mem_of_getElem? hd1, by rw [z]; exact Bool.false_ne_true⟩
            rw [this, Bool.and_false]
          have hno : nameD d = false → Q (.bl false) H1 := fun z => by
            have := q H1 s1
            rw [hbad z] at this
            exact this
          refine ⟨_, rfl, _, _, _, _, _, rfl, ClsV.ty _, ty_of hd3, kit_ty (kit_s d), _, rfl, ?_⟩
          cases hd2 with
          | str x hx =>
            refine iteF ⟨_, rfl, _, _, rfl, ⟨str_line hx, rfl⟩, _, _, rfl, rfl, _, rfl, ite2 (fun e2 => ?_) (fun e2 => ?_)⟩
            · have h1 : 1 ≤ x.length := by
                have := of_decide_eq_true e2
                omega
              refine ⟨_, _, rfl, rfl, _, rfl, ?_⟩
              by_cases h6 : x.length ≤ 6
              · have e6 : decide ((x.length : Int) ≤ 6) = true := decide_eq_true (by omega)
                rw [e6]
                refine iteF ?_
                refine ⟨_, rfl, x, rfl, fun D hD => lc_it walk_str (fun i H' => Same H1 H' ∧ H' D = some (.lst ((x.cps.toList.take i).map fun c => V.bl (signOk c)))) ?_ (fun _ _ _ _ => trivial) ?_ ?_⟩
                · exact ⟨same_new hD, upd_same⟩
                · rintro i _ H3 H2 hi ⟨s1, e1⟩ ⟨rfl, c, hc, rfl⟩
                  refine ⟨rfl, _, rfl, c, lettersS, rfl, rfl, _, e1, ?_, same_in s1 hD, ?_⟩
                  · rw [List.length_map, List.length_take]
                    exact Nat.lt_of_le_of_lt (Nat.min_le_right _ _) (len_line (by rw [Array.length_toList]; exact hx))
                  · rw [upd_same, List.take_add_one, List.map_append]
                    have hc' : x.cps.toList[i]? = some c := by rw [Array.getElem?_toList]; exact hc
                    rw [hc']
                    rfl
                · rintro H3 ⟨s3, e3⟩
                  have et : x.cps.toList.take x.cps.size = x.cps.toList := List.take_of_length_le (by rw [Array.length_toList]; exact Nat.le_refl _)
                  rw [et] at e3
                  refine ⟨D, x.cps.toList.map signOk, rfl, .inl (.inl (by rw [List.map_map]; exact e3)), _, rfl, ?_⟩
                  have ea : (x.cps.toList.map signOk).all id = nameD (.str x) := by
                    rw [nameD_str, decide_eq_true h1, decide_eq_true h6, List.all_map, Bool.true_and, Bool.true_and]
                    rfl
                  rw [ea]
                  cases en : nameD (.str x) with
                  | true =>
                    refine iteF ⟨s1.trans s3, ?_, _, rfl⟩
                    rw [List.take_add_one, List.all_append, e1, hd1]
                    show (true && ([PyData.str x].all nameD)) = true
                    simp [en]
                  | false =>
                    refine iteT ?_
                    have := q H3 (s1.trans s3)
                    rw [hbad en] at this
                    exact this
              · have e6 : decide ((x.length : Int) ≤ 6) = false := decide_eq_false (by omega)
                rw [e6]
                refine iteT (hno ?_)
                rw [nameD_str, decide_eq_false h6, Bool.and_false, Bool.false_and]
            · refine ⟨_, rfl, iteT (hno ?_)⟩
              rw [nameD_str, decide_eq_false (show ¬ 1 ≤ x.length by intro z; exact e2 (decide_eq_true (by omega))), Bool.false_and, Bool.false_and]
          | non => exact iteT (hno rfl)
          | bl b => exact iteT (hno rfl)
          | int i => exact iteT (hno rfl)
          | lst _ _ _ _ => exact iteT (hno rfl)
          | tup _ _ _ => exact iteT (hno rfl)
          | dic0 _ => exact iteT (hno rfl)
          | dic1 _ => exact iteT (hno rfl)
        · rintro σ H1 ⟨s1, e1, y, rfl⟩
          rw [hn, List.take_of_length_le (Nat.le_refl _)] at e1
          have := q H1 s1
          rw [rowD_tuple, decide_eq_true h4, e1] at this
          exact this
      · rw [decide_eq_true (show (n : Int) < (xs.length : Int) by omega)]
        refine iteT ?_
        have en : rowD n (.tuple ds) = false := by rw [rowD_tuple, decide_eq_false h4, Bool.false_and]
        have := q H (Same.refl H)
        rw [en] at this
        exact this
    | non => exact iteT (q H (Same.refl H))
    | bl b => exact iteT (q H (Same.refl H))
    | int i => exact iteT (q H (Same.refl H))
    | lst _ _ _ _ => exact iteT (q H (Same.refl H))
    | str _ _ => exact iteT (q H (Same.refl H))
    | dic0 _ => exact iteT (q H (Same.refl H))
    | dic1 _ => exact iteT (q H (Same.refl H))
end
end K01

namespace K01
open PySem PySem.Spec PyProof.Rows L2 Gk
abbrev s_law_drawn_name : Stmt := topS 12
theorem sc_law_drawn_name : FnScope ["_law_pot_here", "_law_letters", "_law_k"] ["_law_pot_here"] (defScope s_law_drawn_name) := ⟨rfl, rfl, rfl, by decide +kernel, rfl, by decide +kernel, by decide +kernel⟩

abbrev s_law_odd : Stmt := topS 13
theorem sc_law_odd : FnScope ["_law_pot_here", "_law_name", "_law_at", "_law_sign", "_law_some"] ["_law_pot_here", "_law_name"] (defScope s_law_odd) := ⟨rfl, rfl, rfl, by decide +kernel, rfl, by decide +kernel, by decide +kernel⟩

/-! ### texts -/
def Tx (n : Nat) (x : Str) : Prop := x.length ≤ n ∧ ∀ c ∈ x.cps.toList, c < 1000000
theorem Tx.mono {n m : Nat} {x : Str} (h : Tx n x) (l : n ≤ m) : Tx m x := ⟨Nat.le_trans h.1 l, h.2⟩
theorem Tx.cat {n m : Nat} {x y : Str} (h : Tx n x) (k : Tx m y) : Tx (n + m) (x ++ y) := by
  refine ⟨?_, fun c hc => ?_⟩
  · rw [strLen_append]
    have := h.1
    have := k.1
    omega
  · have e : (x ++ y).cps.toList = x.cps.toList ++ y.cps.toList := by
      show (x.cps ++ y.cps).toList = _
      simp
    rw [e] at hc
    exact (List.mem_append.mp hc).elim (h.2 c) (k.2 c)
theorem Tx.cut {n : Nat} {x : Str} (h : Tx n x) (lo hi : Option Int) : Tx n (cutS x lo hi) := by
  refine ⟨Nat.le_trans (cutS_length x lo hi) h.1, fun c hc => h.2 c ?_⟩
  exact List.mem_of_mem_drop (List.mem_of_mem_take hc)
theorem Tx.rep {n : Nat} {x : Str} (h : Tx n x) (k : Nat) : Tx (k * n) (repS x k) := by
  refine ⟨?_, fun c hc => ?_⟩
  · rw [repS_length]
    exact Nat.mul_le_mul_left k h.1
  · obtain ⟨l, hl, hc⟩ := List.mem_flatten.mp hc
    exact h.2 c (by rw [List.mem_replicate] at hl; rw [hl.2] at hc; exact hc)
theorem Tx.one {c : Nat} (h : c < 1000000) : Tx 1 ⟨#[c]⟩ := ⟨Nat.le_refl 1, fun e he => by
  have : e = c := by simpa using he
  rw [this]; exact h⟩
theorem letters_small : ∀ c ∈ lettersS.cps.toList, c < 1000000 := by decide +kernel
theorem upper_small : ∀ c ∈ lettersS.cps.toList, ∀ e ∈ Unicode.upperOf c, e < 1000000 := by decide +kernel
/-- a name as it is drawn -/
def Nm (x : Str) : Prop := 1 ≤ x.length ∧ x.length ≤ 6 ∧ ∀ c ∈ x.cps.toList, c ∈ lettersS.cps.toList
theorem Nm.tx {x : Str} (h : Nm x) : Tx 6 x := ⟨h.2.1, fun c hc => letters_small c (h.2.2 c hc)⟩
theorem Nm.up {x : Str} (h : Nm x) : Tx 18 (Txt.upper x) := by
  refine ⟨?_, fun c hc => ?_⟩
  · have := len_upper x
    have := h.2.1
    omega
  · have hc' : c ∈ (x.cps.mapIdx fun _ c => (Unicode.upperOf c).toArray).flatten := Array.mem_toList_iff.mp hc
    rw [Array.mem_flatten] at hc'
    obtain ⟨l, hl, hc'⟩ := hc'
    rw [Array.mem_mapIdx] at hl
    obtain ⟨i, hi, rfl⟩ := hl
    exact upper_small _ (h.2.2 _ (Array.mem_toList_iff.mpr (Array.getElem_mem hi))) c (by simpa using hc')
theorem join_one {ys : List Str} (h : ∀ y ∈ ys, ∃ c, y = ⟨#[c]⟩ ∧ c ∈ lettersS.cps.toList) :
    (Txt.join "" ys).length = ys.length ∧ ∀ c ∈ (Txt.join "" ys).cps.toList, c ∈ lettersS.cps.toList := by
  rw [TL.join_eq]
  induction ys with
  | nil => exact ⟨rfl, fun c hc => absurd hc List.not_mem_nil⟩
  | cons y r ih =>
    obtain ⟨c, rfl, hc⟩ := h y (List.mem_cons_self ..)
    have ih := ih fun z hz => h z (List.mem_cons_of_mem _ hz)
    cases r with
    | nil => exact ⟨rfl, fun e he => by
        have : e = c := by simpa [Str.join] using he
        rw [this]; exact hc⟩
    | cons z r =>
      have e : Str.join "" (⟨#[c]⟩ :: z :: r) = (⟨#[c]⟩ ++ "" ++ Str.join "" (z :: r) : Str) := rfl
      rw [e]
      refine ⟨?_, fun e he => ?_⟩
      · rw [strLen_append, strLen_append, ih.1]
        show 1 + 0 + (r.length + 1) = r.length + 1 + 1
        omega
      · have q : ((⟨#[c]⟩ : Str) ++ "" ++ Str.join "" (z :: r)).cps.toList = c :: (Str.join "" (z :: r)).cps.toList := by
          show ((#[c] ++ #[]) ++ (Str.join "" (z :: r)).cps).toList = _
          simp
        rw [q] at he
        rcases List.mem_cons.mp he with z' | z'
        · rw [z']; exact hc
        · exact ih.2 e z'
/-- what is odd in a row -/
structure Od (d : PyData) : Prop where
  ok : d.showable = true
  deep : d.depth ≤ 2
  size : d.shown.length ≤ 300
  clean : d.hasDict = false ∨ listless d = true
theorem Od.str {n : Nat} {x : Str} (h : Tx n x) (l : n ≤ 20) : Od (.str x) := by
  refine ⟨rfl, Nat.zero_le _, ?_, .inl rfl⟩
  have := StrLaws.reprText_len x fun c hc => Nat.lt_of_lt_of_le (h.2 c hc) (by decide)
  have := h.1
  show (reprText x).length ≤ 300
  omega
section
variable {P : Program} {w : World} {K : PySem.W.Frag} {mg : Str → Option Value} {base : Heap} {f : Addr} {fd : FuncData}
theorem Keep.trans' {N : List Addr} {H H1 H2 : Hp} (s : Same H H1) (k : Keep N H1 H2) : Keep N H H2 := (Keep.of s).trans k

def spDrawn : Sp := fun vs H Q _ => ∃ p : Addr, vs = [.ref p] ∧ Pot H p ∧ ∀ (z : Str) H', Nm z → Keep [p] H H' → Pot H' p → Q (.str z) H'
theorem ok_drawn (F : FnP K "_law_drawn_name" s_law_drawn_name f fd) (B : Bi mg) (c_law_of : Cl P w K mg base 2 "_law_of" ["_law_pot_here", "_law_some"] (spOf K)) :
    FnOk P w K mg base CX0 3 f fd ["_law_pot_here"] spDrawn := by
  refine F.ok sc_law_drawn_name (fun vs H Q E h => ?_) (fun cdv A outer s H vs Q E hr h => ?_)
  · obtain ⟨p, rfl, _⟩ := h
    rfl
  · obtain ⟨p, rfl, hp, q⟩ := h
    refine ⟨_, PSs.nox ((pss_cons (ps_set (i := 1) sc_law_drawn_name.nd rfl (Or.inr rfl) pe_str)
      (pss_one (ps_ret (pe_join pe_str (pe_lc (own := [("_law_k", 2)]) (g := gName 2) (tt := tYes) rfl sc_law_drawn_name.nd (pi_range1 (by rfl) B.range (pa_cons (pe_cl c_law_of hr (by decide) (by rfl) (pa_cons (pv 0) (pa_cons (pe_lst (pa_cons pe_int (pa_cons pe_int (pa_cons pe_int (pa_cons pe_int (pa_cons pe_int pa_nil)))))) pa_nil))) pa_nil)) (blkOk_by (own := [("_law_k", 2)]) (N := ["_law_pot_here", "_law_letters", "_law_k"]) (sc := defScope s_law_drawn_name) (by decide +kernel)) (fun _ _ _ _ _ => (pg_name (i := 2) sc_law_drawn_name.nd rfl (Or.inl rfl))) (fun _ _ _ _ _ => pts_nil) (fun _ _ _ _ _ => (pe_cl c_law_of hr (by decide) (by rfl) (pa_cons (pv 0) (pa_cons (pv 1) pa_nil)))))))))), ?_⟩
    refine ⟨⟨_, rfl⟩, _, rfl, (by show 5 ≤ sizeLine; decide), fun l hl => ?_⟩
    have hlp : l ≠ p := fun e => by
      obtain ⟨g, r, z, _⟩ := hp
      rw [← e, hl] at z
      cases z
    refine ⟨p, hp.same (same_new hl), .inl ⟨l, _, rfl, hlp, upd_same, by decide, by decide, fun x H1 hx k1 hp1 => ?_⟩⟩
    obtain ⟨n, rfl, n1, n6⟩ : ∃ n : Nat, x = .int (n : Int) ∧ 1 ≤ n ∧ n ≤ 6 := by
      simp only [List.mem_cons, List.not_mem_nil, or_false] at hx
      rcases hx with rfl | rfl | rfl | rfl | rfl
      · exact ⟨1, rfl, by decide, by decide⟩
      · exact ⟨1, rfl, by decide, by decide⟩
      · exact ⟨2, rfl, by decide, by decide⟩
      · exact ⟨3, rfl, by decide, by decide⟩
      · exact ⟨6, rfl, by decide, by decide⟩
    have k0 : Keep [p] H H1 := Keep.trans' (same_new hl) k1
    refine ⟨_, rfl, by omega, by omega, fun D hD => lc_range (lo := 0) (n := n) (fun i H' => ∃ ys : List Str, ys.length = i ∧ (∀ y ∈ ys, ∃ c, y = ⟨#[c]⟩ ∧ c ∈ lettersS.cps.toList) ∧ Keep [p] H H' ∧ Pot H' p ∧ H' D = some (.lst (ys.map V.str))) ?_ ?_ ?_⟩
    · exact ⟨[], rfl, fun y hy => (List.not_mem_nil hy).elim, k0.trans (Keep.of (same_new hD)), hp1.same (same_new hD), upd_same⟩
    · rintro i H2 hi ⟨ys, el, hy, k2, hp2, e2⟩
      refine ⟨rfl, _, rfl, _, rfl, p, hp2, .inr ⟨lettersS, rfl, by decide, by decide, fun c H3 hc k3 hp3 => ?_⟩⟩
      have hDp : D ≠ p := fun e => by
        obtain ⟨g, r, z, _⟩ := hp1
        rw [← e, hD] at z
        cases z
      have e3 := k3 D _ (fun z => hDp (List.mem_singleton.mp z)) e2
      refine ⟨_, e3, ?_, ys ++ [⟨#[c]⟩], ?_, ?_, ?_, ?_, ?_⟩
      · rw [List.length_map, el]
        exact len_line (by omega)
      · rw [List.length_append, el]
        rfl
      · intro y hm
        rcases List.mem_append.mp hm with z | z
        · exact hy y z
        · exact ⟨c, List.mem_singleton.mp z, hc⟩
      · intro b o hb ho
        have h1 := (k2.trans k3) b o hb ho
        rw [upd_ne (show b ≠ D from fun e => by
          have := k0 b o hb ho
          rw [e, hD] at this
          cases this)]
        exact h1
      · obtain ⟨g, r, z, zz⟩ := hp3
        exact ⟨g, r, by rw [upd_ne hDp.symm]; exact z, zz⟩
      · rw [upd_same, List.map_append]
        rfl
    · rintro H2 ⟨ys, el, hy, k2, hp2, e2⟩
      have j := join_one hy
      have hsum : (ys.map (·.length)).sum ≤ 6 := by
        have : (ys.map (·.length)).sum = ys.length := by
          clear j e2 el
          induction ys with
          | nil => rfl
          | cons y r ih =>
            obtain ⟨c, rfl, _⟩ := hy y (List.mem_cons_self ..)
            rw [List.map_cons, List.sum_cons, ih fun z hz => hy z (List.mem_cons_of_mem _ hz), List.length_cons]
            show 1 + r.length = _
            omega
        omega
      refine ⟨_, D, ys, rfl, rfl, .inl (.inl (.inl e2)), ?_, ?_⟩
      · have : ("" : Str).length = 0 := rfl
        rw [this]
        omega
      · exact q _ H2 ⟨by rw [j.1]; omega, by rw [j.1]; omega, j.2⟩ k2 hp2
end
end K01

namespace K01
open PySem PySem.Spec PyProof.Rows L2 Gk
section
variable {P : Program} {w : World} {K : PySem.W.Frag} {mg : Str → Option Value} {base : Heap} {f : Addr} {fd : FuncData}
theorem small_of {z : Str} {c : Nat} (hc : c ∈ z.cps.toList) (h : z.cps.toList.all (fun c => decide (c < 1000000)) = true) : c < 1000000 :=
  of_decide_eq_true (List.all_eq_true.mp h c hc)
theorem Pot.ne {H : Hp} {p l : Addr} (h : Pot H p) (hl : H l = none) : l ≠ p := fun e => by
  obtain ⟨g, r, z, _⟩ := h
  rw [← e, hl] at z
  cases z
theorem lists_fresh {N : List Addr} {H : Hp} {l : Addr} (h : Lists N H) (hl : H l = none) : l ∉ N := fun m => by
  obtain ⟨xs, e⟩ := h l m
  rw [hl] at e
  cases e
theorem lists_keep {N : List Addr} {H H' : Hp} {p : Addr} (h : Lists N H) (k : Keep [p] H H') (hp : Pot H' p) : Lists N H' := fun a m => by
  by_cases e : a = p
  · rw [e]
    obtain ⟨g, r, z, _⟩ := hp
    exact ⟨_, z⟩
  · obtain ⟨xs, z⟩ := h a m
    exact ⟨xs, k a _ (fun z => e (List.mem_singleton.mp z)) z⟩
theorem lists_same {N : List Addr} {H H' : Hp} (h : Lists N H) (s : Same H H') : Lists N H' := fun a m => by
  obtain ⟨xs, z⟩ := h a m
  exact ⟨xs, s a _ z⟩
theorem line {n : Nat} (h : n ≤ 100000) : n ≤ sizeLine := by rw [sizeLine_eq]; omega

theorem cut_one (z : Str) : (cutS z none (some 1)).length ≤ 1 := by
  show (List.take _ _).toArray.size ≤ 1
  rw [List.size_toArray, List.length_take]
  have e : HT.sIx z.length z.length (some 1) = min 1 z.length := HT.sIx_nat _ _ 1
  rw [e]
  omega
theorem shown_z {z : Str} (h : Tx 6 z) : (PyData.str z).shown.length ≤ 62 := by
  have := StrLaws.reprText_len z fun c hc => Nat.lt_of_lt_of_le (h.2 c hc) (by decide)
  have := h.1
  show (reprText z).length ≤ 62
  omega
def Md (m : Nat) (p : Addr) (N : List Addr) (H : Hp) (z : Str) : L2.St → Hp → Prop := fun σ Hm => ∃ (at' : Nat) (c : Nat) (l : Addr) (xs : List V) (ds : List PyData),
  σ = [some (.ref p), some (.str z), some (.int (at' : Int)), some (.str ⟨#[c]⟩), some (.ref l)] ∧ Hm l = some (.lst xs) ∧ l ∉ N ∧ xs.length ≤ m ∧
  DxA N Hm xs ds ∧ (∀ d ∈ ds, Od d) ∧ Keep [p] H Hm ∧ Pot Hm p ∧ Lists N Hm
def spOdd : Sp := fun vs H Q _ => ∃ (p : Addr) (z : Str) (N : List Addr), vs = [.ref p, .str z] ∧ Pot H p ∧ p ∈ N ∧ Lists N H ∧ Nm z ∧
  ∀ v d H', Dx N H' v d → Od d → Keep [p] H H' → Pot H' p → Q v H'
theorem ok_odd (F : FnP K "_law_odd" s_law_odd f fd) (B : Bi mg) (c_law_of : Cl P w K mg base 2 "_law_of" ["_law_pot_here", "_law_some"] (spOf K))
    (c_law_take : Cl P w K mg base 1 "_law_take" ["_law_pot_here", "_law_upto"] spTake) :
    FnOk P w K mg base CX0 3 f fd ["_law_pot_here", "_law_name"] spOdd := by
  refine F.ok sc_law_odd (fun vs H Q E h => ?_) (fun cdv A outer s H vs Q E hr h => ?_)
  · obtain ⟨p, z, N, rfl, _⟩ := h
    rfl
  · obtain ⟨p, z, N, rfl, hp, hpN, hN, hz, q⟩ := h
    have tz := hz.tx
    have lz : z.length ≤ 6 := hz.2.1
    refine ⟨_, PSs.nox ((pss_cons (ps_par (i := 2) (j := 3) rfl sc_law_odd.nd rfl rfl (by decide) rfl rfl (pa_cons (pe_cl c_law_take hr (by decide) (by rfl) (pa_cons (pv 0) (pa_cons (pe_op op_add (pe_callB call_len (by rfl) B.len (by decide +kernel) (pa_cons (pv 1) pa_nil)) pe_int) pa_nil))) (pa_cons (pe_cl c_law_of hr (by decide) (by rfl) (pa_cons (pv 0) (pa_cons pe_str pa_nil))) pa_nil)) (by rfl))
      (pss_cons (ps_set (i := 4) sc_law_odd.nd rfl (Or.inl rfl) (pe_lst (pa_cons (pe_op op_add_str (pe_op op_add_str (pe_slice sl_str (pv 1) po_none (po_some (pv 2))) (pv 3)) (pe_slice sl_str (pv 1) (po_some (pv 2)) po_none)) (pa_cons (pe_op op_add_str (pv 1) (pe_slice sl_str pe_str (po_some (pe_op op_sub (pe_callB call_len (by rfl) B.len (by decide +kernel) (pa_cons (pv 1) pa_nil)) pe_int)) po_none)) pa_nil))))
      (C8.pss_cut (ps_expr (pe_bm PySem.F.plainAttrs_list PySem.F.slot_list_append PySem.F.type_list_append mt_append (pv 4) (pa_cons (pe_op op_add_str (pv 1) (pe_slice sl_str pe_str (po_some (pe_callB call_len (by rfl) B.len (by decide +kernel) (pa_cons (pv 1) pa_nil))) po_none)) pa_nil)))
      (C8.pss_cut (ps_set (i := 4) sc_law_odd.nd rfl (Or.inl rfl) (pe_op op_cat (pv 4) (pe_lst (pa_cons pe_str (pa_cons (pe_upper (pv 1)) (pa_cons pe_non (pa_cons pe_int (pa_cons pe_int (pa_cons pe_bl (pa_cons pe_bl (pa_cons (pe_tup (pa_cons (pv 1) pa_nil)) (pa_cons (pe_lst (pa_cons (pv 1) pa_nil)) (pa_cons (pe_disp (pps_cons (pv 1) pe_int pps_nil) (by rfl) (by rfl) (fun z => by cases z) (by decide)) (pa_cons (pe_tup pa_nil) pa_nil))))))))))))))
      (pss_cons (ps_set (i := 4) sc_law_odd.nd rfl (Or.inl rfl) (pe_op op_cat (pv 4) (pe_lst (pa_cons (pe_op op_mulStr (pe_slice sl_str (pv 1) po_none (po_some pe_int)) pe_int) (pa_cons (pe_op op_mulStr (pe_slice sl_str (pv 1) po_none (po_some pe_int)) pe_int) pa_nil)))))
      (pss_one (ps_ret (pe_cl c_law_of hr (by decide) (by rfl) (pa_cons (pv 0) (pa_cons (pv 4) pa_nil))))))))))), ?_⟩
    refine ⟨_, rfl, _, rfl, _, _, rfl, ⟨line (by omega), rfl⟩, _, _, rfl, rfl, p, z.length + 1, rfl, hp, by omega, by omega, fun at' H1 hat k1 hp1 => ?_⟩
    refine ⟨_, rfl, p, hp1, .inr ⟨_, rfl, by decide, by decide, fun c H2 hc k2 hp2 => ⟨_, _, rfl, ?_⟩⟩⟩
    have tc : Tx 1 ⟨#[c]⟩ := Tx.one (small_of hc (by decide +kernel))
    have k12 : Keep [p] H H2 := k1.trans k2
    have hN2 : Lists N H2 := lists_keep hN k12 hp2
    have bc : (⟨#[c]⟩ : Str).length = 1 := rfl
    -- the first three
    have t1 : Tx 13 (cutS z none (some at') ++ ⟨#[c]⟩ ++ cutS z (some at') none) := ((tz.cut _ _).cat tc).cat (tz.cut _ _)
    have b1 : (cutS z none (some at')).length ≤ 6 := (tz.cut _ _).1
    have b2 : (cutS z (some at') none).length ≤ 6 := (tz.cut _ _).1
    have b12 : (cutS z none (some at') ++ ⟨#[c]⟩).length ≤ 7 := ((tz.cut none (some (at' : Int))).cat tc).1
    have ta : ∀ lo hi, Tx 6 (cutS "abcdef" lo hi) := fun lo hi => Tx.cut ⟨by decide, by decide⟩ lo hi
    have tzz : ∀ lo hi, Tx 6 (cutS "zzzzzz" lo hi) := fun lo hi => Tx.cut ⟨by decide, by decide⟩ lo hi
    refine ⟨_, rfl, _, rfl, _, rfl, _, rfl, line (by omega), _, rfl, _, _, rfl, rfl, line (by omega), _, rfl, _, rfl, _, rfl, _, rfl, line (by omega), _, _, rfl, rfl, line (by omega), ?_⟩
    refine ⟨_, rfl, _, rfl, _, _, rfl, ⟨line (by omega), rfl⟩, _, _, rfl, rfl, _, rfl, _, rfl, by decide, _, _, rfl, rfl, line (by have := (ta (some ((z.length : Int) - 1)) none).1; omega), ?_⟩
    refine ⟨(by show 2 ≤ sizeLine; decide), fun l0 h0 => ?_⟩
    refine ⟨Md 3 p N H z, ?_, ?_⟩
    · refine ⟨_, rfl, .inl ⟨rfl, _, .inl (.inl upd_same)⟩, _, rfl, _, rfl, _, _, rfl, ⟨line (by omega), rfl⟩, _, rfl, _, rfl, by decide, _, _, rfl, rfl, line (by have := (tzz (some (z.length : Int)) none).1; omega), _, _, _, rfl, rfl, upd_same, (by show 2 < sizeLine; decide), ?_⟩
      have sm : ∀ o1 o2, Same H2 (upd (upd H2 l0 o1) l0 o2) := fun o1 o2 b o hb => by
        rw [upd_upd]
        exact same_new h0 b o hb
      refine ⟨at', c, l0, _, [.str _, .str _, .str _], rfl, upd_same, lists_fresh hN2 h0, (by show 3 ≤ 3; decide), .cons (.str _ ?_) (.cons (.str _ ?_) (.cons (.str _ ?_) .nil)), ?_, k12.trans (Keep.of (sm _ _)), hp2.same (sm _ _), lists_same hN2 (sm _ _)⟩
      · exact Nat.le_trans t1.1 (by decide)
      · exact Nat.le_trans (tz.cat (ta _ _)).1 (by decide)
      · exact Nat.le_trans (tz.cat (tzz _ _)).1 (by decide)
      · intro d hd
        simp only [List.mem_cons, List.not_mem_nil, or_false] at hd
        rcases hd with rfl | rfl | rfl
        · exact Od.str t1 (by decide)
        · exact Od.str (tz.cat (ta _ _)) (by decide)
        · exact Od.str (tz.cat (tzz _ _)) (by decide)
    · rintro _ Ha ⟨at', c, l, xs, ds, rfl, hl, hlN, hx, hD, hO, ka, hpa, hNa⟩
      refine ⟨Md 14 p N H z, ?_, ?_⟩
      · -- thirteen more
        refine ⟨_, rfl, _, rfl, ⟨_, rfl⟩, _, rfl, rfl, by omega, _, rfl, (by show 1 ≤ sizeLine; decide), fun t1' ht1 => ?_⟩
        have s1 : Same Ha (upd Ha t1' (.tup [.str z])) := same_new ht1
        refine ⟨_, rfl, (by show 1 ≤ sizeLine; decide), fun l1 hl1 => ?_⟩
        have s2 : Same _ (upd (upd Ha t1' (.tup [.str z])) l1 (.lst [.str z])) := same_new hl1
        refine fun d1 hd1 => ⟨_, rfl, upd_same, [(Sum.inr z, .int 0)], rfl, (by show 1 ≤ 15; decide), ?_⟩
        have s3 : ∀ (H3 : Hp) (o1 o2 : HO), H3 d1 = none → Same H3 (upd (upd H3 d1 o1) d1 o2) := fun H3 o1 o2 hn b o hb => by
          rw [upd_upd]
          exact same_new hn b o hb
        refine ⟨Nat.zero_le _, fun t2 ht2 => ⟨(by show 11 ≤ sizeLine; decide), fun l2 hl2 => ?_⟩⟩
        have n2 := same_new (o := .lst [.str "", .str (Txt.upper z), .non, .int 0, .int 1, .bl true, .bl false, .ref t1', .ref l1, .ref d1, .ref t2]) hl2
        have m2 := same_new (o := .tup []) ht2
        have sAll := (s1.trans s2).trans ((s3 _ _ _ hd1).trans (m2.trans n2))
        refine ⟨l, l2, xs, _, rfl, rfl, sAll _ _ hl, upd_same, (by show xs.length + 11 ≤ sizeLine; exact line (by omega)), fun l3 hl3 => ?_⟩
        have n3 := same_new (o := .lst (xs ++ [.str "", .str (Txt.upper z), .non, .int 0, .int 1, .bl true, .bl false, .ref t1', .ref l1, .ref d1, .ref t2])) hl3
        have sEnd := sAll.trans n3
        have gt1 := ((s2.trans ((s3 _ _ _ hd1).trans (m2.trans n2))).trans n3) t1' _ upd_same
        have gl1 := (((s3 _ _ _ hd1).trans (m2.trans n2)).trans n3) l1 _ upd_same
        have gd1 := ((m2.trans n2).trans n3) d1 _ upd_same
        have gt2 := (n2.trans n3) t2 _ upd_same
        have nl1 : l1 ∉ N := lists_fresh (lists_same hNa s1) hl1
        have nz : z.length ≤ 100000 := by omega
        refine ⟨at', c, l3, _, ds ++ [.str "", .str (Txt.upper z), .none, .int 0, .int 1, .bool true, .bool false, .tuple [.str z], .list [.str z], .dict [(.str z, .int 0)], .tuple []], rfl, upd_same, lists_fresh (lists_same hNa sAll) hl3, ?_, ?_, ?_, ka.trans (Keep.of sEnd), hpa.same sEnd, lists_same hNa sEnd⟩
        · rw [List.length_append]
          show xs.length + 11 ≤ 14
          omega
        · refine (hD.same sEnd).append (.cons (.str _ (by decide)) (.cons (.str _ (Nat.le_trans hz.up.1 (by decide))) (.cons .non (.cons (.int 0) (.cons (.int 1) (.cons (.bl true) (.cons (.bl false) (.cons (.tup gt1 (by show 1 ≤ 100000; decide) (.cons (.str z nz) .nil)) (.cons (.lst gl1 nl1 (by show 1 ≤ 100000; decide) (.cons (.str z nz) .nil)) (.cons (.dic1 gd1) (.cons (.tup gt2 (by decide) .nil) .nil)))))))))))
        · intro d hd
          rcases List.mem_append.mp hd with hd | hd
          · exact hO d hd
          · have zs := Od.str tz (by decide)
            simp only [List.mem_cons, List.not_mem_nil, or_false] at hd
            rcases hd with rfl | rfl | rfl | rfl | rfl | rfl | rfl | rfl | rfl | rfl | rfl
            · exact Od.str (n := 0) ⟨by decide, by decide⟩ (by decide)
            · exact Od.str hz.up (by decide)
            · exact ⟨rfl, by decide, by decide, .inl rfl⟩
            · exact ⟨by decide, by decide, by decide, .inl rfl⟩
            · exact ⟨by decide, by decide, by decide, .inl rfl⟩
            · exact ⟨rfl, by decide, by decide, .inl rfl⟩
            · exact ⟨rfl, by decide, by decide, .inl rfl⟩
            · refine ⟨rfl, by simp [PyData.depth, PyData.depthAll], ?_, .inl rfl⟩
              have := shown_tuple_le (n := 62) (ds := [.str z]) fun e he => by rw [List.mem_singleton.mp he]; exact shown_z tz
              exact Nat.le_trans this (by show 1 * (62 + 2) + 3 ≤ 300; decide)
            · refine ⟨rfl, by simp [PyData.depth, PyData.depthAll], ?_, .inl rfl⟩
              have := shown_list_le (n := 62) (ds := [.str z]) fun e he => by rw [List.mem_singleton.mp he]; exact shown_z tz
              exact Nat.le_trans this (by show 1 * (62 + 2) + 2 ≤ 300; decide)
            · refine ⟨by simp [PyData.showable, PyData.showableKv], by simp [PyData.depth, PyData.depthKv], ?_, .inr rfl⟩
              have h1 := shown_z tz
              show (dictText [(PyData.str z).shown ++ ": " ++ (PyData.int 0).shown]).length ≤ 300
              unfold dictText
              rw [strLen_append, strLen_append]
              show 1 + ((PyData.str z).shown ++ ": " ++ (PyData.int 0).shown).length + 1 ≤ 300
              rw [strLen_append, strLen_append]
              have e1 : (Str.ofString ": ").length = 2 := by decide
              have e2 : (PyData.int 0).shown.length = 1 := by decide +kernel
              omega
            · exact ⟨rfl, by decide, by decide, .inl rfl⟩
      · rintro _ Ha ⟨at', c, l, xs, ds, rfl, hl, hlN, hx, hD, hO, ka, hpa, hNa⟩
        have t7 : ∀ k : Nat, k ≤ 7 → Tx 7 (repS (cutS z none (some 1)) k) := fun k hk => by
          have h1 : Tx 1 (cutS z none (some 1)) := ⟨cut_one z, (tz.cut _ _).2⟩
          exact (h1.rep k).mono (by omega)
        have cz : (cutS z none (some 1)).length ≤ 6 := (tz.cut _ _).1
        refine ⟨_, rfl, _, rfl, _, rfl, _, rfl, line (by omega), _, 7, rfl, rfl, by omega, by decide, by omega, _, rfl, _, rfl, _, rfl, line (by omega), _, 6, rfl, rfl, by omega, by decide, by omega, (by show 2 ≤ sizeLine; decide), fun l2 hl2 => ?_⟩
        refine ⟨l, l2, xs, _, rfl, rfl, same_new hl2 _ _ hl, upd_same, (by show xs.length + 2 ≤ sizeLine; exact line (by omega)), fun l3 hl3 => ?_⟩
        have sEnd := (same_new (H := Ha) (o := .lst [.str (repS (cutS z none (some 1)) 7), .str (repS (cutS z none (some 1)) 6)]) hl2).trans (same_new (o := .lst (xs ++ [.str (repS (cutS z none (some 1)) 7), .str (repS (cutS z none (some 1)) 6)])) hl3)
        have hp3 := hpa.same sEnd
        have hl3p : l3 ≠ p := (hpa.same (same_new hl2)).ne hl3
        have hD3 := (hD.same sEnd).append (DxA.cons (.str _ (Nat.le_trans (t7 7 (by decide)).1 (by decide))) (DxA.cons (.str _ (Nat.le_trans (t7 6 (by decide)).1 (by decide))) DxA.nil))
        have hO3 : ∀ d ∈ ds ++ [PyData.str (repS (cutS z none (some 1)) 7), PyData.str (repS (cutS z none (some 1)) 6)], Od d := by
          intro d hd
          rcases List.mem_append.mp hd with hd | hd
          · exact hO d hd
          · simp only [List.mem_cons, List.not_mem_nil, or_false] at hd
            rcases hd with rfl | rfl
            · exact Od.str (t7 7 (by decide)) (by decide)
            · exact Od.str (t7 6 (by decide)) (by decide)
        refine ⟨_, rfl, _, rfl, p, hp3, .inl ⟨l3, _, rfl, hl3p, upd_same, ?_, ?_, fun x H4 hx4 k4 hp4 => ?_⟩⟩
        · rw [List.length_append]
          show 1 ≤ xs.length + 2
          omega
        · rw [List.length_append]
          show xs.length + 2 < 1000000
          omega
        · obtain ⟨i, hi, rfl⟩ := List.getElem_of_mem hx4
          obtain ⟨d, hd1, hd2⟩ := hD3.get (List.getElem?_eq_getElem hi)
          refine q _ d H4 (hd2.keep (lists_same hNa sEnd) (k4.sub fun a ha => ?_)) (hO3 d (List.mem_of_getElem? hd1)) ((ka.trans (Keep.of sEnd)).trans k4) hp4
          rw [List.mem_singleton.mp ha]
          exact hpN
end
end K01

namespace K01
open PySem PySem.Spec PyProof.Rows L2 Gk
abbrev s_law_right : Stmt := topS 15
theorem sc_law_right : FnScope ["_law_item", "_law_as_was", "_law_told", "_law_due"] ["_law_item"] (defScope s_law_right) := ⟨rfl, rfl, rfl, by decide +kernel, rfl, by decide +kernel, by decide +kernel⟩

/-! ### tuples put together, cut -/
section
variable {X : Cx}
theorem opr_imp {g : Value → Value → Sem Value} {r r' : R2} (h : OpR X g r) (i : ∀ x y H Q, r' x y H Q → r x y H Q) : OpR X g r' :=
  fun pins s σ H x y v u Q I rx ry q => h pins s σ H x y v u Q I rx ry (i _ _ _ _ q)
theorem op_catU : OpR X (binaryOp .Add) (fun x y H Q => ∃ a b xs ys, x = .ref a ∧ y = .ref b ∧ H a = some (.tup xs) ∧ H b = some (.tup ys) ∧ xs.length + ys.length ≤ sizeLine ∧
    ∀ u H', Same H H' → H' u = some (.tup (xs ++ ys)) → Q (.ref u) H') :=
  opr_imp op_catA fun x y H Q h => by
    obtain ⟨a, b, xs, ys, e1, e2, ha, hb, hl, q⟩ := h
    refine ⟨a, b, xs, ys, e1, e2, .inl (.inl ha), .inl (.inl hb), hl, fun e => ?_, fun _ e => ?_, fun _ _ p hp => ?_⟩
    · exact q b H (Same.refl H) (by rw [e, List.nil_append]; exact hb)
    · exact q a H (Same.refl H) (by rw [e, List.append_nil]; exact ha)
    · exact q p _ (same_new hp) upd_same
theorem sl_tupU : SlR X (fun x lo hi H Q => ∃ a xs, x = .ref a ∧ H a = some (.tup xs) ∧ ∀ u H', Same H H' → H' u = some (.tup (cutV xs lo hi)) → Q (.ref u) H') := by
  intro pins s σ H x v vl vu lo hi sl Q I rx hs pl pu q
  refine sl_tupA pins s σ H x v vl vu lo hi sl Q I rx hs pl pu ?_
  obtain ⟨a, xs, e, ha, q⟩ := q
  refine ⟨a, xs, e, .inl (.inl ha), fun z => ?_, fun _ p hp => q p _ (same_new hp) upd_same⟩
  refine q a H (Same.refl H) ?_
  have ec : cutV xs lo hi = xs := by
    unfold cutV
    rw [z.1, z.2, List.drop_zero, Nat.sub_zero, List.take_length]
  rw [ec]
  exact ha
end
/-! ### what can be shown -/
theorem all_sh : ∀ {ds : List PyData}, (∀ d ∈ ds, d.showable = true) → PyData.showableAll ds = true
  | [], _ => rfl
  | d :: ds, h => by
    simp only [PyData.showableAll, h d (List.mem_cons_self ..), all_sh fun e he => h e (List.mem_cons_of_mem _ he), Bool.and_self]
theorem all_dp {k : Nat} : ∀ {ds : List PyData}, (∀ d ∈ ds, d.depth ≤ k) → PyData.depthAll ds ≤ k
  | [], _ => by simp only [PyData.depthAll]; omega
  | d :: ds, h => by
    have h1 := h d (List.mem_cons_self ..)
    have h2 := all_dp fun e he => h e (List.mem_cons_of_mem _ he)
    simp only [PyData.depthAll]
    omega
theorem all_nd : ∀ {ds : List PyData}, (∀ d ∈ ds, d.hasDict = false) → PyData.hasDictAll ds = false
  | [], _ => rfl
  | d :: ds, h => by
    simp only [PyData.hasDictAll, h d (List.mem_cons_self ..), all_nd fun e he => h e (List.mem_cons_of_mem _ he), Bool.or_self]
theorem all_ll : ∀ {ds : List PyData}, (∀ d ∈ ds, listless d = true) → listlessA ds = true
  | [], _ => rfl
  | d :: ds, h => by
    simp only [listlessA, h d (List.mem_cons_self ..), all_ll fun e he => h e (List.mem_cons_of_mem _ he), Bool.and_self]
theorem tup_shows {ds : List PyData} {n k m : Nat} (h1 : ∀ d ∈ ds, d.showable = true) (h2 : ∀ d ∈ ds, d.depth ≤ k) (h3 : ∀ d ∈ ds, d.shown.length ≤ n) (hk : k ≤ 20) (hl : ds.length ≤ m) (hm : m * (n + 2) + 3 ≤ 16000000)
    (h4 : (∀ d ∈ ds, d.hasDict = false) ∨ ∀ d ∈ ds, listless d = true) : Shows (.tuple ds) := by
  refine ⟨all_sh h1, ?_, ?_, ?_⟩
  · have := all_dp h2
    simp only [PyData.depth]
    omega
  · have := shown_tuple_le h3
    have := Nat.mul_le_mul_right (n + 2) hl
    omega
  · rcases h4 with h | h
    · exact .inl (all_nd h)
    · exact .inr (all_ll h)
theorem lst_shows {ds : List PyData} {n k m : Nat} (h1 : ∀ d ∈ ds, d.showable = true) (h2 : ∀ d ∈ ds, d.depth ≤ k) (h3 : ∀ d ∈ ds, d.shown.length ≤ n) (hk : k ≤ 20) (hl : ds.length ≤ m) (hm : m * (n + 2) + 3 ≤ 16000000)
    (h4 : ∀ d ∈ ds, d.hasDict = false) : Shows (.list ds) := by
  refine ⟨all_sh h1, ?_, ?_, .inl (all_nd h4)⟩
  · have := all_dp h2
    simp only [PyData.depth]
    omega
  · have := shown_list_le h3
    have := Nat.mul_le_mul_right (n + 2) hl
    omega
theorem bools_show (a b : Bool) : Shows (.list [.bool a, .bool a, .bool b, .bool b]) := by
  refine lst_shows (n := 5) (k := 0) (m := 4) ?_ ?_ ?_ (by decide) (Nat.le_refl 4) (by decide) ?_
  all_goals
    intro d hd
    simp only [List.mem_cons, List.not_mem_nil, or_false] at hd
    rcases hd with rfl | rfl | rfl | rfl
  all_goals (cases a <;> cases b <;> decide)
section
variable {P : Program} {w : World} {K : PySem.W.Frag} {mg : Str → Option Value} {base : Heap} {f : Addr} {fd : FuncData}
def spRight : Sp := fun vs H Q _ => ∃ (N : List Addr) (v : V) (d : PyData), vs = [v] ∧ Dx N H v d ∧ Shows d ∧ ∀ H', Same H H' → Q (.bl true) H'
theorem ok_right (F : FnP K "_law_right" s_law_right f fd) (B : Bi mg) (c_is_row : Cl P w K mg base 2 "is_row" ["thing"] (spRow 400)) (c_is_word : Cl P w K mg base 3 "is_word" ["thing"] (spRow 12))
    (k_is_row : ClK P w K mg base 2 "is_row" ["thing"] (spRow 400) 0 ["thing"] (fun vs zs => vs ++ zs)) (k_is_word : ClK P w K mg base 3 "is_word" ["thing"] (spRow 12) 0 ["thing"] (fun vs zs => vs ++ zs))
    (c_law_is : Cl P w K mg base 1 "_law_is" ["_law_item", "_law_most"] spIs) :
    FnG P w K mg base CX0 4 f fd ["_law_item"] spRight := by
  refine okGD F sc_law_right (fun vs H Q E h => ?_) (fun cdv A outer s H vs Q E hg hr h => ?_)
  · obtain ⟨N, v, d, rfl, _⟩ := h
    rfl
  · obtain ⟨N, v, d, rfl, hd, sh, q⟩ := h
    refine ⟨_, PSs.nox ((pss_cons (ps_set (i := 1) sc_law_right.nd rfl (Or.inl rfl) (pe_callB (call_reprD N hg hr) (by rfl) B.repr (by decide +kernel) (pa_cons (pv 0) pa_nil)))
      (pss_cons (ps_set (i := 2) sc_law_right.nd rfl (Or.inl rfl) (pe_lst (pa_cons (pe_cl c_is_row hr (by decide) (by rfl) (pa_cons (pv 0) pa_nil)) (pa_cons (pe_clK0 k_is_row hr (by decide) (by rfl) (pk_cons (pv 0) pk_nil)) (pa_cons (pe_cl c_is_word hr (by decide) (by rfl) (pa_cons (pv 0) pa_nil)) (pa_cons (pe_clK0 k_is_word hr (by decide) (by rfl) (pk_cons (pv 0) pk_nil)) pa_nil))))))
      (pss_cons (ps_set (i := 3) sc_law_right.nd rfl (Or.inl rfl) (pe_lst (pa_cons (pe_cl c_law_is hr (by decide) (by rfl) (pa_cons (pv 0) (pa_cons pe_int pa_nil))) (pa_cons (pe_cl c_law_is hr (by decide) (by rfl) (pa_cons (pv 0) (pa_cons pe_int pa_nil))) (pa_cons (pe_cl c_law_is hr (by decide) (by rfl) (pa_cons (pv 0) (pa_cons pe_int pa_nil))) (pa_cons (pe_cl c_law_is hr (by decide) (by rfl) (pa_cons (pv 0) (pa_cons pe_int pa_nil))) pa_nil))))))
      (pss_one (ps_ret (pe_and (pe_cmpR op_eq (pe_callB (call_reprD [] hg hr) (by rfl) B.repr (by decide +kernel) (pa_cons (pv 2) pa_nil)) (pe_callB (call_reprD [] hg hr) (by rfl) B.repr (by decide +kernel) (pa_cons (pv 3) pa_nil)) (nomark _)) (pe_one (pe_cmpR op_eq (pe_callB (call_reprD N hg hr) (by rfl) B.repr (by decide +kernel) (pa_cons (pv 0) pa_nil)) (pv 1) (nomark _)))))))))), ?_⟩
    refine ⟨_, rfl, v, d, rfl, hd, sh, ?_⟩
    refine ⟨_, rfl, N, v, d, rfl, hd, fun H1 s1 => ⟨_, rfl, rfl, rfl, N, v, d, rfl, hd.same s1, fun H2 s2 => ?_⟩⟩
    have s02 := s1.trans s2
    refine ⟨_, rfl, N, v, d, rfl, hd.same s02, fun H3 s3 => ⟨_, rfl, rfl, rfl, N, v, d, rfl, hd.same (s02.trans s3), fun H4 s4 => ⟨(by show 4 ≤ sizeLine; decide), fun l hl => ?_⟩⟩⟩
    have s04 := (s02.trans s3).trans s4
    have s05 := s04.trans (same_new (o := .lst [.bl (rowD 400 d), .bl (rowD 400 d), .bl (rowD 12 d), .bl (rowD 12 d)]) hl)
    refine ⟨_, rfl, N, v, d, 400, rfl, hd.same s05, fun H6 s6 => ⟨_, rfl, N, v, d, 400, rfl, hd.same (s05.trans s6), fun H7 s7 => ?_⟩⟩
    have s07 := (s05.trans s6).trans s7
    refine ⟨_, rfl, N, v, d, 12, rfl, hd.same s07, fun H8 s8 => ⟨_, rfl, N, v, d, 12, rfl, hd.same (s07.trans s8), fun H9 s9 => ⟨(by show 4 ≤ sizeLine; decide), fun l2 hl2 => ?_⟩⟩⟩
    have s59 := ((s6.trans s7).trans s8).trans s9
    have n2 := same_new (o := .lst [.bl (rowD 400 d), .bl (rowD 400 d), .bl (rowD 12 d), .bl (rowD 12 d)]) hl2
    have g1 := (s59.trans n2) l _ upd_same
    have da : ∀ H', DxA [] H' [.bl (rowD 400 d), .bl (rowD 400 d), .bl (rowD 12 d), .bl (rowD 12 d)] [.bool (rowD 400 d), .bool (rowD 400 d), .bool (rowD 12 d), .bool (rowD 12 d)] := fun H' => .cons (.bl _) (.cons (.bl _) (.cons (.bl _) (.cons (.bl _) .nil)))
    refine ⟨_, rfl, _, _, rfl, .lst g1 List.not_mem_nil (by show 4 ≤ 100000; decide) (da _), bools_show _ _, _, rfl, _, _, rfl, .lst upd_same List.not_mem_nil (by show 4 ≤ 100000; decide) (da _), bools_show _ _, rfl, _, rfl, ?_⟩
    rw [decide_eq_true rfl]
    have s10 := (s05.trans s59).trans n2
    refine iteT ⟨_, rfl, _, _, rfl, hd.same s10, sh, _, rfl, rfl, ?_⟩
    rw [decide_eq_true rfl]
    exact q _ s10
end
end K01

namespace K01
open PySem PySem.Spec PyProof.Rows L2 Gk
abbrev s_law : Stmt := topS 16
theorem sc_law : FnScope ["_law_script", "_law_k", "_law_pot_here", "_law_size", "_law_names", "_law_row", "_law_items", "_law_turn", "_law_at", "_law_odd_here", "_law_item"] ["_law_script"] (defScope s_law) := ⟨rfl, rfl, rfl, by decide +kernel, rfl, by decide +kernel, by decide +kernel⟩

theorem rng3 (m : Nat) : ∃ j : Nat, (if (if (m : Int) < 3 then (m : Int) else 3) > 1 then (if (m : Int) < 3 then (m : Int) else 3) else (1 : Int)) = (j : Int) ∧ j ≤ 3 := by
  by_cases h : (m : Int) < 3
  · simp only [if_pos h]
    split
    · exact ⟨m, rfl, by omega⟩
    · exact ⟨1, rfl, by decide⟩
  · simp only [if_neg h]
    exact ⟨3, rfl, by decide⟩
/-- behind the drawing of a pot p -/
structure G0 (H0 : Hp) (p : Addr) (H' : Hp) : Prop where
  sm : Same H0 H'
  nw : H0 p = none
  pot : Pot H' p
theorem G0.keep {H0 H1 H2 : Hp} {p : Addr} (g : G0 H0 p H1) (k : Keep [p] H1 H2) (hp : Pot H2 p) : G0 H0 p H2 :=
  ⟨fun b o h => k b o (fun z => by rw [List.mem_singleton.mp z, g.nw] at h; cases h) (g.sm b o h), g.nw, hp⟩
theorem G0.same {H0 H1 H2 : Hp} {p : Addr} (g : G0 H0 p H1) (s : Same H1 H2) : G0 H0 p H2 := ⟨g.sm.trans s, g.nw, g.pot.same s⟩
theorem Keep.at {H H' : Hp} {p l : Addr} {o : HO} (k : Keep [p] H H') (n : l ≠ p) (h : H l = some o) : H' l = some o := k l o (fun z => n (List.mem_singleton.mp z)) h
theorem Od.nm {z : Str} (h : Nm z) : Od (.str z) := Od.str h.tx (by decide)
def row (rs : List Str) : PyData := .tuple (rs.map PyData.str)
theorem nm_len {rs : List Str} (h : ∀ z ∈ rs, Nm z) : ∀ x ∈ rs, x.length ≤ 100000 := fun x hx => by
  have := (h x hx).2.1
  omega
/-! the items -/
theorem str_od {rs : List Str} (h : ∀ z ∈ rs, Nm z) : ∀ d ∈ rs.map PyData.str, d.showable = true ∧ d.depth ≤ 0 ∧ d.shown.length ≤ 62 ∧ d.hasDict = false ∧ listless d = true := fun d hd => by
  obtain ⟨z, hz, rfl⟩ := List.mem_map.mp hd
  exact ⟨rfl, Nat.le_refl 0, shown_z (h z hz).tx, rfl, rfl⟩
theorem row_shows {rs : List Str} (h : ∀ z ∈ rs, Nm z) (l : rs.length ≤ 401) : Shows (row rs) :=
  tup_shows (n := 62) (k := 0) (m := 401) (fun d hd => (str_od h d hd).1) (fun d hd => (str_od h d hd).2.1) (fun d hd => (str_od h d hd).2.2.1) (by decide) (by rw [List.length_map]; exact l) (by decide) (.inl fun d hd => (str_od h d hd).2.2.2.1)
theorem row_list_shows {rs : List Str} (h : ∀ z ∈ rs, Nm z) (l : rs.length ≤ 401) : Shows (.list (rs.map PyData.str)) :=
  lst_shows (n := 62) (k := 0) (m := 401) (fun d hd => (str_od h d hd).1) (fun d hd => (str_od h d hd).2.1) (fun d hd => (str_od h d hd).2.2.1) (by decide) (by rw [List.length_map]; exact l) (by decide) fun d hd => (str_od h d hd).2.2.2.1
theorem row_size {rs : List Str} (h : ∀ z ∈ rs, Nm z) (l : rs.length ≤ 401) : (row rs).shown.length ≤ 26000 := by
  have h1 := shown_tuple_le (n := 62) (ds := rs.map PyData.str) fun d hd => (str_od h d hd).2.2.1
  rw [List.length_map] at h1
  show (PyData.tuple (rs.map PyData.str)).shown.length ≤ 26000
  omega
theorem row_depth {rs : List Str} (h : ∀ z ∈ rs, Nm z) : (row rs).depth ≤ 1 := by
  have := all_dp (k := 0) fun d hd => (str_od h d hd).2.1
  show (PyData.tuple (rs.map PyData.str)).depth ≤ 1
  simp only [PyData.depth]
  omega
/-- a row with one thing more -/
theorem more_shows {rs us : List Str} {o : PyData} (h : ∀ z ∈ rs, Nm z) (k : ∀ z ∈ us, Nm z) (l : rs.length + us.length ≤ 402) (h1 : o.showable = true) (h2 : o.depth ≤ 2) (h3 : o.shown.length ≤ 26000) (h4 : o.hasDict = false ∨ listless o = true) :
    Shows (.tuple (rs.map PyData.str ++ [o] ++ us.map PyData.str)) := by
  have all : ∀ d ∈ rs.map PyData.str ++ [o] ++ us.map PyData.str, d = o ∨ (d.showable = true ∧ d.depth ≤ 0 ∧ d.shown.length ≤ 62 ∧ d.hasDict = false ∧ listless d = true) := fun d hd => by
    rcases List.mem_append.mp hd with hd | hd
    · rcases List.mem_append.mp hd with hd | hd
      · exact .inr (str_od h d hd)
      · exact .inl (List.mem_singleton.mp hd)
    · exact .inr (str_od k d hd)
  refine tup_shows (n := 26000) (k := 2) (m := 403) (fun d hd => ?_) (fun d hd => ?_) (fun d hd => ?_) (by decide) ?_ (by decide) ?_
  · rcases all d hd with rfl | z
    · exact h1
    · exact z.1
  · rcases all d hd with rfl | z
    · exact h2
    · exact Nat.le_trans z.2.1 (by decide)
  · rcases all d hd with rfl | z
    · exact h3
    · exact Nat.le_trans z.2.2.1 (by decide)
  · rw [List.length_append, List.length_append, List.length_map, List.length_map]
    show rs.length + 1 + us.length ≤ 403
    omega
  · rcases h4 with h4 | h4
    · refine .inl fun d hd => ?_
      rcases all d hd with rfl | z
      · exact h4
      · exact z.2.2.2.1
    · refine .inr fun d hd => ?_
      rcases all d hd with rfl | z
      · exact h4
      · exact z.2.2.2.2
theorem odd_shows {rs us : List Str} {o : PyData} (h : ∀ z ∈ rs, Nm z) (k : ∀ z ∈ us, Nm z) (l : rs.length + us.length ≤ 802) (od : Od o) :
    Shows (.tuple (rs.map PyData.str ++ [o] ++ us.map PyData.str)) := by
  have all : ∀ d ∈ rs.map PyData.str ++ [o] ++ us.map PyData.str, d = o ∨ (d.showable = true ∧ d.depth ≤ 0 ∧ d.shown.length ≤ 62 ∧ d.hasDict = false ∧ listless d = true) := fun d hd => by
    rcases List.mem_append.mp hd with hd | hd
    · rcases List.mem_append.mp hd with hd | hd
      · exact .inr (str_od h d hd)
      · exact .inl (List.mem_singleton.mp hd)
    · exact .inr (str_od k d hd)
  refine tup_shows (n := 300) (k := 2) (m := 803) (fun d hd => ?_) (fun d hd => ?_) (fun d hd => ?_) (by decide) ?_ (by decide) ?_
  · rcases all d hd with rfl | z
    · exact od.ok
    · exact z.1
  · rcases all d hd with rfl | z
    · exact od.deep
    · exact Nat.le_trans z.2.1 (by decide)
  · rcases all d hd with rfl | z
    · exact od.size
    · exact Nat.le_trans z.2.2.1 (by decide)
  · rw [List.length_append, List.length_append, List.length_map, List.length_map]
    show rs.length + 1 + us.length ≤ 803
    omega
  · rcases od.clean with h4 | h4
    · refine .inl fun d hd => ?_
      rcases all d hd with rfl | z
      · exact h4
      · exact z.2.2.2.1
    · refine .inr fun d hd => ?_
      rcases all d hd with rfl | z
      · exact h4
      · exact z.2.2.2.2
theorem cut_map (rs : List Str) (lo hi : Option Int) : ∃ us : List Str, cutV (rs.map V.str) lo hi = us.map V.str ∧ us.length ≤ rs.length ∧ ∀ z ∈ us, z ∈ rs := by
  unfold cutV
  rw [List.length_map, ← List.map_drop, ← List.map_take]
  refine ⟨_, rfl, ?_, fun z hz => List.mem_of_mem_drop (List.mem_of_mem_take hz)⟩
  rw [List.length_take, List.length_drop]
  omega
theorem join_tx {rs : List Str} (h : ∀ z ∈ rs, Nm z) : Tx (6 * rs.length) (Txt.join "" rs) := by
  rw [TL.join_eq]
  induction rs with
  | nil => exact ⟨Nat.le_refl 0, fun c hc => (List.not_mem_nil hc).elim⟩
  | cons y r ih =>
    have ih := ih fun z hz => h z (List.mem_cons_of_mem _ hz)
    have hy := (h y (List.mem_cons_self ..)).tx
    cases r with
    | nil => exact hy
    | cons z r =>
      have e : Str.join "" (y :: z :: r) = (y ++ "" ++ Str.join "" (z :: r) : Str) := rfl
      rw [e]
      have h0 : Tx 0 ("" : Str) := ⟨Nat.le_refl 0, fun c hc => (List.not_mem_nil hc).elim⟩
      refine ((hy.cat h0).cat ih).mono ?_
      rw [List.length_cons (a := y)]
      omega
theorem sum_nm {rs : List Str} (h : ∀ z ∈ rs, Nm z) : (rs.map (·.length)).sum ≤ 6 * rs.length := by
  induction rs with
  | nil => exact Nat.le_refl 0
  | cons y r ih =>
    have ih := ih fun z hz => h z (List.mem_cons_of_mem _ hz)
    have := (h y (List.mem_cons_self ..)).2.1
    rw [List.map_cons, List.sum_cons, List.length_cons]
    omega
section
variable {P : Program} {w : World} {K : PySem.W.Frag} {mg : Str → Option Value} {base : Heap} {f : Addr} {fd : FuncData}
abbrev tail (a : Addr) (p : Addr) (y1 y3 y4 y5 y6 y7 y8 y9 y10 : Option V) : L2.St := [some (.ref a), y1, some (.ref p), y3, y4, y5, y6, y7, y8, y9, y10]
def M1 (H0 : Hp) (a p : Addr) : L2.St → Hp → Prop := fun σ H' => G0 H0 p H' ∧ ∃ (n : Nat) (y1 y4 y5 y6 y7 y8 y9 y10 : Option V), n ≤ 401 ∧ σ = tail a p y1 (some (.int (n : Int))) y4 y5 y6 y7 y8 y9 y10
/-- the names -/
structure Ns (H' : Hp) (p D : Addr) (zs : List Str) : Prop where
  at_ : H' D = some (.lst (zs.map V.str))
  ne : D ≠ p
  len : zs.length = 4
  nm : ∀ z ∈ zs, Nm z
theorem Ns.keep {H H' : Hp} {p D : Addr} {zs : List Str} (h : Ns H p D zs) (k : Keep [p] H H') : Ns H' p D zs := ⟨Keep.at k h.ne h.at_, h.ne, h.len, h.nm⟩
theorem Ns.same {H H' : Hp} {p D : Addr} {zs : List Str} (h : Ns H p D zs) (s : Same H H') : Ns H' p D zs := ⟨s _ _ h.at_, h.ne, h.len, h.nm⟩
def M2 (H0 : Hp) (a p : Addr) : L2.St → Hp → Prop := fun σ H' => G0 H0 p H' ∧ ∃ (n : Nat) (D : Addr) (zs : List Str) (y1 y5 y6 y7 y8 y9 y10 : Option V), n ≤ 401 ∧ Ns H' p D zs ∧
  σ = tail a p y1 (some (.int (n : Int))) (some (.ref D)) y5 y6 y7 y8 y9 y10
/-- the row -/
structure Rw (H' : Hp) (t : Addr) (rs : List Str) (n : Nat) : Prop where
  at_ : H' t = some (.tup (rs.map V.str))
  len : rs.length = n
  nm : ∀ z ∈ rs, Nm z
theorem Rw.same {H H' : Hp} {t : Addr} {rs : List Str} {n : Nat} (h : Rw H t rs n) (s : Same H H') : Rw H' t rs n := ⟨s _ _ h.at_, h.len, h.nm⟩
theorem Rw.keep {H H' : Hp} {t p : Addr} {rs : List Str} {n : Nat} (h : Rw H t rs n) (hp : Pot H p) (k : Keep [p] H H') : Rw H' t rs n :=
  ⟨Keep.at k (fun e => by obtain ⟨g, r, z, _⟩ := hp; rw [← e, h.at_] at z; cases z) h.at_, h.len, h.nm⟩
def M3 (H0 : Hp) (a p : Addr) : L2.St → Hp → Prop := fun σ H' => G0 H0 p H' ∧ ∃ (n : Nat) (D t : Addr) (zs rs : List Str) (y1 y6 y7 y8 y9 y10 : Option V), n ≤ 401 ∧ Ns H' p D zs ∧ Rw H' t rs n ∧
  σ = tail a p y1 (some (.int (n : Int))) (some (.ref D)) (some (.ref t)) y6 y7 y8 y9 y10
/-- the items: of at most m -/
structure It (N : List Addr) (H' : Hp) (L : Addr) (its : List V) (ds : List PyData) (m : Nat) : Prop where
  at_ : H' L = some (.lst its)
  len : its.length ≤ m
  da : DxA N H' its ds
  sh : ∀ d ∈ ds, Shows d
def M4 (Nf : Addr → List Addr) (m : Nat) (H0 : Hp) (a p : Addr) : L2.St → Hp → Prop := fun σ H' => G0 H0 p H' ∧ ∃ (n : Nat) (D t L : Addr) (zs rs : List Str) (its : List V) (ds : List PyData) (y1 y7 y8 y9 y10 : Option V), n ≤ 401 ∧ Ns H' p D zs ∧ Rw H' t rs n ∧
  It (Nf L) H' L its ds m ∧ L ≠ p ∧ L ≠ D ∧ H0 L = none ∧ σ = tail a p y1 (some (.int (n : Int))) (some (.ref D)) (some (.ref t)) (some (.ref L)) y7 y8 y9 y10
def M5 (H0 : Hp) (a p : Addr) : L2.St → Hp → Prop := fun σ H' => G0 H0 p H' ∧ ∃ (L : Addr) (its : List V) (ds : List PyData) (y1 y3 y4 y5 y7 y8 y9 y10 : Option V),
  It [L, p] H' L its ds 26 ∧ σ = tail a p y1 y3 y4 y5 (some (.ref L)) y7 y8 y9 y10

def spLaw (K : PySem.W.Frag) : Sp := fun vs H Q _ => ∃ (a : Addr) (ns : List Int), vs = [.ref a] ∧ SqL K H a (ns.map V.int) ∧ ns.length ≤ 63 ∧ ∀ H', Q (.bl true) H'
theorem ok_law (F : FnP K "law" s_law f fd) (B : Bi mg) (c_law_pot : Cl P w K mg base 1 "_law_pot" ["_law_script", "_law_k"] (spPot K)) (c_law_of : Cl P w K mg base 2 "_law_of" ["_law_pot_here", "_law_some"] (spOf K))
    (c_law_take : Cl P w K mg base 1 "_law_take" ["_law_pot_here", "_law_upto"] spTake) (c_law_drawn_name : Cl P w K mg base 3 "_law_drawn_name" ["_law_pot_here"] spDrawn)
    (c_law_odd : Cl P w K mg base 3 "_law_odd" ["_law_pot_here", "_law_name"] spOdd) (c_law_right : ClG P w K mg base 4 "_law_right" ["_law_item"] spRight) :
    FnG P w K mg base CX0 5 f fd ["_law_script"] (spLaw K) := by
  refine okGD F sc_law (fun vs H Q E h => ?_) (fun cdv A outer s H vs Q E hg hr h => ?_)
  · obtain ⟨a, ns, rfl, _⟩ := h
    rfl
  · obtain ⟨a, ns, rfl, hS, hl, q⟩ := h
    refine ⟨_, PSs.nox ((pss_cons (ps_for PassesOwn.never rfl (pi_range1 (by rfl) B.range (pa_cons (pe_callB (call_max2 rfl) (by rfl) B.max (by decide +kernel) (pa_cons pe_int (pa_cons (pe_callB (call_min2 rfl) (by rfl) B.min (by decide +kernel) (pa_cons pe_int (pa_cons (pe_callB call_len_seq (by rfl) B.len (by decide +kernel) (pa_cons (pv 0) pa_nil)) pa_nil))) pa_nil))) pa_nil)) (pg_name (i := 1) sc_law.nd rfl (Or.inl rfl)) (pss_cons (ps_set (i := 2) sc_law.nd rfl (Or.inr rfl) (pe_cl c_law_pot hr (by decide) (by rfl) (pa_cons (pv 0) (pa_cons (pv 1) pa_nil))))
      (C8.pss_cut (ps_set (i := 3) sc_law.nd rfl (Or.inl rfl) (pe_cl c_law_of hr (by decide) (by rfl) (pa_cons (pv 2) (pa_cons (pe_lst (pa_cons pe_int (pa_cons pe_int (pa_cons pe_int (pa_cons pe_int (pa_cons pe_int (pa_cons pe_int (pa_cons pe_int (pa_cons pe_int (pa_cons pe_int (pa_cons (pe_cl c_law_take hr (by decide) (by rfl) (pa_cons (pv 2) (pa_cons pe_int pa_nil))) pa_nil))))))))))) pa_nil))))
      (C8.pss_cut (ps_set (i := 4) sc_law.nd rfl (Or.inr rfl) (pe_lc (own := [("_law_k", 1)]) (g := gName 1) (tt := tYes) rfl sc_law.nd (pi_range1 (by rfl) B.range (pa_cons pe_int pa_nil)) (blkOk_by (own := [("_law_k", 1)]) (N := ["_law_script", "_law_k", "_law_pot_here", "_law_size", "_law_names", "_law_row", "_law_items", "_law_turn", "_law_at", "_law_odd_here", "_law_item"]) (sc := defScope s_law) (by decide +kernel)) (fun _ _ _ _ _ => (pg_name (i := 1) sc_law.nd rfl (Or.inl rfl))) (fun _ _ _ _ _ => pts_nil) (fun _ _ _ _ _ => (pe_cl c_law_drawn_name hr (by decide) (by rfl) (pa_cons (pv 2) pa_nil)))))
      (C8.pss_cut (ps_set (i := 5) sc_law.nd rfl (Or.inl rfl) (pe_callTy call_tuple_of (by rfl) B.tuple (by decide +kernel) (pa_cons (pe_lc (own := [("_law_k", 1)]) (g := gName 1) (tt := tYes) rfl sc_law.nd (pi_range1 (by rfl) B.range (pa_cons (pv 3) pa_nil)) (blkOk_by (own := [("_law_k", 1)]) (N := ["_law_script", "_law_k", "_law_pot_here", "_law_size", "_law_names", "_law_row", "_law_items", "_law_turn", "_law_at", "_law_odd_here", "_law_item"]) (sc := defScope s_law) (by decide +kernel)) (fun _ _ _ _ _ => (pg_name (i := 1) sc_law.nd rfl (Or.inl rfl))) (fun _ _ _ _ _ => pts_nil) (fun _ _ _ _ _ => (pe_cl c_law_of hr (by decide) (by rfl) (pa_cons (pv 2) (pa_cons (pv 4) pa_nil))))) pa_nil)))
      (C8.pss_cut (ps_set (i := 6) sc_law.nd rfl (Or.inl rfl) (pe_lst (pa_cons (pv 5) (pa_cons (pe_callTy call_list_of (by rfl) B.list (by decide +kernel) (pa_cons (pv 5) pa_nil)) (pa_cons (pe_tup (pa_cons (pv 5) pa_nil)) (pa_cons (pe_op op_catU (pv 5) (pe_tup (pa_cons (pv 5) pa_nil))) (pa_cons (pe_op op_catU (pv 5) (pe_tup (pa_cons pe_non pa_nil))) (pa_cons (pe_join pe_str (pv 5)) (pa_cons pe_non (pa_cons pe_int (pa_cons pe_bl pa_nil)))))))))))
      (C8.pss_cut (ps_set (i := 6) sc_law.nd rfl (Or.inl rfl) (pe_op op_cat (pv 6) (pe_lst (pa_cons pe_dnewK (pa_cons (pe_tup pa_nil) (pa_cons (pe_lst pa_nil) (pa_cons pe_str (pa_cons (pe_tup (pa_cons (pe_tup pa_nil) pa_nil)) pa_nil))))))))
      (C8.pss_cut (ps_for PassesOwn.never rfl (pi_range1 (by rfl) B.range (pa_cons pe_int pa_nil)) (pg_name (i := 7) sc_law.nd rfl (Or.inl rfl)) (pss_cons (ps_set (i := 8) sc_law.nd rfl (Or.inl rfl) (pe_cl c_law_take hr (by decide) (by rfl) (pa_cons (pv 2) (pa_cons (pe_op op_add (pv 3) pe_int) pa_nil))))
      (pss_cons (ps_set (i := 9) sc_law.nd rfl (Or.inl rfl) (pe_cl c_law_odd hr (by decide) (by rfl) (pa_cons (pv 2) (pa_cons (pe_cl c_law_of hr (by decide) (by rfl) (pa_cons (pv 2) (pa_cons (pv 4) pa_nil))) pa_nil))))
      (pss_one (ps_expr (pe_bm PySem.F.plainAttrs_list PySem.F.slot_list_extend PySem.F.type_list_extend mt_extend (pv 6) (pa_cons (pe_lst (pa_cons (pe_op op_catU (pe_op op_catU (pe_slice sl_tupU (pv 5) po_none (po_some (pv 8))) (pe_tup (pa_cons (pv 9) pa_nil))) (pe_slice sl_tupU (pv 5) (po_some (pe_op op_add (pv 8) pe_int)) po_none)) (pa_cons (pe_op op_catU (pe_op op_catU (pe_slice sl_tupU (pv 5) po_none (po_some (pv 8))) (pe_tup (pa_cons (pv 9) pa_nil))) (pe_slice sl_tupU (pv 5) (po_some (pv 8)) po_none)) pa_nil))) pa_nil)))))))
      (pss_one (ps_if (pt_not (pt_val (pe_callB (cr_all rfl) (by rfl) B.all (by decide +kernel) (pa_cons (pe_lc (own := [("_law_item", 10)]) (g := gName 10) (tt := tYes) rfl sc_law.nd (pi_list (pv 6)) (blkOk_by (own := [("_law_item", 10)]) (N := ["_law_script", "_law_k", "_law_pot_here", "_law_size", "_law_names", "_law_row", "_law_items", "_law_turn", "_law_at", "_law_odd_here", "_law_item"]) (sc := defScope s_law) (by decide +kernel)) (fun _ _ _ _ _ => (pg_name (i := 10) sc_law.nd rfl (Or.inl rfl))) (fun _ _ _ _ _ => pts_nil) (fun _ _ _ _ _ => (pe_clG c_law_right hg hr (by decide) (by rfl) (pa_cons (pv 10) pa_nil)))) pa_nil)))) (pss_one (ps_ret pe_bl)) pss_nil))))))))))
      (pss_one (ps_ret pe_bl)))), ?_⟩
    refine ⟨_, rfl, _, _, rfl, .inl hS, _, _, rfl, _, _, rfl, ?_⟩
    obtain ⟨j, ej, j3⟩ := rng3 (ns.map V.int).length
    refine ⟨_, congrArg (fun z => [V.int z]) ej, by omega, by omega, for_range (lo := 0) (n := j) (fun i σ H' => Same H H' ∧ ∃ y1 y2 y3 y4 y5 y6 y7 y8 y9 y10 : Option V, σ = [some (.ref a), y1, y2, y3, y4, y5, y6, y7, y8, y9, y10]) ?_ ?_ ?_⟩
    · exact ⟨Same.refl H, none, none, none, none, none, none, none, none, none, none, rfl⟩
    · rintro i σ H1 hi ⟨s1, y1, y2, y3, y4, y5, y6, y7, y8, y9, y10, rfl⟩
      rw [show ((0 : Int) + (i : Int)) = (i : Int) from Int.zero_add _]
      -- the pot
      refine ⟨_, rfl, _, rfl, a, ns, i, rfl, s1.seq hS, hl, by omega, fun p H2 np s2 hp2 => ?_⟩
      have g2 : G0 H p H2 := ⟨s1.trans s2, s1.free np, hp2⟩
      refine ⟨M1 H a p, ?_, ?_⟩
      · -- the size
        refine ⟨_, rfl, _, rfl, p, 30, rfl, hp2, by decide, by decide, fun d H3 hd k3 hp3 => ⟨(by show 10 ≤ sizeLine; decide), fun l hl' => ?_⟩⟩
        have s34 := same_new (o := .lst [.int 0, .int 1, .int 2, .int 11, .int 12, .int 13, .int 399, .int 400, .int 401, .int (d : Int)]) hl'
        refine ⟨p, hp3.same s34, .inl ⟨l, _, rfl, hp3.ne hl', upd_same, (by show 1 ≤ 10; decide), (by show 10 < 1000000; decide), fun x H5 hx k5 hp5 => ?_⟩⟩
        obtain ⟨n, rfl, hn⟩ : ∃ n : Nat, x = .int (n : Int) ∧ n ≤ 401 := by
          simp only [List.mem_cons, List.not_mem_nil, or_false] at hx
          rcases hx with rfl | rfl | rfl | rfl | rfl | rfl | rfl | rfl | rfl | rfl
          · exact ⟨0, rfl, by decide⟩
          · exact ⟨1, rfl, by decide⟩
          · exact ⟨2, rfl, by decide⟩
          · exact ⟨11, rfl, by decide⟩
          · exact ⟨12, rfl, by decide⟩
          · exact ⟨13, rfl, by decide⟩
          · exact ⟨399, rfl, by decide⟩
          · exact ⟨400, rfl, by decide⟩
          · exact ⟨401, rfl, by decide⟩
          · exact ⟨d, rfl, by omega⟩
        exact ⟨((g2.keep k3 hp3).same s34).keep k5 hp5, n, _, _, _, _, _, _, _, _, hn, rfl⟩
      · rintro _ Ha ⟨ga, n, z1, z4, z5, z6, z7, z8, z9, z10, hn, rfl⟩
        refine ⟨M2 H a p, ?_, ?_⟩
        · -- the names
          refine ⟨4, rfl, by decide, by decide, fun D hD => lc_range (lo := 0) (n := 4) (fun i H' => G0 H p H' ∧ ∃ zs : List Str, zs.length = i ∧ (∀ z ∈ zs, Nm z) ∧ H' D = some (.lst (zs.map V.str))) ?_ ?_ ?_⟩
          · exact ⟨ga.same (same_new hD), [], rfl, fun y hy => (List.not_mem_nil hy).elim, upd_same⟩
          · rintro i H3 hi ⟨g3, zs, el, hz, e3⟩
            refine ⟨rfl, _, rfl, p, rfl, g3.pot, fun z H4 nz k4 hp4 => ?_⟩
            have hDp : D ≠ p := ga.pot.ne hD
            have e4 := Keep.at k4 hDp e3
            have g4 := g3.keep k4 hp4
            refine ⟨_, e4, ?_, ⟨same_in g4.sm (ga.sm.free hD), g4.nw, ?_⟩, zs ++ [z], ?_, ?_, ?_⟩
            · rw [List.length_map, el]
              exact len_line (by omega)
            · obtain ⟨g, r, e, b⟩ := g4.pot
              exact ⟨g, r, by rw [upd_ne hDp.symm]; exact e, b⟩
            · rw [List.length_append, el]
              rfl
            · intro y hy
              rcases List.mem_append.mp hy with h | h
              · exact hz y h
              · rw [List.mem_singleton.mp h]
                exact nz
            · rw [upd_same, List.map_append]
              rfl
          · rintro H3 ⟨g3, zs, el, hz, e3⟩
            exact ⟨g3, n, D, zs, _, _, _, _, _, _, _, hn, ⟨e3, ga.pot.ne hD, el, hz⟩, rfl⟩
        · rintro _ Hb ⟨gb, n, D, zs, z1, z5, z6, z7, z8, z9, z10, hn, hNs, rfl⟩
          refine ⟨M3 H a p, ?_, ?_⟩
          · -- the row
            refine ⟨_, rfl, _, rfl, by omega, by omega, fun R hR => lc_range (lo := 0) (n := n) (fun i H' => G0 H p H' ∧ Ns H' p D zs ∧ ∃ rs : List Str, rs.length = i ∧ (∀ z ∈ rs, Nm z) ∧ H' R = some (.lst (rs.map V.str))) ?_ ?_ ?_⟩
            · exact ⟨gb.same (same_new hR), hNs.same (same_new hR), [], rfl, fun y hy => (List.not_mem_nil hy).elim, upd_same⟩
            · rintro i H3 hi ⟨g3, n3, rs, el, hz, e3⟩
              refine ⟨rfl, _, rfl, _, rfl, p, g3.pot, .inl ⟨D, _, rfl, n3.ne, n3.at_, by rw [List.length_map, n3.len]; decide, by rw [List.length_map, n3.len]; decide, fun x H4 hx k4 hp4 => ?_⟩⟩
              obtain ⟨z, hzm, rfl⟩ := List.mem_map.mp hx
              have hRp : R ≠ p := gb.pot.ne hR
              have hRD : D ≠ R := fun e => by
                have := hNs.at_
                rw [e, hR] at this
                cases this
              have e4 := Keep.at k4 hRp e3
              have g4 := g3.keep k4 hp4
              refine ⟨_, e4, ?_, ⟨same_in g4.sm (gb.sm.free hR), g4.nw, ?_⟩, ⟨by rw [upd_ne hRD]; exact (n3.keep k4).at_, n3.ne, n3.len, n3.nm⟩, rs ++ [z], ?_, ?_, ?_⟩
              · rw [List.length_map, el]
                exact len_line (by omega)
              · obtain ⟨g, r, e, b⟩ := g4.pot
                exact ⟨g, r, by rw [upd_ne hRp.symm]; exact e, b⟩
              · rw [List.length_append, el]
                rfl
              · intro y hy
                rcases List.mem_append.mp hy with h | h
                · exact hz y h
                · rw [List.mem_singleton.mp h]
                  exact n3.nm z hzm
              · rw [upd_same, List.map_append]
                rfl
            · rintro H3 ⟨g3, n3, rs, el, hz, e3⟩
              refine ⟨R, _, rfl, .inl ⟨.inl (.inl e3), fun t ht => ?_⟩⟩
              exact ⟨g3.same (same_new ht), n, D, t, zs, rs, _, _, _, _, _, _, hn, n3.same (same_new ht), ⟨upd_same, el, hz⟩, rfl⟩
          · rintro _ Hc ⟨gc, n, D, t, zs, rs, z1, z6, z7, z8, z9, z10, hn, hNs, hRw, rfl⟩
            have hl4 : rs.length ≤ 401 := by rw [hRw.len]; exact hn
            have da : ∀ H', DxA [p] H' (rs.map V.str) (rs.map PyData.str) := fun H' => DxA.strs rs (nm_len hRw.nm)
            have lm : (rs.map V.str).length ≤ 401 := by rw [List.length_map]; exact hl4
            refine ⟨M4 (fun _ => [p]) 9 H a p, ?_, ?_⟩
            · -- the first nine
              refine ⟨_, rfl, _, rfl, _, _, rfl, .inr (.inl (.inl hRw.at_)), fun l1 hl1 => ?_⟩
              have s1 := same_new (o := .lst (rs.map V.str)) hl1
              refine ⟨_, rfl, (by show 1 ≤ sizeLine; decide), fun t1 ht1 => ?_⟩
              have s2 := same_new (o := .tup [.ref t]) ht1
              have s12 := s1.trans s2
              refine ⟨_, rfl, _, rfl, (by show 1 ≤ sizeLine; decide), fun t2 ht2 => ?_⟩
              have s3 := same_new (o := .tup [.ref t]) ht2
              have s13 := s12.trans s3
              refine ⟨t, t2, rs.map V.str, [.ref t], rfl, rfl, s13 _ _ hRw.at_, upd_same, line (by show _ + 1 ≤ _; omega), fun u1 H4 s4 hu1 => ?_⟩
              have s14 := s13.trans s4
              refine ⟨_, rfl, (by show 1 ≤ sizeLine; decide), fun t3 ht3 => ?_⟩
              have s5 := same_new (o := .tup [.non]) ht3
              have s15 := s14.trans s5
              refine ⟨t, t3, rs.map V.str, [.non], rfl, rfl, s15 _ _ hRw.at_, upd_same, line (by show _ + 1 ≤ _; omega), fun u2 H6 s6 hu2 => ?_⟩
              have s16 := s15.trans s6
              refine ⟨⟨_, rfl⟩, _, rfl, _, _, rs, rfl, rfl, .inr (.inl (.inl (s16 _ _ hRw.at_))), ?_, (by show 9 ≤ sizeLine; decide), fun L hL => ?_⟩
              · have := sum_nm hRw.nm
                have e0 : ("" : Str).length = 0 := rfl
                rw [e0]
                omega
              have s7 := same_new (o := .lst [.ref t, .ref l1, .ref t1, .ref u1, .ref u2, .str (Txt.join "" rs), .non, .int 0, .bl true]) hL
              have s17 := s16.trans s7
              have gt : upd H6 L (.lst [.ref t, .ref l1, .ref t1, .ref u1, .ref u2, .str (Txt.join "" rs), .non, .int 0, .bl true]) t = some (.tup (rs.map V.str)) := s17 _ _ hRw.at_
              have gl1 := (((((s2.trans s3).trans s4).trans s5).trans s6).trans s7) l1 _ upd_same
              have gt1 := ((((s3.trans s4).trans s5).trans s6).trans s7) t1 _ upd_same
              have gu1 := ((s5.trans s6).trans s7) u1 _ hu1
              have gu2 := s7 u2 _ hu2
              have n1 : l1 ∉ [p] := fun z => gc.pot.ne hl1 (List.mem_singleton.mp z)
              have dr : Dx [p] _ (.ref t) (row rs) := Dx.tup gt (by omega) (da _)
              have jt := join_tx hRw.nm
              have jl : (Txt.join "" rs).length ≤ 2406 := by have := jt.1; omega
              refine ⟨gc.same s17, n, D, t, L, zs, rs, _, [row rs, .list (rs.map PyData.str), .tuple [row rs], .tuple (rs.map PyData.str ++ [row rs]), .tuple (rs.map PyData.str ++ [.none]), .str (Txt.join "" rs), .none, .int 0, .bool true], _, _, _, _, _, hn, hNs.same s17, hRw.same s17, ⟨upd_same, (by show 9 ≤ 9; decide), ?_, ?_⟩, (gc.pot.same s16).ne hL, fun e => ?_, (gc.same s16).sm.free hL, rfl⟩
              · refine .cons dr (.cons (.lst gl1 n1 (by omega) (da _)) (.cons (.tup gt1 (by show 1 ≤ 100000; decide) (.cons dr .nil)) (.cons (.tup gu1 ?_ ((da _).append (.cons dr .nil))) (.cons (.tup gu2 ?_ ((da _).append (.cons .non .nil))) (.cons (.str _ (by omega)) (.cons .non (.cons (.int 0) (.cons (.bl true) .nil))))))))
                · rw [List.length_append]
                  show _ + 1 ≤ 100000
                  omega
                · rw [List.length_append]
                  show _ + 1 ≤ 100000
                  omega
              · intro d hd
                simp only [List.mem_cons, List.not_mem_nil, or_false] at hd
                have rsz := row_size hRw.nm hl4
                have rdp := row_depth hRw.nm
                have rsh := row_shows hRw.nm hl4
                rcases hd with rfl | rfl | rfl | rfl | rfl | rfl | rfl | rfl | rfl
                · exact rsh
                · exact row_list_shows hRw.nm hl4
                · exact more_shows (rs := []) (us := []) (fun _ h => (List.not_mem_nil h).elim) (fun _ h => (List.not_mem_nil h).elim) (by decide) rsh.ok (by omega) rsz (.inl (all_nd fun d hd => (str_od hRw.nm d hd).2.2.2.1))
                · have := more_shows (us := []) (o := row rs) hRw.nm (fun _ h => (List.not_mem_nil h).elim) (by show _ + 0 ≤ _; omega) rsh.ok (by omega) rsz (.inl (all_nd fun d hd => (str_od hRw.nm d hd).2.2.2.1))
                  rw [List.map_nil, List.append_nil] at this
                  exact this
                · have := more_shows (us := []) (o := .none) hRw.nm (fun _ h => (List.not_mem_nil h).elim) (by show _ + 0 ≤ _; omega) rfl (by decide) (by decide) (.inl rfl)
                  rw [List.map_nil, List.append_nil] at this
                  exact this
                · refine ⟨rfl, (by show 0 ≤ 30; decide), ?_, .inl rfl⟩
                  have := StrLaws.reprText_len (Txt.join "" rs) fun c hc => Nat.lt_of_lt_of_le (jt.2 c hc) (by decide)
                  show (reprText (Txt.join "" rs)).length ≤ _
                  omega
                · exact ⟨rfl, by decide, by decide, .inl rfl⟩
                · exact ⟨by decide, by decide, by decide, .inl rfl⟩
                · exact ⟨rfl, by decide, by decide, .inl rfl⟩
              · have := (hNs.same s16).at_
                rw [← e, hL] at this
                cases this
            · rintro _ Hd ⟨gd, n, D, t, L, zs, rs, its, ds, z1, z7, z8, z9, z10, hn, hNs, hRw, hIt, nLp, nLD, nLH, rfl⟩
              have hl4 : rs.length ≤ 401 := by rw [hRw.len]; exact hn
              refine ⟨M4 (fun L => [L, p]) 14 H a p, ?_, ?_⟩
              · -- five more
                refine ⟨_, rfl, fun d1 hd1 => ?_⟩
                have s1 := same_new (o := .dK []) hd1
                refine ⟨Nat.zero_le _, fun t1 ht1 => ?_⟩
                have s2 := same_new (o := .tup []) ht1
                refine ⟨Nat.zero_le _, fun l1 hl1 => ?_⟩
                have s3 := same_new (o := .lst []) hl1
                refine ⟨Nat.zero_le _, fun t2 ht2 => ?_⟩
                have s4 := same_new (o := .tup []) ht2
                refine ⟨(by show 1 ≤ sizeLine; decide), fun t3 ht3 => ?_⟩
                have s5 := same_new (o := .tup [.ref t2]) ht3
                refine ⟨(by show 5 ≤ sizeLine; decide), fun l2 hl2 => ?_⟩
                have s6 := same_new (o := .lst [.ref d1, .ref t1, .ref l1, .str "a", .ref t3]) hl2
                have s13 := (s1.trans s2).trans s3
                have s16 := ((s13.trans s4).trans s5).trans s6
                have hi := hIt.len
                refine ⟨L, l2, its, _, rfl, rfl, s16 _ _ hIt.at_, upd_same, line (by show _ + 5 ≤ _; omega), fun L2 hL2 => ?_⟩
                have s7 := same_new (o := .lst (its ++ [.ref d1, .ref t1, .ref l1, .str "a", .ref t3])) hL2
                have s17 := s16.trans s7
                have gd1 := (((((s2.trans s3).trans s4).trans s5).trans s6).trans s7) d1 _ upd_same
                have gt1 := ((((s3.trans s4).trans s5).trans s6).trans s7) t1 _ upd_same
                have gl1 := (((s4.trans s5).trans s6).trans s7) l1 _ upd_same
                have gt2 := ((s5.trans s6).trans s7) t2 _ upd_same
                have gt3 := (s6.trans s7) t3 _ upd_same
                have n1 : l1 ∉ [L2, p] := fun z => by
                  rcases List.mem_cons.mp z with z | z
                  · exact ne_of_none (((s4.trans s5).trans s6) l1 _ upd_same) hL2 z
                  · exact (gd.pot.same (s1.trans s2)).ne hl1 (List.mem_singleton.mp z)
                refine ⟨gd.same s17, n, D, t, L2, zs, rs, _, ds ++ [.dict [], .tuple [], .list [], .str "a", .tuple [.tuple []]], _, _, _, _, _, hn, hNs.same s17, hRw.same s17, ⟨upd_same, ?_, ?_, ?_⟩, (gd.pot.same s16).ne hL2, fun e => ?_, (gd.same s16).sm.free hL2, rfl⟩
                · rw [List.length_append]
                  show _ + 5 ≤ 14
                  omega
                · exact ((hIt.da.same s16).new hL2 s7).append (.cons (.dic0 gd1) (.cons (.tup gt1 (by decide) .nil) (.cons (.lst gl1 n1 (by decide) .nil) (.cons (.str _ (by decide)) (.cons (.tup gt3 (by show 1 ≤ 100000; decide) (.cons (.tup gt2 (by decide) .nil) .nil)) .nil)))))
                · intro d hd
                  rcases List.mem_append.mp hd with hd | hd
                  · exact hIt.sh d hd
                  · simp only [List.mem_cons, List.not_mem_nil, or_false] at hd
                    rcases hd with rfl | rfl | rfl | rfl | rfl
                    · exact ⟨rfl, by decide, by decide +kernel, .inr rfl⟩
                    · exact ⟨rfl, by decide, by decide +kernel, .inl rfl⟩
                    · exact ⟨rfl, by decide, by decide +kernel, .inl rfl⟩
                    · exact ⟨rfl, by decide, by decide +kernel, .inl rfl⟩
                    · exact ⟨rfl, by decide, by decide +kernel, .inl rfl⟩
                · have := (hNs.same s16).at_
                  rw [← e, hL2] at this
                  cases this
              · rintro _ He ⟨ge, n, D, t, L, zs, rs, its, ds, z1, z7, z8, z9, z10, hn, hNs, hRw, hIt, nLp, nLD, nLH, rfl⟩
                have hl4 : rs.length ≤ 401 := by rw [hRw.len]; exact hn
                have lm : (rs.map V.str).length ≤ 401 := by rw [List.length_map]; exact hl4
                refine ⟨M5 H a p, ?_, ?_⟩
                · -- six turns
                  refine ⟨6, rfl, by decide, by decide, for_range (lo := 0) (n := 6) (fun i σ H' => G0 H p H' ∧ Ns H' p D zs ∧ Rw H' t rs n ∧ ∃ (its : List V) (ds : List PyData) (y1 y7 y8 y9 y10 : Option V), It [L, p] H' L its ds (14 + 2 * i) ∧ σ = tail a p y1 (some (.int (n : Int))) (some (.ref D)) (some (.ref t)) (some (.ref L)) y7 y8 y9 y10) ?_ ?_ ?_⟩
                  · exact ⟨ge, hNs, hRw, its, ds, _, _, _, _, _, hIt, rfl⟩
                  · rintro i σ H1 hi ⟨g1, n1, r1, its, ds, y1, y7, y8, y9, y10, hIt, rfl⟩
                    have hle := hIt.len
                    -- a place, something odd
                    refine ⟨_, rfl, _, rfl, _, _, rfl, rfl, p, n + 1, rfl, g1.pot, by omega, by omega, fun at' H2 hat k2 hp2 => ?_⟩
                    have g2 := g1.keep k2 hp2
                    have n2 := n1.keep k2
                    have lst2 : Lists [L, p] H2 := fun b hb => by
                      rcases List.mem_cons.mp hb with rfl | hb
                      · exact ⟨_, Keep.at k2 nLp hIt.at_⟩
                      · exact hp2.lst b hb
                    refine ⟨_, rfl, _, rfl, _, rfl, p, hp2, .inl ⟨D, _, rfl, n2.ne, n2.at_, by rw [List.length_map, n2.len]; decide, by rw [List.length_map, n2.len]; decide, fun x H3 hx k3 hp3 => ?_⟩⟩
                    obtain ⟨z, hzm, rfl⟩ := List.mem_map.mp hx
                    have lst3 := lists_keep lst2 k3 hp3
                    refine ⟨p, z, [L, p], rfl, hp3, List.mem_cons_of_mem _ (List.mem_singleton.mpr rfl), lst3, n2.nm z hzm, fun v dv H4 hdv od k4 hp4 => ?_⟩
                    have k14 := (k2.trans k3).trans k4
                    have g4 := g1.keep k14 hp4
                    have n4 := n1.keep k14
                    have r4 := r1.keep g1.pot k14
                    have L4 := Keep.at k14 nLp hIt.at_
                    have lst4 := lists_keep lst3 k4 hp4
                    have lst1 : Lists [L, p] H1 := fun b hb => by
                      rcases List.mem_cons.mp hb with rfl | hb
                      · exact ⟨_, hIt.at_⟩
                      · exact g1.pot.lst b hb
                    have da4 := hIt.da.keep lst1 (k14.sub fun b hb => List.mem_cons_of_mem _ hb)
                    obtain ⟨us1, ec1, lc1, mc1⟩ := cut_map rs none (some (at' : Int))
                    obtain ⟨us2, ec2, lc2, mc2⟩ := cut_map rs (some ((at' : Int) + 1)) none
                    obtain ⟨us3, ec3, lc3, mc3⟩ := cut_map rs (some (at' : Int)) none
                    have nm1 : ∀ z ∈ us1, Nm z := fun z hz => r1.nm z (mc1 z hz)
                    have nm2 : ∀ z ∈ us2, Nm z := fun z hz => r1.nm z (mc2 z hz)
                    have nm3 : ∀ z ∈ us3, Nm z := fun z hz => r1.nm z (mc3 z hz)
                    have lu1 : (us1.map V.str).length ≤ 401 := by rw [List.length_map]; omega
                    have lu2 : (us2.map V.str).length ≤ 401 := by rw [List.length_map]; omega
                    have lu3 : (us3.map V.str).length ≤ 401 := by rw [List.length_map]; omega
                    -- the first row
                    refine ⟨_, rfl, .inl ⟨rfl, _, .inl (.inl L4)⟩, _, rfl, _, rfl, _, rfl, t, _, rfl, r4.at_, fun u1 H5 s5 h5 => ?_⟩
                    rw [ec1] at h5
                    refine ⟨_, rfl, (by show 1 ≤ sizeLine; decide), fun t1 ht1 => ?_⟩
                    have s6 := same_new (o := .tup [v]) ht1
                    refine ⟨u1, t1, us1.map V.str, [v], rfl, rfl, s6 _ _ h5, upd_same, line (by show _ + 1 ≤ _; omega), fun u2 H7 s7 h7 => ?_⟩
                    have s47 := (s5.trans s6).trans s7
                    refine ⟨_, rfl, _, rfl, _, _, rfl, rfl, _, rfl, t, _, rfl, s47 _ _ r4.at_, fun u3 H8 s8 h8 => ?_⟩
                    rw [ec2] at h8
                    refine ⟨u2, u3, us1.map V.str ++ [v], us2.map V.str, rfl, rfl, s8 _ _ h7, h8, line (by rw [List.length_append]; show _ + 1 + _ ≤ _; omega), fun u4 H9 s9 h9 => ?_⟩
                    have s49 := (s47.trans s8).trans s9
                    -- the second row
                    refine ⟨_, rfl, _, rfl, _, rfl, t, _, rfl, s49 _ _ r4.at_, fun w1 Ha sa ha => ?_⟩
                    rw [ec1] at ha
                    refine ⟨_, rfl, (by show 1 ≤ sizeLine; decide), fun t2 ht2 => ?_⟩
                    have sb := same_new (o := .tup [v]) ht2
                    refine ⟨w1, t2, us1.map V.str, [v], rfl, rfl, sb _ _ ha, upd_same, line (by show _ + 1 ≤ _; omega), fun w2 Hc sc hc => ?_⟩
                    have s9c := (sa.trans sb).trans sc
                    have s4c := s49.trans s9c
                    refine ⟨_, rfl, _, rfl, _, rfl, t, _, rfl, s4c _ _ r4.at_, fun w3 Hd' sd hd' => ?_⟩
                    rw [ec3] at hd'
                    refine ⟨w2, w3, us1.map V.str ++ [v], us3.map V.str, rfl, rfl, sd _ _ hc, hd', line (by rw [List.length_append]; show _ + 1 + _ ≤ _; omega), fun w4 He' se he => ?_⟩
                    refine ⟨(by show 2 ≤ sizeLine; decide), fun l hl5 => ?_⟩
                    have sl := same_new (o := .lst [.ref u4, .ref w4]) hl5
                    have s4l := ((s4c.trans sd).trans se).trans sl
                    have Ll := s4l _ _ L4
                    refine ⟨L, l, its, _, rfl, rfl, Ll, upd_same, line (by show _ + 2 ≤ _; omega), ?_⟩
                    -- behind the turn
                    have gl := g4.same s4l
                    have kL : Keep [L, p] _ (upd (upd He' l (.lst [.ref u4, .ref w4])) L (.lst (its ++ [.ref u4, .ref w4]))) := keep_at (List.mem_cons_self ..)
                    have lstl := lists_same lst4 s4l
                    have dvl := (hdv.same s4l)
                    have du : Dx [L, p] (upd He' l (.lst [.ref u4, .ref w4])) (.ref u4) (.tuple (us1.map PyData.str ++ [dv] ++ us2.map PyData.str)) :=
                      .tup ((((s9c.trans sd).trans se).trans sl) _ _ h9) (by rw [List.length_append, List.length_append]; show _ + 1 + _ ≤ _; omega) (((DxA.strs us1 (nm_len nm1)).append (.cons dvl .nil)).append (DxA.strs us2 (nm_len nm2)))
                    have dw : Dx [L, p] (upd He' l (.lst [.ref u4, .ref w4])) (.ref w4) (.tuple (us1.map PyData.str ++ [dv] ++ us3.map PyData.str)) :=
                      .tup (sl _ _ he) (by rw [List.length_append, List.length_append]; show _ + 1 + _ ≤ _; omega) (((DxA.strs us1 (nm_len nm1)).append (.cons dvl .nil)).append (DxA.strs us3 (nm_len nm3)))
                    refine ⟨⟨same_in gl.sm nLH, gl.nw, ?_⟩, ⟨?_, n4.ne, n4.len, n4.nm⟩, ⟨?_, r4.len, r4.nm⟩, _, ds ++ [.tuple (us1.map PyData.str ++ [dv] ++ us2.map PyData.str), .tuple (us1.map PyData.str ++ [dv] ++ us3.map PyData.str)], _, _, _, _, _, ⟨upd_same, ?_, ?_, ?_⟩, rfl⟩
                    · obtain ⟨g, r, e, b⟩ := gl.pot
                      exact ⟨g, r, by rw [upd_ne nLp.symm]; exact e, b⟩
                    · rw [upd_ne nLD.symm]
                      exact (n4.same s4l).at_
                    · have := (r4.same s4l).at_
                      rw [upd_ne (fun e => by rw [e, Ll] at this; cases this)]
                      exact this
                    · rw [List.length_append]
                      show _ + 2 ≤ _
                      omega
                    · exact ((da4.same s4l).append (.cons du (.cons dw .nil))).keep lstl kL
                    · intro d hd
                      rcases List.mem_append.mp hd with hd | hd
                      · exact hIt.sh d hd
                      · simp only [List.mem_cons, List.not_mem_nil, or_false] at hd
                        rcases hd with rfl | rfl
                        · exact odd_shows nm1 nm2 (by omega) od
                        · exact odd_shows nm1 nm3 (by omega) od
                  · rintro σ H1 ⟨g1, n1, r1, its, ds, y1, y7, y8, y9, y10, hIt, rfl⟩
                    exact ⟨g1, L, its, ds, _, _, _, _, _, _, _, _, hIt, rfl⟩
                · rintro _ Hf ⟨gf, L, its, ds, z1, z3, z4, z5, z7, z8, z9, z10, hIt, rfl⟩
                  -- all are right
                  have hle := hIt.len
                  refine ⟨_, rfl, L, rfl, ⟨_, .inl (.inl hIt.at_)⟩, fun R hR => lc_list (K := K) (xs := its) (fun i H' => Same Hf H' ∧ H' R = some (.lst ((List.replicate i true).map V.bl))) ?_ (fun i H' _ h => .inl (.inl (h.1 _ _ hIt.at_))) ?_ ?_⟩
                  · exact ⟨same_new hR, upd_same⟩
                  · rintro i x H1 hx ⟨s1, e1⟩
                    obtain ⟨d, hd1, hd2⟩ := hIt.da.get hx
                    refine ⟨rfl, _, rfl, [L, p], x, d, rfl, hd2.same s1, hIt.sh d (List.mem_of_getElem? hd1), fun H2 s2 => ⟨_, s2 _ _ e1, ?_, same_in (s1.trans s2) hR, ?_⟩⟩
                    · rw [List.length_map, List.length_replicate]
                      have : i < its.length := (List.getElem?_eq_some_iff.mp hx).1
                      exact len_line (by omega)
                    · rw [upd_same, List.replicate_succ', List.map_append]
                      rfl
                  · rintro H1 ⟨s1, e1⟩
                    refine ⟨R, List.replicate its.length true, rfl, .inl (.inl e1), _, rfl, ?_⟩
                    have ea : (List.replicate its.length true).all id = true := by
                      rw [List.all_eq_true]
                      intro b hb
                      rw [(List.mem_replicate.mp hb).2]
                      rfl
                    rw [ea]
                    exact iteF ⟨gf.sm.trans s1, _, _, _, _, _, _, _, _, _, _, rfl⟩
    · rintro σ H1 ⟨s1, y1, y2, y3, y4, y5, y6, y7, y8, y9, y10, rfl⟩
      exact q H1
end
end K01

namespace K01
open PySem PySem.Spec PyProof.Rows L2 Gk
abbrev dd (x : Str) (i : Nat) : He.DefD := ⟨(x, none), x, x, defArgs (topS i), defBody (topS i), defScope (topS i), [], []⟩
def fn : List He.DefD := [dd "is_name" 5, dd "is_row" 6, dd "is_word" 7, dd "_law_pot" 9, dd "_law_take" 10, dd "_law_of" 11, dd "_law_drawn_name" 12, dd "_law_odd" 13, dd "_law_is" 14, dd "_law_right" 15, dd "law" 16]
def fa : List He.Fa := biFa ++ [.glo "is_name", .glo "is_row", .glo "is_word", .glo "_law_pot", .glo "_law_take", .glo "_law_of", .glo "_law_drawn_name", .glo "_law_odd", .glo "_law_is", .glo "_law_right", .glo "law",
  .str "LETTERS" "abcdefghijklmnopqrstuvwxyz", .int "LONGEST_NAME" 6, .int "LONGEST_ROW" 400, .int "LONGEST_WORD" 12]
abbrev R : PySem.W.OpenRow := PySem.W.OpenLaw.row PySem.Challenge.rw_woundwalks_k01_rows_and_words_of_anythin
abbrev hk : PySem.W.Hook := Gk.hookS 4 fa fn
def ob (s : PySem.W.SharedT) : He.AlD × Bool := Gk.obsS 4 fa fn (HandSHeadRun.getT s)
theorem ob_eq (s : PySem.W.SharedT) : ob s = hk.obs s.abs := Gk.obsS_eq (HandSHeadRun.getT_eq s)
def loose : List Str := ["LETTERS", "LONGEST_NAME", "LONGEST_ROW", "LONGEST_WORD", "is_name", "is_row", "is_word", "_law_pot", "_law_take", "_law_of", "_law_drawn_name", "_law_odd", "_law_is", "_law_right"]
theorem run (w : World) : HandSHeadRun.RunEq R (PySem.W.view R.prog [16]) hk ob 3000 loose w := by
  intro os
  kernel_rfl
section
variable {P : Program} {w : World} {K : PySem.W.Frag} {mg : Str → Option Value} {h : Heap} {f : Addr}
theorem con_int {x : Str} {i : Int} (X : K.In h) (G : h.Ns mainGlobals mg) (c : (He.Fa.int x i).ok K = true) : Con mg x (.int i) :=
  let ⟨t, e⟩ := He.int_ok X G c
  ⟨_, e, t, rfl⟩
theorem con_str {x z : Str} (X : K.In h) (G : h.Ns mainGlobals mg) (c : (He.Fa.str x z).ok K = true) : Con mg x (.str z) :=
  let ⟨t, e⟩ := He.str_ok X G c
  ⟨_, e, t, rfl⟩
theorem facts (X : K.In h) (G : h.Ns mainGlobals mg) (hfa : mg ("law" : Str) = some (.ref f)) (c : He.SaysD fa fn K) (dg : dig K = true) :
    ∃ fd : FuncData, (∀ (s : Shared) (v : Value), BindsTo s fd ⟨[v], []⟩ [("_law_script", v)]) ∧
      ∀ base : Heap, K.In base → base.Ns mainGlobals mg → FnG P w K mg base CX0 5 f fd ["_law_script"] (spLaw K) := by
  obtain ⟨d0, F0⟩ := c.def_ 0 (d := dd "is_name" 5) rfl
  obtain ⟨d1, F1⟩ := c.def_ 1 (d := dd "is_row" 6) rfl
  obtain ⟨d2, F2⟩ := c.def_ 2 (d := dd "is_word" 7) rfl
  obtain ⟨d3, F3⟩ := c.def_ 3 (d := dd "_law_pot" 9) rfl
  obtain ⟨d4, F4⟩ := c.def_ 4 (d := dd "_law_take" 10) rfl
  obtain ⟨d5, F5⟩ := c.def_ 5 (d := dd "_law_of" 11) rfl
  obtain ⟨d6, F6⟩ := c.def_ 6 (d := dd "_law_drawn_name" 12) rfl
  obtain ⟨d7, F7⟩ := c.def_ 7 (d := dd "_law_odd" 13) rfl
  obtain ⟨d8, F8⟩ := c.def_ 8 (d := dd "_law_is" 14) rfl
  obtain ⟨d9, F9⟩ := c.def_ 9 (d := dd "_law_right" 15) rfl
  obtain ⟨d10, F10⟩ := c.def_ 10 (d := dd "law" 16) rfl
  have B : Bi mg := bi_of X G fun i g hi => c.fact i (f := g) (by
    show (biFa ++ _)[i]? = some g
    rw [List.getElem?_append_left (List.getElem?_eq_some_iff.mp hi).1]
    exact hi)
  have g0 := He.glo_ok X G (c.fact 23 (f := .glo "is_name") rfl)
  have g1 := He.glo_ok X G (c.fact 24 (f := .glo "is_row") rfl)
  have g2 := He.glo_ok X G (c.fact 25 (f := .glo "is_word") rfl)
  have g3 := He.glo_ok X G (c.fact 26 (f := .glo "_law_pot") rfl)
  have g4 := He.glo_ok X G (c.fact 27 (f := .glo "_law_take") rfl)
  have g5 := He.glo_ok X G (c.fact 28 (f := .glo "_law_of") rfl)
  have g6 := He.glo_ok X G (c.fact 29 (f := .glo "_law_drawn_name") rfl)
  have g7 := He.glo_ok X G (c.fact 30 (f := .glo "_law_odd") rfl)
  have g8 := He.glo_ok X G (c.fact 31 (f := .glo "_law_is") rfl)
  have g9 := He.glo_ok X G (c.fact 32 (f := .glo "_law_right") rfl)
  have e := hfa.symm.trans (He.glo_ok X G (c.fact 33 (f := .glo "law") rfl))
  cases e
  have cL : Con mg "LETTERS" (.str lettersS) := con_str X G (c.fact 34 (f := .str "LETTERS" "abcdefghijklmnopqrstuvwxyz") rfl)
  have cN : Con mg "LONGEST_NAME" (.int 6) := con_int X G (c.fact 35 (f := .int "LONGEST_NAME" 6) rfl)
  have cR : Con mg "LONGEST_ROW" (.int 400) := con_int X G (c.fact 36 (f := .int "LONGEST_ROW" 400) rfl)
  have cW : Con mg "LONGEST_WORD" (.int 12) := con_int X G (c.fact 37 (f := .int "LONGEST_WORD" 12) rfl)
  have b10 := FunD.bindsA (ps := ["_law_script"]) F10 fun _ _ _ _ _ _ us hl => match us, hl with | [_], _ => rfl
  refine ⟨d10, fun s v => b10 s [v] rfl, fun base _ _ => ?_⟩
  have hd := He.eqO_ok dg
  have b0 := F0.bindsN (ps := ["thing"]) fun _ _ _ _ _ _ us hl => match us, hl with | [_], _ => rfl
  have b1 := F1.bindsN (ps := ["thing"]) fun _ _ _ _ _ _ us hl => match us, hl with | [_], _ => rfl
  have b2 := F2.bindsN (ps := ["thing"]) fun _ _ _ _ _ _ us hl => match us, hl with | [_], _ => rfl
  have b3 := F3.bindsN (ps := ["_law_script", "_law_k"]) fun _ _ _ _ _ _ us hl => match us, hl with | [_, _], _ => rfl
  have b4 := F4.bindsN (ps := ["_law_pot_here", "_law_upto"]) fun _ _ _ _ _ _ us hl => match us, hl with | [_, _], _ => rfl
  have b5 := F5.bindsN (ps := ["_law_pot_here", "_law_some"]) fun _ _ _ _ _ _ us hl => match us, hl with | [_, _], _ => rfl
  have b6 := F6.bindsN (ps := ["_law_pot_here"]) fun _ _ _ _ _ _ us hl => match us, hl with | [_], _ => rfl
  have b7 := F7.bindsN (ps := ["_law_pot_here", "_law_name"]) fun _ _ _ _ _ _ us hl => match us, hl with | [_, _], _ => rfl
  have b8 := F8.bindsN (ps := ["_law_item", "_law_most"]) fun _ _ _ _ _ _ us hl => match us, hl with | [_, _], _ => rfl
  have b9 := F9.bindsN (ps := ["_law_item"]) fun _ _ _ _ _ _ us hl => match us, hl with | [_], _ => rfl
  have k1 : KBn K d1 ["thing"] 0 ["thing"] (fun us ws => us ++ ws) (fun vs zs => vs ++ zs) := kbn_mk F1 (fun r1 r2 => r1.append r2) fun _ _ _ _ _ _ us ws h1 h2 => match us, ws, h1, h2 with | [], [_], _, _ => rfl
  have k2 : KBn K d2 ["thing"] 0 ["thing"] (fun us ws => us ++ ws) (fun vs zs => vs ++ zs) := kbn_mk F2 (fun r1 r2 => r1.append r2) fun _ _ _ _ _ _ us ws h1 h2 => match us, ws, h1, h2 with | [], [_], _, _ => rfl
  have o0 : FnOk P w K mg base CX0 1 _ d0 ["thing"] spName := ok_name F0 B cN cL
  have o1 : FnOk P w K mg base CX0 2 _ d1 ["thing"] (spRow 400) := ok_row F1 B cR ⟨_, _, o0, g0, F0.kp, b0⟩
  have o2 : FnOk P w K mg base CX0 3 _ d2 ["thing"] (spRow 12) := ok_word F2 B cW ⟨_, _, o1, g1, F1.kp, b1⟩
  have o3 : FnOk P w K mg base CX0 1 _ d3 ["_law_script", "_law_k"] (spPot K) := ok_pot F3 B hd
  have o4 : FnOk P w K mg base CX0 1 _ d4 ["_law_pot_here", "_law_upto"] spTake := ok_take F4
  have o5 : FnOk P w K mg base CX0 2 _ d5 ["_law_pot_here", "_law_some"] (spOf K) := ok_of F5 B ⟨_, _, o4, g4, F4.kp, b4⟩
  have o6 : FnOk P w K mg base CX0 3 _ d6 ["_law_pot_here"] spDrawn := ok_drawn F6 B ⟨_, _, o5, g5, F5.kp, b5⟩
  have o7 : FnOk P w K mg base CX0 3 _ d7 ["_law_pot_here", "_law_name"] spOdd := ok_odd F7 B ⟨_, _, o5, g5, F5.kp, b5⟩ ⟨_, _, o4, g4, F4.kp, b4⟩
  have o8 : FnOk P w K mg base CX0 1 _ d8 ["_law_item", "_law_most"] spIs := ok_is F8 B
  have o9 : FnG P w K mg base CX0 4 _ d9 ["_law_item"] spRight := ok_right F9 B ⟨_, _, o1, g1, F1.kp, b1⟩ ⟨_, _, o2, g2, F2.kp, b2⟩ ⟨_, _, _, o1, g1, F1.kp, k1⟩ ⟨_, _, _, o2, g2, F2.kp, k2⟩ ⟨_, _, o8, g8, F8.kp, b8⟩
  exact ok_law F10 B ⟨_, _, o3, g3, F3.kp, b3⟩ ⟨_, _, o5, g5, F5.kp, b5⟩ ⟨_, _, o4, g4, F4.kp, b4⟩ ⟨_, _, o6, g6, F6.kp, b6⟩ ⟨_, _, o7, g7, F7.kp, b7⟩ ⟨_, _, o9, g9, F9.kp, b9⟩
end
end K01
open PySem PySem.W PySem.Calls PyProof.Rows
theorem PySem.Challenge.cw_woundwalks_k01_rows_and_words_of_anythin_holds : PySem.Challenge.rw_woundwalks_k01_rows_and_words_of_anythin.Holds := by
  w_on; o_law
  refine HandSHeadRun.head_any (r := OpenLaw.row PySem.Challenge.rw_woundwalks_k01_rows_and_words_of_anythin) (q := view (OpenLaw.row PySem.Challenge.rw_woundwalks_k01_rows_and_words_of_anythin).prog [16]) (H := K01.hk) (ob := K01.ob) (M := 3000) (loose := K01.loose) (d := HandSHeadRun.topDef (OpenLaw.row PySem.Challenge.rw_woundwalks_k01_rows_and_words_of_anythin).prog 16) (kwd := []) K01.ob_eq
    (by kernel_rfl) (fun s => by kernel_rfl) K01.run (by kernel_rfl) (by kernel_rfl) (by kernel_rfl) (by rfl) (by first | assumption | decide +kernel) (by decide +kernel) ⟨rfl, rfl, rfl, rfl, rfl, by decide +kernel⟩ ?hw ?hc
  case hw => w_witness2
  case hc =>
    refine Gk.walkG (l := PySem.Challenge.rw_woundwalks_k01_rows_and_words_of_anythin) (n := 63) (k := 5) (x := "_law_script") (CX := L2.CX0) rfl (by decide) (by kernel_rfl) ⟨rfl, by decide, by decide⟩ ?F (fun _ _ _ _ z => z)
    intro w mg fa h Y G hmg0
    obtain ⟨K, KX, c, dg⟩ := Y
    have hmg : mg ("law" : PySem.Str) = some (.ref fa) := by
      have e : (HandSHeadRun.topDef (OpenLaw.row PySem.Challenge.rw_woundwalks_k01_rows_and_words_of_anythin).prog 16).name = ("law" : PySem.Str) := by kernel_rfl
      rw [← e]
      exact hmg0
    obtain ⟨fd, hb, hF⟩ := K01.facts (P := (PySem.Challenge.rw_woundwalks_k01_rows_and_words_of_anythin).prog) (w := w) KX G hmg c dg
    exact ⟨K, fd, K01.spLaw K, KX, hb, fun H a ns hl _ hS => ⟨a, ns, rfl, hS, hl, fun _ => rfl⟩, hF⟩
