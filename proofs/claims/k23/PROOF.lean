import PyProof.Rows.All
import Wide.All
import OpenK.AllK
import Wide.FinOn
import HandS.ForMost
import HandS.HeadEnd
import KE.KIntText
import HandS.Wide
import HandS.IsInst
import HandS.TupAny
import HandS.Codes
import HandS.Defaults
import HandS.HeadHook2
import HandS.Head2
import HandS.DictComp
import KE.KDictPairs
import PyProof.ListStr
import HandS.SortInts
import HandS.Zip
import HandS.TupMul
import HandS.Walk
import HandS.More
import HandS.Small
import HandS.Conv
import HandS.Style
import PySem.Challenge.RW_woundwalks_k23_rows_gone
set_option Elab.async false
set_option linter.all false
set_option maxRecDepth 100000
set_option maxHeartbeats 0
/-! a def that shows things (repr): its promise holds where no showing runs around it -/
namespace Gk
open PySem PySem.Spec PyProof.Rows L2

structure FnG (P : Program) (w : World) (K : PySem.W.Frag) (mg : Str → Option Value) (base : Heap)
    (CX : CXT) (k : Nat) (f : Addr) (fd : FuncData) (ps : List Str) (sp : Sp) : Prop where
  ar : ∀ vs H Q E, sp vs H Q E → vs.length = ps.length
  go : ∀ (A : Around) (outer : List Env) (s : Shared) (H : Hp) (args : Args) (us : List Value)
    (vs : List V) (Q : VK) (E : XK), A.guards = some [] → Room k A →
    Env0 P w K mg base A outer s H → BindsTo s fd args (ps.zip us) → Vals vs us → sp vs H Q E →
    codeAny (model P w) A (.call (.ref f) args) (CR CX outer P w H s Q E) s

section
variable {P : Program} {w : World} {K : PySem.W.Frag} {mg : Str → Option Value} {base : Heap} {CX : CXT}

theorem FnG.of {k : Nat} {f : Addr} {fd : FuncData} {ps : List Str} {sp : Sp}
    (F : FnOk P w K mg base CX k f fd ps sp) : FnG P w K mg base CX k f fd ps sp :=
  ⟨F.len, fun A outer s H args us vs Q E _ hr => F.run A outer s H args us vs Q E hr⟩

theorem fnG_body {k : Nat} {f : Addr} {name qual : Str} {params : Arguments} {body : List Stmt}
    {scope : Scope} {dV kV doc pm cdv ct oc : Value} {an od : Option Addr}
    {osl : Array (Option Value)} {N ps : List Str} {sp : Sp}
    (lk : K.lookup f = some ⟨oc, od, .func (PySem.W.fnOf name qual params body scope dV kV doc pm an cdv ct), osl⟩)
    (hcd : PySem.W.codeIn K cdv qual = true) (S : FnScope N ps scope)
    (ar : ∀ vs H Q E, sp vs H Q E → vs.length = ps.length)
    (hb : ∀ (A : Around) (outer : List Env) (s : Shared) (H : Hp) (vs : List V) (Q : VK) (E : XK),
      A.guards = some [] → Room k (A.deeper (envOfC qual scope s.heap.objs.size f cdv)) → sp vs H Q E →
      ∃ t, PSs (cxOf CX P w K mg base N qual scope f cdv A outer s H E) body t ∧
        t { nx := fun _ H' => Q .non H', rt := Q } (start N vs) H) :
    FnG P w K mg base CX (k + 1) f (PySem.W.fnOf name qual params body scope dV kV doc pm an cdv ct) ps sp := by
  constructor
  · exact ar
  intro A outer s H args us vs Q E hg room env bnd rel wish
  have kin : K.In s.heap := env.mod.kin.keeps (fun b o q => (env.bs b o q).1)
  have nol : s.heap.NoLimit := env.mod.nolimit.keeps (fun b o q => (env.bs b o q).1)
  apply codeAny_call_function room.depth (kin _ _ lk) rfl S.co S.gen rfl (PySem.W.codeRec_of kin hcd)
  apply bnd
  apply wpAny_newFunctionEnv_cells S.kind
  · rintro ⟨n, v⟩ hy
    cases S.par n (List.of_mem_zip hy).1 with
    | inl q => exact Or.inl q
    | inr q => exact Or.inr ⟨q, PySem.W.cellsFrom_some _ _ _ (Or.inl q)⟩
  rintro _ rfl s1 inn
  refine And.intro (nol.keeps inn.toInCall.keep) (codeAny_func ?_)
  obtain ⟨t, run, want⟩ := hb A outer s H vs Q E hg (room.deeper _) wish
  have inv := inv_start (CX := CX) (E := E) S room.hd env (ar _ _ _ _ wish) rel inn
  apply wpAny_mono (run.run [] s1 _ H _ inv want)
  · intro fl s' out
    cases fl with
    | ret u => obtain ⟨v, _, H', J, rv, q⟩ := out; exact ⟨v, H', J.os, J.bare, J.base, J.hok, rv, q⟩
    | next => obtain ⟨_, H', J, q⟩ := out; exact ⟨V.non, H', J.os, J.bare, J.base, J.hok, rfl, q⟩
    | brk => obtain ⟨_, _, _, q⟩ := out; exact q.elim
    | cont => obtain ⟨_, _, _, q⟩ := out; exact q.elim
  · exact fun _ _ q => q

theorem okG {x qual : Str} {st : Stmt} {f : Addr} {fd : FuncData} {N ps : List Str} {k : Nat} {sp : Sp}
    (F : Fun K x qual st f fd) (S : FnScope N ps (defScope st))
    (ar : ∀ vs H Q E, sp vs H Q E → vs.length = ps.length)
    (hb : ∀ (cdv : Value) (A : Around) (outer : List Env) (s : Shared) (H : Hp) (vs : List V) (Q : VK) (E : XK),
      A.guards = some [] → Room k (A.deeper (envOfC qual (defScope st) s.heap.objs.size f cdv)) → sp vs H Q E →
      ∃ t, PSs (cxOf CX0 P w K mg base N qual (defScope st) f cdv A outer s H E).nox (defBody st) t ∧
        t { nx := fun _ H' => Q .non H', rt := Q } (start N vs) H) :
    FnG P w K mg base CX0 (k + 1) f fd ps sp := by
  obtain ⟨_, _, _, _, _, _, cdv, _, _, rfl, lk, hcd⟩ := F.ex
  apply fnG_body lk hcd S ar
  intro A outer s H vs Q E hg hr hsp
  obtain ⟨t, h1, h2⟩ := hb cdv A outer s H vs Q E hg hr hsp
  exact ⟨t, h1.nox, h2⟩
end

section
variable {X : Cx} {CX : CXT} {k : Nat} {f : Addr} {fd : FuncData} {ps : List Str} {sp : Sp} {E : XK}

theorem runG {pins : List (Addr × Obj)} {σ : L2.St} {H : Hp} {s : Shared} {Q : VK} {us ds : List Value}
    {vs dvs : List V} (F : FnG X.prog X.w X.K X.mg X.base CX k f fd ps sp) (hg : X.A.guards = some [])
    (hr : Room k X.A) (hb : Binds X.K fd ps ds) (hd : Vals dvs ds) (hx : Passes CX X E)
    (I : L2.Inv X pins σ H s) (r : Vals vs us) (h : sp (vs ++ dvs) H Q E) :
    wpAny (model X.prog X.w) X.A (call (.ref f) us) (EP X pins σ Q) X.xe s := by
  have rel := r.append hd
  have hl : (us ++ ds).length = ps.length := rel.length.symm.trans (F.ar _ _ _ _ h)
  apply wpAny_call
  apply codeAny_mono (F.go X.A X.stack s H ⟨us, []⟩ _ _ Q E hg hr I.env0 (hb s us I.kIn hl) rel h)
  intro out s' q
  rcases out with e | fl
  · exact hx pins σ H s e s' I q
  · cases fl <;> first | exact I.after q | exact q.elim

/-- f(e, ..) of such a def -/
theorem pe_callG {x : Str} {p pos : Pos} {e : Expr} {es : List Expr} {t : TA} {ds : List Value} {dvs : List V}
    (F : FnG X.prog X.w X.K X.mg X.base CX k f fd ps sp) (hg : X.A.guards = some []) (hr : Room k X.A)
    (gl : Gl X x) (hm : X.mg x = some (.ref f)) (hk : PySem.W.keepIn X.K (.ref f) = true)
    (hb : Binds X.K fd ps ds) (hd : Vals dvs ds) (hx : Passes CX X E) (ha : PA X (e :: es) t)
    (hdb : (x == ("__debug__" : Str)) = false := by decide)
    (he : starEach (e :: es) X.env = (false, eval e X.env) :: starEach es X.env := by rfl)
    (hpl : (backTo pos (starEach es X.env)).any (·.1) = false := by rfl) :
    PE X (.Call (.Name x p) (e :: es) [] pos) (tCall sp dvs E t) := by
  constructor
  intro pins s σ H Q I h
  apply wpAny_Call_Name_kw
  apply ld_glob I gl hm _ hdb
  apply PySem.W.callWith_K (h₀ := X.base) I.ok.mod.kin hk _ he hpl
  apply thn (ha.run pos pins s σ H _ I h)
  rintro us s1 ⟨vs, H1, I1, r, q⟩
  exact ⟨I1.kIn, runG F hg hr hb hd hx I1 r q⟩
end

/-! ### the end of a law -/
theorem lawG {P : Program} {w : World} {K : PySem.W.Frag} {mg mb : Str → Option Value} {CX : CXT} {k : Nat}
    {fa a : Addr} {fd : FuncData} {x : Str} {sp : Sp} {s₁ : Shared} {vs : List Value} {ns : List Int}
    (KX : K.In s₁.heap) (hns : s₁.heap.Ns mainGlobals mg) (hb : s₁.heap.Ns builtinsNs mb)
    (hbb : ∀ x : Str, x ≠ "__name__" → mb x = bootBuiltins x) (hlim : s₁.heap.NoLimit) (hg : s₁.gens = #[])
    (ha : s₁.heap.get? a = some { cls := .type "list", data := .seq vs.toArray }) (hi : IntsAre vs ns)
    (hl : ns.length ≤ sizeLine) (hr : Room k callerA)
    (F : ∀ base : Heap, K.In base → base.Ns mainGlobals mg → FnG P w K mg base CX k fa fd [x] sp)
    (hbind : ∀ (s : Shared) (u : Value), BindsTo s fd ⟨[u], []⟩ [(x, u)])
    (hsp : ∀ H : Hp, Only H → SqL K H a (ns.map V.int) → sp [.ref a] H (fun v _ => v = .bl true) fun _ _ _ => False)
    (hCX : ∀ H e s', CX [] H s₁ (fun _ _ _ => False) e s' → False) :
    codeAny (model P w) callerA (.call (.ref fa) ⟨[.ref a], []⟩) (fun r s' => r = .ok (.ret (.bool true)) ∧
      OldK s₁.heap s'.heap ∧ s'.os = s₁.os ∧ AllBare s'.gens) s₁ := by
  have main : ∀ H : Hp, Only H → SqL K H a (ns.map V.int) → HOk P w H s₁.heap →
      (∀ b u, H b = some u → b = a ∧ K.lookup a = none) →
      codeAny (model P w) callerA (.call (.ref fa) ⟨[.ref a], []⟩) (fun r s' => r = .ok (.ret (.bool true)) ∧
        OldK s₁.heap s'.heap ∧ s'.os = s₁.os ∧ AllBare s'.gens) s₁ := by
    intro H only seq hok here
    have free : ∀ b o, s₁.heap.get? b = some o → (∀ z n, o.data ≠ .seq z n) → H b = none := by
      intro b o e nd
      match q : H b with
      | none => rfl
      | some u =>
        obtain ⟨rfl, _⟩ := here b u q
        cases e.symm.trans ha
        exact (nd _ _ rfl).elim
    have nsK : ∀ {b : Addr} {m : Str → Option Value}, s₁.heap.Ns b m → (hidT s₁.heap H).Ns b m := by
      rintro b m ⟨o, es, ep, e, d, r⟩
      exact ⟨o, es, ep, hidT_get e (free b o e (fun z n z' => by rw [d] at z'; cases z')), d, r⟩
    have kin : K.In (hidT s₁.heap H) := by
      intro b o e
      apply hidT_get (KX b o e)
      match q : H b with
      | none => rfl
      | some u =>
        obtain ⟨rfl, z⟩ := here b u q
        cases z.symm.trans e
    have lim : (hidT s₁.heap H).NoLimit := by
      obtain ⟨mc, h1, h2⟩ := hlim
      exact ⟨mc, nsK h1, h2⟩
    have env : Env0 P w K mg (hidT s₁.heap H) callerA [] s₁ H := {
      frames := rfl
      mod := ⟨kin, nsK hns, ⟨mb, nsK hb, hbb⟩, lim⟩
      bs := fun b o e => of_hidT e
      bsz := Nat.le_of_eq (hidT_size _ _)
      funs := trivial
      frf := fun b z => absurd (show b ∈ ([] : List Addr) from z) List.not_mem_nil
      hok := hok
      bare := .of_eq hg }
    have call := (F _ kin (nsK hns)).go callerA [] s₁ H ⟨[.ref a], []⟩ [.ref a] [.ref a] _ _ rfl hr env
      (hbind s₁ (.ref a)) (.cons rfl .nil) (hsp H only seq)
    apply codeAny_mono call
    intro r s' out
    match r, out with
    | .error e, out => exact (hCX H e s' out).elim
    | .ok .next, out => exact False.elim out
    | .ok .brk, out => exact False.elim out
    | .ok .cont, out => exact False.elim out
    | .ok (.ret u), out =>
      obtain ⟨v, H', os, bare, un, hok', rv, rfl⟩ := out
      cases (show u = Value.bool true from rv)
      refine ⟨rfl, OldK.of_keep ?_, os, bare⟩
      intro b o e
      cases only b with
      | inl n => exact un.keep b o e n (fun z => absurd (show b ∈ ([] : List Addr) from z) List.not_mem_nil) List.not_mem_nil
      | inr n =>
        obtain ⟨ob, xs, z⟩ := n
        have e1 := (hok b _ z).1
        have e2 := (hok' b _ (un.frzs b ob _ z)).1
        rw [e2, ← e1, e]
  match hk : K.lookup a with
  | some o =>
    cases (KX a o hk).symm.trans ha
    apply main (fun _ => none) (fun _ => Or.inl rfl)
    · refine Or.inr ⟨_, vs.toArray, _, hk, rfl, rfl, rfl, ?_, ?_⟩
      · rw [List.size_toArray, hi.length]; exact hl
      · simpa using vals_ints hi
    · intro b u z
      exact absurd (show (none : Option HO) = some u from z) nofun
    · intro b u z
      exact absurd (show (none : Option HO) = some u from z) nofun
  | none =>
    apply main (upd (fun _ => none) a (.frz { cls := .type "list", data := .seq vs.toArray } (.lst (ns.map V.int))))
    · intro b
      by_cases e : b = a
      · subst e; exact Or.inr ⟨_, _, upd_same⟩
      · exact Or.inl (upd_ne e)
    · exact Or.inl (Or.inr ⟨_, upd_same⟩)
    · intro b u z
      by_cases e : b = a
      · subst e
        cases upd_same.symm.trans z
        refine ⟨ha, ?_, vs, _, vals_ints hi, ha⟩
        rw [List.length_map]; exact hl
      · cases (upd_ne (H := fun _ => none) e).symm.trans z
    · intro b u z
      by_cases e : b = a
      · exact ⟨e, hk⟩
      · cases (upd_ne (H := fun _ => none) e).symm.trans z

theorem walkG {l : PySem.W.OpenLaw} {n k : Nat} {q : Program} {loose : List Str}
    {XP : (Str → Option Value) → Heap → Prop} {YP : World → Heap → Prop} {d : DefRec} {CX : CXT} {x : Str}
    (hn : l.most = some n) (hn2 : n ≤ sizeLine) (hdf : d.params.defaults = []) (hr : Room k callerA)
    (F : ∀ (w : World) (mg : Str → Option Value) (fa : Addr) (h : Heap), YP w h → h.Ns mainGlobals mg →
      mg d.name = some (.ref fa) →
      ∃ (K : PySem.W.Frag) (fd : FuncData) (sp : Sp), K.In h ∧
        (∀ (s : Shared) (u : Value), BindsTo s fd ⟨[u], []⟩ [(x, u)]) ∧
        (∀ (H : Hp) (a : Addr) (ns : List Int), ns.length ≤ n → Only H → SqL K H a (ns.map V.int) →
          sp [.ref a] H (fun v _ => v = .bl true) fun _ _ _ => False) ∧
        ∀ base : Heap, K.In base → base.Ns mainGlobals mg → FnG l.prog w K mg base CX k fa fd [x] sp)
    (hCX : ∀ (H : Hp) (s : Shared) (e : Value) (s' : Shared), CX [] H s (fun _ _ _ => False) e s' → False) :
    PySem.W.WalkO q loose XP YP l.row.toRowW d [] (fun f vs => PySem.call f vs) := by
  apply Att.attach_call hn hdf
  intro w s₀ s₁ mg mb fa o pm cd doc a vs ns G Y _ _ _ hmg hobj hints hlen hgens
  obtain ⟨K, fd, sp, KX, hb, hsp, hF⟩ := F w mg fa _ Y G.T.g hmg
  exact lawG KX G.T.g G.T.b G.T.builtins G.T.nolimit hgens hobj hints (Nat.le_trans hlen hn2) hr hF hb
    (fun H hO hS => hsp H a ns hlen hO hS) (fun H e s' => hCX H s₁ e s')
end Gk

namespace Gk
open PySem PySem.Spec PyProof.Rows

open PySem.NumText PySem.W
/-- '1' and nine hundred noughts -/
def bigC : List Nat := 49 :: List.replicate 900 48
def bigS : PySem.Str := ⟨bigC.toArray⟩

theorem noughts : ∀ (n : Nat) (p : Array Nat),
    (List.replicate n 48).foldlM (step 10) (p, true) = some ((p.toList ++ List.replicate n 0).toArray, true)
  | 0, p => by simp
  | n + 1, p => by
    have e : step 10 (p, true) 48 = some (p.push 0, true) := rfl
    rw [List.replicate_succ, List.foldlM_cons, e]
    show (List.replicate n 48).foldlM (step 10) (p.push 0, true) = _
    rw [noughts n (p.push 0), List.replicate_succ]
    simp
theorem zeros_while {p : Nat → Bool} (h : p 48 = false) (n : Nat) : (List.replicate (n + 1) 48).dropWhile p = List.replicate (n + 1) 48 := by
  rw [List.replicate_succ, List.dropWhile_cons, h]
  rfl
theorem big_rev : bigC.reverse = List.replicate 900 48 ++ [49] := by
  unfold bigC
  rw [List.reverse_cons, List.reverse_replicate]
theorem big_sign : sign (bigC.dropWhile blank) = (false, bigC) := rfl
theorem big_core : core bigC = bigC := by
  unfold core
  rw [big_sign]
  show (List.dropWhile blank bigC.reverse).reverse = bigC
  have e : List.dropWhile blank bigC.reverse = bigC.reverse := by
    rw [big_rev, show 900 = 899 + 1 from rfl, List.replicate_succ, List.cons_append]
    rfl
  rw [e, List.reverse_reverse]
theorem big_neg : (sign (bigC.dropWhile blank)).1 = false := by rw [big_sign]
theorem ascii : ∀ n : Nat, (List.replicate n 48).all (· < 128) = true
  | 0 => rfl
  | n + 1 => by rw [List.replicate_succ, List.all_cons, ascii n]; rfl
theorem big_text : numTextOf bigS = bigC := by
  have h : bigS.cps.all (· < 128) = true := by
    unfold bigS bigC
    rw [← Array.all_toList]
    show (49 :: List.replicate 900 48).all _ = true
    rw [List.all_cons, ascii 900]
    rfl
  exact if_pos h
theorem all_on : ∀ n : Nat, (List.replicate n 48).takeWhile (· != 0) = List.replicate n 48
  | 0 => rfl
  | n + 1 => by
    rw [List.replicate_succ, List.takeWhile_cons]
    show 48 :: List.takeWhile _ (List.replicate n 48) = _
    rw [all_on n]
theorem big_seen : numSeenOf bigS = bigC := by
  show (numTextOf bigS).takeWhile (· != 0) = bigC
  rw [big_text]
  unfold bigC
  rw [List.takeWhile_cons]
  show 49 :: List.takeWhile _ (List.replicate 900 48) = _
  rw [all_on]
theorem big_len : bigC.length = 901 := by unfold bigC; rw [List.length_cons, List.length_replicate]
theorem digits_n (n : Nat) : digits? 10 (49 :: List.replicate n 48) = some ((1 :: List.replicate n 0).toArray) := by
  unfold digits?
  have e : step 10 (#[], false) 49 = some (#[1], true) := rfl
  rw [List.foldlM_cons, e]
  have e2 : (some (#[1], true) >>= fun s' => List.foldlM (step 10) s' (List.replicate n 48)) = List.foldlM (step 10) (#[1], true) (List.replicate n 48) := rfl
  rw [e2, noughts]
  rfl
theorem big_digits : digits? 10 bigC = some ((1 :: List.replicate 900 0).toArray) := digits_n 900
theorem grows : ∀ (n : Nat) (a : Nat), 0 < a → 0 < (List.replicate n 0).foldl (fun acc d => acc * 10 + d) a
  | 0, a, h => h
  | n + 1, a, h => by
    rw [List.replicate_succ, List.foldl_cons]
    exact grows n _ (by omega)
theorem big_worth : ∃ n, 0 < n ∧ PySem.intText? bigS = some n := by
  refine ⟨worth false ((1 :: List.replicate 900 0).toArray), ?_, ?_⟩
  · unfold worth
    have h := grows 900 (0 * 10 + 1) (by decide)
    simp only [List.foldl_toArray, List.foldl_cons]
    simp only [Bool.false_eq_true, if_false]
    exact Int.ofNat_lt.mpr h
  · unfold PySem.intText?
    rw [big_seen, big_text, big_core, big_digits, big_neg]
    rw [if_pos (by rw [big_len]; decide)]
    show (if (1 :: List.replicate 900 0).toArray.size ≤ 4300 then _ else _) = _
    rw [if_pos (by rw [List.size_toArray, List.length_cons, List.length_replicate]; decide)]
theorem big_long : ¬ ((numSeenOf bigS).length ≤ 640) := by rw [big_seen, big_len]; decide

theorem digits_wp {M : Model} {A : Around} {E : Value → Shared → Prop} {s : Shared} {Q : Nat → Shared → Prop}
    (hn : s.heap.NoDigits) (h : Q 4300 s) : wpAny M A Builtin.intMaxStrDigits Q E s := by
  obtain ⟨mc, hns, hnone⟩ := hn
  unfold Builtin.intMaxStrDigits
  apply wpAny_bind (wpAny_nsGet hns _)
  rw [hnone]
  exact wpAny_pure h

theorem big_from {M : Model} {A : Around} {E : Value → Shared → Prop} {s : Shared} {Q : Value → Shared → Prop} {v : Value} {text : List Nat} {n : Int}
    (hl : ¬ ((text.takeWhile (· != 0)).length ≤ 640))
    (hr : (int_private% "readNumeral") 4300 10 (text.takeWhile (· != 0)) = (int_private% "Numeral.value") n)
    (ha : ((text.takeWhile (· != 0)).length == text.length) = true)
    (hn : s.heap.NoDigits) (h : Q (.int n s.toks) { s with toks := s.toks + 1 }) :
    wpAny M A ((int_private% "intFromText") v text 10) Q E s := by
  obtain ⟨hp, g, d, tk, os⟩ := s
  repeat (any_goals (first
    | assumption
    | (with_reducible refine wpAny_ite_false (decide_eq_false hl) ?_)
    | (with_reducible refine wpAny_ite_true (decide_eq_true ha) ?_)
    | (with_reducible refine digits_wp hn ?_)
    | wp_step))
  all_goals (try rw [hr])
  all_goals (try dsimp only)
  repeat (any_goals (first
    | assumption
    | (with_reducible refine wpAny_ite_true (decide_eq_true ha) ?_)
    | wp_step))

set_option maxHeartbeats 4000000 in
theorem big_new {u : Tok} {n : Int} (hn : PySem.intText? bigS = some n) :
    Meets (Builtin.«int.__new__» ⟨[.type "int", .str bigS u], []⟩)
      (fun _ R s => s.heap.NoDigits ∧ R (.ok (.ret (.int n s.toks))) { s with toks := s.toks + 1 }) := by
  intro prog w A R s h
  obtain ⟨hd, h⟩ := h
  have hk : (int_private% "readNumeral") 4300 10 (numSeenOf bigS) = (int_private% "Numeral.value") n ∧ ((numSeenOf bigS).length == (numTextOf bigS).length) = true := by
    rcases read4300 bigS (by show bigC.toArray.size ≤ _; rw [List.size_toArray, big_len, sizeLine_eq]; decide) with ⟨m, h1, h2, h3⟩ | ⟨h1, _⟩
    · rw [hn] at h1
      injection h1 with h1
      subst h1
      exact ⟨h3, h2⟩
    · rw [hn] at h1
      cases h1
  have hl := big_long
  have f1 := F.conv_sub_int
  have f2 := F.madeHere_int
  have f3 := KIN.str_int
  have f4 := KIN.str_idx
  have f5 := KIN.str_trunc
  have f6 : typeOf (.str bigS u) = pure (.type "str") := rfl
  generalize bigS = x at *
  obtain ⟨hp, g, d, tk, os⟩ := s
  clear hn
  have hk2 := KIN.Hid.mk hk
  have hl2 := KIN.Hid.mk hl
  clear hk hl
  repeat (any_goals (first
    | assumption
    | ((with_reducible show wpAny _ _ ((int_private% "intFromText") _ _ _) _ _ _); refine big_from hl2.out hk2.out.1 hk2.out.2 hd ?_)
    | wp_step))
theorem call_big {prog : Program} {w : World} {A : Around} {E : Value → Shared → Prop} {s : Shared} {Q : Value → Shared → Prop} {t : Tok} {n : Int}
    (hn : PySem.intText? bigS = some n) (hd : s.heap.NoDigits) (h : Q (.int n s.toks) { s with toks := s.toks + 1 }) :
    wpAny (model prog w) A (call (.type "int") [.str bigS t]) Q E s :=
  call_int_1 (big_new hn) ⟨hd, typeIs_int _ _ _, h⟩
end Gk

namespace Gk
open PySem PySem.Spec PyProof.Rows L2

/-! ### data in the abstract heap: what is shown by repr; its lists stand at none of p -/
mutual
inductive Dx (p : List Addr) (H : Hp) : V → PyData → Prop
  | non : Dx p H .non .none
  | bl (b : Bool) : Dx p H (.bl b) (.bool b)
  | int (i : Int) : Dx p H (.int i) (.int i)
  | str (x : Str) : x.length ≤ 100000 → Dx p H (.str x) (.str x)
  | lst {a : Addr} {xs : List V} {ds : List PyData} : H a = some (.lst xs) → a ∉ p → xs.length ≤ 100000 → DxA p H xs ds → Dx p H (.ref a) (.list ds)
  | tup {a : Addr} {xs : List V} {ds : List PyData} : H a = some (.tup xs) → xs.length ≤ 100000 → DxA p H xs ds → Dx p H (.ref a) (.tuple ds)
  | dic0 {a : Addr} : H a = some (.dK []) → Dx p H (.ref a) (.dict [])
  | dic1 {a : Addr} {x : Str} {i : Int} : H a = some (.dK [(Sum.inr x, .int i)]) → Dx p H (.ref a) (.dict [(.str x, .int i)])
inductive DxA (p : List Addr) (H : Hp) : List V → List PyData → Prop
  | nil : DxA p H [] []
  | cons {v : V} {vs : List V} {d : PyData} {ds : List PyData} : Dx p H v d → DxA p H vs ds → DxA p H (v :: vs) (d :: ds)
end

/-- all that stood elsewhere than at p is as it was -/
def Keep (p : List Addr) (H H' : Hp) : Prop := ∀ b o, b ∉ p → H b = some o → H' b = some o
theorem Keep.refl (p : List Addr) (H : Hp) : Keep p H H := fun _ _ _ h => h
theorem Keep.trans {p : List Addr} {H H1 H2 : Hp} (a : Keep p H H1) (b : Keep p H1 H2) : Keep p H H2 := fun c o n h => b c o n (a c o n h)
theorem Keep.of {p : List Addr} {H H' : Hp} (s : Same H H') : Keep p H H' := fun b o _ h => s b o h
theorem Keep.free {p : List Addr} {H H' : Hp} (k : Keep p H H') {b : Addr} (n : b ∉ p) (h : H' b = none) : H b = none := by
  match q : H b with
  | none => rfl
  | some o => rw [k b o n q] at h; cases h
theorem same_new {H : Hp} {p : Addr} {o : HO} (h : H p = none) : Same H (upd H p o) := fun b x e => by
  rw [upd_ne (ne_of_none e h)]
  exact e
theorem keep_at {H : Hp} {p : Addr} {o : HO} {N : List Addr} (h : p ∈ N) : Keep N H (upd H p o) := fun b x n e => by
  rw [upd_ne (show b ≠ p from fun z => n (by rw [z]; exact h))]
  exact e
theorem Keep.sub {H H' : Hp} {N M : List Addr} (k : Keep N H H') (h : ∀ a ∈ N, a ∈ M) : Keep M H H' := fun b x n e => k b x (fun z => n (h b z)) e
/-- at each of these stands a list -/
def Lists (p : List Addr) (H : Hp) : Prop := ∀ a ∈ p, ∃ xs, H a = some (.lst xs)
theorem Lists.not {p : List Addr} {H : Hp} {a : Addr} {o : HO} (l : Lists p H) (h : H a = some o) (n : ∀ xs, o ≠ .lst xs) : a ∉ p := fun m => by
  obtain ⟨xs, e⟩ := l a m
  rw [h] at e
  exact n xs (Option.some.inj e)

mutual
theorem Dx.keep {p : List Addr} {H H' : Hp} (hp : Lists p H) (k : Keep p H H') : ∀ {v : V} {d : PyData}, Dx p H v d → Dx p H' v d
  | _, _, .non => .non
  | _, _, .bl b => .bl b
  | _, _, .int i => .int i
  | _, _, .str x h => .str x h
  | _, _, .lst h n l a => .lst (k _ _ n h) n l (DxA.keep hp k a)
  | _, _, .tup h l a => .tup (k _ _ (hp.not h (fun _ => nofun)) h) l (DxA.keep hp k a)
  | _, _, .dic0 h => .dic0 (k _ _ (hp.not h (fun _ => nofun)) h)
  | _, _, .dic1 h => .dic1 (k _ _ (hp.not h (fun _ => nofun)) h)
theorem DxA.keep {p : List Addr} {H H' : Hp} (hp : Lists p H) (k : Keep p H H') : ∀ {vs : List V} {ds : List PyData}, DxA p H vs ds → DxA p H' vs ds
  | _, _, .nil => .nil
  | _, _, .cons h t => .cons (Dx.keep hp k h) (DxA.keep hp k t)
end
mutual
theorem Dx.same {p : List Addr} {H H' : Hp} (k : Same H H') : ∀ {v : V} {d : PyData}, Dx p H v d → Dx p H' v d
  | _, _, .non => .non
  | _, _, .bl b => .bl b
  | _, _, .int i => .int i
  | _, _, .str x h => .str x h
  | _, _, .lst h n l a => .lst (k _ _ h) n l (DxA.same k a)
  | _, _, .tup h l a => .tup (k _ _ h) l (DxA.same k a)
  | _, _, .dic0 h => .dic0 (k _ _ h)
  | _, _, .dic1 h => .dic1 (k _ _ h)
theorem DxA.same {p : List Addr} {H H' : Hp} (k : Same H H') : ∀ {vs : List V} {ds : List PyData}, DxA p H vs ds → DxA p H' vs ds
  | _, _, .nil => .nil
  | _, _, .cons h t => .cons (Dx.same k h) (DxA.same k t)
end
theorem DxA.length {p : List Addr} {H : Hp} : ∀ {vs : List V} {ds : List PyData}, DxA p H vs ds → vs.length = ds.length
  | _, _, .nil => rfl
  | _, _, .cons _ t => congrArg Nat.succ (DxA.length t)
theorem DxA.append {p : List Addr} {H : Hp} : ∀ {vs ws : List V} {ds es : List PyData}, DxA p H vs ds → DxA p H ws es → DxA p H (vs ++ ws) (ds ++ es)
  | _, _, _, _, .nil, s => s
  | _, _, _, _, .cons h t, s => .cons h (DxA.append t s)
theorem DxA.take {p : List Addr} {H : Hp} : ∀ {vs : List V} {ds : List PyData} (n : Nat), DxA p H vs ds → DxA p H (vs.take n) (ds.take n)
  | _, _, 0, _ => .nil
  | _, _, _ + 1, .nil => .nil
  | _, _, n + 1, .cons h t => .cons h (DxA.take n t)
theorem DxA.drop {p : List Addr} {H : Hp} : ∀ {vs : List V} {ds : List PyData} (n : Nat), DxA p H vs ds → DxA p H (vs.drop n) (ds.drop n)
  | _, _, 0, s => s
  | _, _, _ + 1, .nil => .nil
  | _, _, n + 1, .cons _ t => DxA.drop n t
theorem DxA.get {p : List Addr} {H : Hp} : ∀ {vs : List V} {ds : List PyData} {i : Nat} {v : V}, DxA p H vs ds → vs[i]? = some v → ∃ d, ds[i]? = some d ∧ Dx p H v d
  | _, _, _, _, .nil, e => by simp at e
  | _, _, 0, _, .cons h _, e => by simp at e; subst e; exact ⟨_, rfl, h⟩
  | _, _, i + 1, v, .cons _ t, e => by
    obtain ⟨d, e1, e2⟩ := DxA.get (i := i) (v := v) t (by simpa using e)
    exact ⟨d, by simpa using e1, e2⟩
theorem DxA.strs {p : List Addr} {H : Hp} : ∀ xs : List Str, (∀ x ∈ xs, x.length ≤ 100000) → DxA p H (xs.map V.str) (xs.map PyData.str)
  | [], _ => .nil
  | x :: xs, h => .cons (.str x (h x (List.mem_cons_self ..))) (DxA.strs xs fun y hy => h y (List.mem_cons_of_mem _ hy))

mutual
theorem Dx.new {p : List Addr} {H H' : Hp} {L : Addr} (hL : H L = none) (k : Same H H') : ∀ {v : V} {d : PyData}, Dx p H v d → Dx (L :: p) H' v d
  | _, _, .non => .non
  | _, _, .bl b => .bl b
  | _, _, .int i => .int i
  | _, _, .str x h => .str x h
  | _, _, .lst h n l a => .lst (k _ _ h) (fun z => (List.mem_cons.mp z).elim (fun e => by rw [e, hL] at h; cases h) n) l (DxA.new hL k a)
  | _, _, .tup h l a => .tup (k _ _ h) l (DxA.new hL k a)
  | _, _, .dic0 h => .dic0 (k _ _ h)
  | _, _, .dic1 h => .dic1 (k _ _ h)
theorem DxA.new {p : List Addr} {H H' : Hp} {L : Addr} (hL : H L = none) (k : Same H H') : ∀ {vs : List V} {ds : List PyData}, DxA p H vs ds → DxA (L :: p) H' vs ds
  | _, _, .nil => .nil
  | _, _, .cons h t => .cons (Dx.new hL k h) (DxA.new hL k t)
end
/-! no list stands in it -/
mutual
def listless : PyData → Bool
  | .list _ => false
  | .tuple xs => listlessA xs
  | _ => true
def listlessA : List PyData → Bool
  | [] => true
  | x :: xs => listless x && listlessA xs
end
section
variable {X : Cx} {pins : List (Addr × Obj)} {σ : L2.St} {H : Hp} {s : Shared}
mutual
theorem Dx.reads (I : L2.Inv X pins σ H s) {p : List Addr} : ∀ (d : PyData) (v : V) (u : Value), Dx p H v d → RelV v u → ∃ as, Reads s.heap u d as ∧ (listless d = true → sysModules ∉ as)
  | .none, _, _, h, r => by
    cases h; cases r
    exact ⟨_, Reads.none, fun _ => List.not_mem_nil⟩
  | .bool b, _, _, h, r => by
    cases h; cases r
    exact ⟨_, Reads.bool b, fun _ => List.not_mem_nil⟩
  | .int i, _, _, h, r => by
    cases h
    obtain ⟨t, rfl⟩ := r
    exact ⟨_, Reads.int i t, fun _ => List.not_mem_nil⟩
  | .str x, _, _, h, r => by
    cases h
    obtain ⟨t, rfl⟩ := r
    exact ⟨_, Reads.str x t, fun _ => List.not_mem_nil⟩
  | .list ds, _, _, h, r => by
    cases h with
    | lst hs _ _ ha =>
      cases r
      obtain ⟨_, its, n, rv, e⟩ := I.hok _ _ hs
      obtain ⟨as, hr, _⟩ := DxA.readsA I ds _ its ha rv
      exact ⟨_, Reads.list e rfl rfl (by simpa using hr), fun z => by cases z⟩
  | .tuple ds, _, _, h, r => by
    cases h with
    | tup hs _ ha =>
      cases r
      obtain ⟨_, its, rv, o, ho, hc, n, hd⟩ := I.hok _ _ hs
      obtain ⟨as, hr, hl⟩ := DxA.readsA I ds _ its ha rv
      exact ⟨_, Reads.tuple ho hc hd (by simpa using hr), fun z => hl z⟩
  | .dict kvs, _, _, h, r => by
    cases h with
    | dic0 hs =>
      cases r
      obtain ⟨_, hy, vs, rv, o, es, ep, ho, hx, hd, _, pr, _⟩ := I.hok _ _ hs
      cases rv
      have e0 : es.toList = [] := by
        generalize es.toList = l at pr
        cases pr
        rfl
      refine ⟨_, Reads.dict (as := []) (bs := []) ho hx.1 hd (by rw [e0]; exact .nil) (by rw [e0]; exact .nil), fun _ z => ?_⟩
      rcases List.mem_cons.mp z with q | q
      · rw [← q] at hy; simp at hy
      · exact List.not_mem_nil q
    | dic1 hs =>
      cases r
      obtain ⟨_, hy, vs, rv, o, es, ep, ho, hx, hd, _, pr, _⟩ := I.hok _ _ hs
      match vs, rv with
      | [(ke, ve)], .cons r1 .nil =>
        have h1 : Sum.inr _ = ke := r1.1
        obtain ⟨t, h2⟩ : ∃ t, ve = Value.int _ t := r1.2
        subst h1
        subst h2
        generalize hl : es.toList = l at pr
        cases pr with
        | cons k1 k2 k3 =>
          cases k3
          rename_i en
          obtain ⟨t2, e2⟩ := Value.isStrOf_shape (show Value.isStrOf _ en.key = true from k1)
          refine ⟨_, Reads.dict (as := []) (bs := []) ho hx.1 hd (by rw [hl]; exact .cons (as := []) (by dsimp only; rw [e2]; exact .str _ _) .nil) (by rw [hl]; exact .cons (as := []) (by dsimp only; rw [k2]; exact .int _ _) .nil), fun _ z => ?_⟩
          rcases List.mem_cons.mp z with q | q
          · rw [← q] at hy; simp at hy
          · exact List.not_mem_nil q
termination_by d => sizeOf d
theorem DxA.readsA (I : L2.Inv X pins σ H s) {p : List Addr} : ∀ (ds : List PyData) (vs : List V) (us : List Value), DxA p H vs ds → Vals vs us → ∃ as, ReadsAll s.heap us ds as ∧ (listlessA ds = true → sysModules ∉ as)
  | [], _, _, h, r => by
    cases h; cases r
    exact ⟨_, ReadsAll.nil, fun _ => List.not_mem_nil⟩
  | d :: ds, _, _, h, r => by
    cases h with
    | cons h1 h2 =>
      cases r with
      | cons r1 r2 =>
        obtain ⟨as, q1, l1⟩ := Dx.reads I d _ _ h1 r1
        obtain ⟨bs, q2, l2⟩ := DxA.readsA I ds _ _ h2 r2
        refine ⟨_, ReadsAll.cons q1 q2, fun z => ?_⟩
        have z' : (listless d && listlessA ds) = true := by simpa [listlessA] using z
        rw [Bool.and_eq_true] at z'
        intro hm
        rcases List.mem_append.mp hm with q | q
        · exact l1 z'.1 q
        · exact l2 z'.2 q
termination_by ds => sizeOf ds
end
end

/-! ### repr -/
theorem textFrom_le : ∀ (ts : List Str) (k : Nat) (acc : Str), (textFrom k acc ts).length ≤ acc.length + piled ts
  | [], _, acc => Nat.le_add_right _ _
  | t :: r, k, acc => by
    have ih := textFrom_le r (k + 1) (acc ++ (if k > 0 then ", " else "" : String) ++ t)
    have e : (acc ++ (if k > 0 then ", " else "" : String) ++ t).length ≤ acc.length + 2 + t.length := by
      rw [strLen_append, strLen_append]
      have z : (Str.ofString (if k > 0 then ", " else "" : String)).length ≤ 2 := by split <;> decide
      omega
    rw [piled_cons]
    show (textFrom (k + 1) _ r).length ≤ _
    omega
theorem listText_le (ts : List Str) : (listText ts).length ≤ piled ts + 2 := by
  have h := textFrom_le ts 0 "["
  unfold listText
  rw [strLen_append]
  have e1 : (Str.ofString "]").length = 1 := by decide
  have e2 : (Str.ofString "[").length = 1 := by decide
  omega
theorem join_le (ts : List Str) : (Str.join ", " ts).length ≤ piled ts := by
  match ts with
  | [] => exact Nat.zero_le _
  | t :: r =>
    have h := join_length_add (t :: r) (by simp)
    omega
theorem tupleText_le (ts : List Str) : (tupleText ts).length ≤ piled ts + 3 := by
  have h := join_le ts
  unfold tupleText
  rw [strLen_append, strLen_append]
  have e1 : (Str.ofString "(").length = 1 := by decide
  have e2 : (Str.ofString (if ts.length == 1 then ",)" else ")" : String)).length ≤ 2 := by split <;> decide
  omega
theorem piled_le {n : Nat} : ∀ (ds : List PyData), (∀ d ∈ ds, d.shown.length ≤ n) → piled (PyData.shownAll ds) ≤ ds.length * (n + 2)
  | [], _ => by simp [PyData.shownAll, piled_nil]
  | d :: ds, h => by
    have ih := piled_le ds fun e he => h e (List.mem_cons_of_mem _ he)
    have h1 := h d (List.mem_cons_self ..)
    simp only [PyData.shownAll]
    rw [piled_cons, List.length_cons, Nat.succ_mul]
    omega
theorem shown_list_le {n : Nat} {ds : List PyData} (h : ∀ d ∈ ds, d.shown.length ≤ n) : (PyData.list ds).shown.length ≤ ds.length * (n + 2) + 2 := by
  have h1 := piled_le ds h
  have h2 := listText_le (PyData.shownAll ds)
  simp only [PyData.shown]
  omega
theorem shown_tuple_le {n : Nat} {ds : List PyData} (h : ∀ d ∈ ds, d.shown.length ≤ n) : (PyData.tuple ds).shown.length ≤ ds.length * (n + 2) + 3 := by
  have h1 := piled_le ds h
  have h2 := tupleText_le (PyData.shownAll ds)
  simp only [PyData.shown]
  omega

/-- what can be shown -/
structure Shows (d : PyData) : Prop where
  ok : d.showable = true
  deep : d.depth ≤ 30
  size : d.shown.length ≤ 16000000
  clean : d.hasDict = false ∨ listless d = true

theorem big_line : (16000000 : Nat) ≤ sizeLine := by rw [sizeLine_eq]; decide

section
variable {X : Cx}
def rRepr (p : List Addr) : List V → Hp → VK → Prop := fun xs H Q => ∃ v d, xs = [v] ∧ Dx p H v d ∧ Shows d ∧ Q (.str d.shown) H
theorem call_reprD {k : Nat} (p : List Addr) (hg : X.A.guards = some []) (hr : Room k X.A) : CallR X (.builtin "repr") (rRepr p) := by
  intro pins s σ H xs us Q I r h
  obtain ⟨v, d, rfl, hd, hs, q⟩ := h
  obtain ⟨u, rfl, ru⟩ := vals1 r
  have hz : d.shown.length ≤ sizeLine := Nat.le_trans hs.size big_line
  have hu : X.A.units + (d.depth + 1) < cLine := by
    have h1 := hr.un
    have h2 := hs.deep
    omega
  obtain ⟨as, hr, hl⟩ := Dx.reads I d v u hd ru
  have heap : ∀ a, u = .ref a → wpAny (model X.prog X.w) X.A (call (.builtin "repr") [u]) (EP X pins σ Q) X.xe s := by
    rintro a rfl
    refine repr_of_reads' hr hs.ok (fun z => ?_) hg hu (fun _ _ e => e) (fun h' t tk hk => ?_) hz
    · rcases hs.clean with c | c
      · rw [c] at z; cases z
      · exact hl c
    · exact ⟨.str _, H, I.kept (t' := tk) hk, ⟨t, rfl⟩, q⟩
  cases hd with
  | non => cases ru; exact PySem.P.repr_of_none ⟨.str _, H, I.tok _, ⟨_, rfl⟩, q⟩
  | bl b => cases ru; exact PySem.P.repr_of_bool ⟨.str _, H, I.tok _, ⟨_, by simp only [PyData.shown]; split <;> rfl⟩, q⟩
  | int i =>
    obtain ⟨t, rfl⟩ := ru
    exact PySem.P.repr_of_int (by simpa [PyData.showable] using hs.ok) ⟨.str _, H, I.tok _, ⟨_, rfl⟩, q⟩
  | str x _ =>
    obtain ⟨t, rfl⟩ := ru
    exact PySem.P.repr_of_str ⟨.str _, H, I.tok _, ⟨_, rfl⟩, q⟩ hz
  | lst _ _ _ _ => exact heap _ ru
  | tup _ _ _ => exact heap _ ru
  | dic0 _ => exact heap _ ru
  | dic1 _ => exact heap _ ru

/-! ### a text, so many times -/
def repS (z : Str) (n : Nat) : Str := ⟨(List.replicate n z.cps.toList).flatten.toArray⟩
theorem foldl_cat (z : Array Nat) : ∀ (n : Nat) (acc : Array Nat), (List.replicate n z).foldl (· ++ ·) acc = (acc.toList ++ (List.replicate n z.toList).flatten).toArray
  | 0, acc => by simp
  | n + 1, acc => by
    rw [List.replicate_succ, List.foldl_cons, foldl_cat z n, List.replicate_succ, List.flatten_cons]
    simp
theorem repS_zero (z : Str) : repS z 0 = Str.empty := rfl
theorem repS_one (z : Str) : repS z 1 = z := by
  unfold repS
  obtain ⟨⟨l⟩⟩ := z
  simp
theorem repS_empty {z : Str} (h : z.length = 0) (n : Nat) : repS z n = z := by
  obtain ⟨⟨l⟩⟩ := z
  have e : l = [] := List.length_eq_zero_iff.mp h
  subst e
  unfold repS
  simp
theorem repS_fold (z : Str) (n : Nat) : (⟨(List.replicate n z.cps).foldl (· ++ ·) #[]⟩ : Str) = repS z n := by
  unfold repS
  rw [foldl_cat]
  simp
theorem repS_length (z : Str) (n : Nat) : (repS z n).length = n * z.length := by
  show (List.replicate n z.cps.toList).flatten.toArray.size = n * z.cps.size
  rw [List.size_toArray, List.length_flatten, List.map_replicate, List.sum_replicate_nat, Array.length_toList]
theorem op_mulStr : OpR X (binaryOp .Mult) (fun x y H Q => ∃ (z : Str) (k : Nat), x = .str z ∧ y = .int (k : Int) ∧ z.length * k ≤ 10000000 ∧ k ≤ 10000000 ∧ z.length ≤ 10000000 ∧ Q (.str (repS z k)) H) := by
  intro pins s σ H x y v u Q I rx ry h
  obtain ⟨z, k, rfl, rfl, hz, hk, hl, q⟩ := h
  obtain ⟨t, rfl⟩ := rx
  obtain ⟨t', rfl⟩ := ry
  refine PySem.P.mul_str ?_ (fun h1 h2 => ?_) (fun h1 h2 => ?_) ?_
  · rw [decide_eq_false (by omega), decide_eq_false (by omega)]; rfl
  · have : (1 : Int) ≤ k := by omega
    have h3 : (10000000 : Int) ≤ (2 ^ 63 - 1) / (k : Int) := by
      apply (Int.le_ediv_iff_mul_le (by omega)).mpr
      omega
    omega
  · show decide (z.length * ((k : Int).toNat) > sizeLine) = false
    have := big_line
    exact decide_eq_false (by rw [show ((k : Int).toNat) = k from rfl]; omega)
  · by_cases h0 : k = 0
    · subst h0
      rw [if_pos (by decide)]
      exact ⟨by decide, .str _, H, I.tok _, ⟨_, rfl⟩, by rw [repS_zero] at q; exact q⟩
    · rw [if_neg (by omega)]
      by_cases h1 : ((k : Int) == 1 || z.length == 0) = true
      · rw [if_pos h1]
        have e : repS z k = z := by
          rw [Bool.or_eq_true, beq_iff_eq, beq_iff_eq] at h1
          rcases h1 with h1 | h1
          · have : k = 1 := by omega
            rw [this, repS_one]
          · exact repS_empty h1 k
        rw [e] at q
        exact ⟨.str _, H, I, ⟨_, rfl⟩, q⟩
      · rw [if_neg h1]
        rw [show ((k : Int).toNat) = k from rfl, repS_fold]
        refine ⟨?_, .str _, H, I.tok _, ⟨_, rfl⟩, q⟩
        have := big_line
        rw [repS_length, Nat.mul_comm]
        omega

/-! ### int of the long text -/
theorem noDigits_of {K : PySem.W.Frag} {h : Heap} (X : K.In h) (L : h.NoLimit)
    (e : PySem.W.nsIn K cStatics "sys.int_max_str_digits" = some none) : h.NoDigits := by
  obtain ⟨mc, G, _⟩ := L
  refine ⟨mc, G, ?_⟩
  obtain ⟨o, es, ep, ho, hd, _, hf⟩ := G
  rw [← hf]
  unfold PySem.W.nsIn at e
  cases q : K.lookup cStatics with
  | none => rw [q] at e; cases e
  | some ob =>
    have z := X _ _ q
    rw [ho] at z
    cases z
    obtain ⟨c1, c2, c3, c4⟩ := o
    cases (show c3 = _ from hd)
    rw [q] at e
    dsimp only at e
    unfold nsFind findBy
    rw [← Array.find?_toList]
    cases f : es.toList.find? (fun x => x.key.isStr "sys.int_max_str_digits") with
    | none => rfl
    | some en => rw [f] at e; cases e
theorem call_bigInt (hd : PySem.W.nsIn X.K cStatics "sys.int_max_str_digits" = some none) :
    CallR X (.type "int") (fun xs H Q => xs = [.str bigS] ∧ ∀ n : Int, 0 < n → Q (.int n) H) := by
  intro pins s σ H xs us Q I r h
  obtain ⟨rfl, q⟩ := h
  obtain ⟨u, rfl, t, rfl⟩ := vals1 r
  obtain ⟨n, h0, hn⟩ := big_worth
  exact call_big hn (noDigits_of I.kIn I.nolimit hd) ⟨.int n, H, I.tok _, ⟨_, rfl⟩, q n h0⟩

/-! ### calls with keywords alone -/
variable {CX : CXT} {k n : Nat} {f : Addr} {fd : FuncData} {ps ks : List Str} {sp : Sp} {E : XK} {x : Str} {p pos : Pos}
  {kws : List Keyword} {tk : TA} {g : List Value → List Value → List Value} {gV : List V → List V → List V}
theorem pe_callN0 (F : FnOk X.prog X.w X.K X.mg X.base CX k f fd ps sp) (hr : Room k X.A) (hg : Gl X x)
    (hm : X.mg x = some (.ref f)) (hk : PySem.W.keepIn X.K (.ref f) = true) (hb : KBn X.K fd ps 0 ks g gV)
    (hx : Passes CX X E) (hkw : PK X kws tk)
    (hall : (backToKw pos (keywordEach kws X.env)).all (·.1.isSome) = true := by rfl)
    (hks : (backToKw pos (keywordEach kws X.env)).filterMap (·.1) = ks := by rfl)
    (hdb : (x == ("__debug__" : Str)) = false := by decide)
    (hpl : (backToKw pos (keywordEach kws X.env)).any (·.1.isNone) = false := by rfl) :
    PE X (.Call (.Name x p) [] kws pos) (tCallN 0 ks.length sp gV E tNil tk) := by
  constructor
  intro pins s σ H Q I h
  apply wpAny_Call_Name_kw
  apply ld_glob I hg hm _ hdb
  apply PySem.W.callWith_KW0 (h₀ := X.base) I.ok.mod.kin hk hall _ hpl
  apply thn (hkw.run pos pins s σ H _ I h)
  rintro ws s2 ⟨zs, H2, I2, rz, l1, l2, q2⟩
  refine ⟨I2.kIn, ?_⟩
  rw [hks]
  exact run_fnN (us := []) F hr hb hx I2 .nil rz l1 l2 q2
theorem kbn_mk {K : PySem.W.Frag} {y qual : Str} {params : Arguments} {body : List Stmt} {scope : Scope} {kwd : List (Str × V)}
    (F : FunD K y qual params body scope [] kwd f fd)
    (hrel : ∀ {vs zs : List V} {us ws : List Value}, Vals vs us → Vals zs ws → Vals (gV vs zs) (g us ws))
    (h : ∀ (kV doc pm : Value) (an : Option Addr) (cdv ct : Value) (us ws : List Value), us.length = n → ws.length = ks.length →
      bindArgs (PySem.W.fnOf y qual params body scope .none kV doc pm an cdv ct) ⟨us, ks.zip ws⟩ = pure (ps.zip (g us ws))) :
    KBn K fd ps n ks g gV := by
  obtain ⟨oc, od, dV, kV, doc, pm, an, cdv, ct, osl, rfl, lk, hcd, hD, hK⟩ := F.ex
  rcases hD with ⟨_, rfl⟩ | ⟨e, _⟩
  · exact ⟨fun s us ws X l1 l2 => .of_eq (h kV doc pm an cdv ct us ws l1 l2), hrel⟩
  · exact absurd rfl e
end

/-! ### a def of the head that shows things -/
section
variable {P : Program} {w : World} {K : PySem.W.Frag} {mg : Str → Option Value} {base : Heap}
theorem okGD {CX : CXT} {x qual : Str} {params : Arguments} {body : List Stmt} {scope : Scope} {dvs : List V} {kws : List (Str × V)}
    {f : Addr} {fd : FuncData} {N ps : List Str} {k : Nat} {sp : Sp}
    (F : FunD K x qual params body scope dvs kws f fd) (S : FnScope N ps scope)
    (ar : ∀ vs H Q E, sp vs H Q E → vs.length = ps.length)
    (hb : ∀ (cdv : Value) (A : Around) (outer : List Env) (s : Shared) (H : Hp) (vs : List V) (Q : VK) (E : XK),
      A.guards = some [] → Room k (A.deeper (envOfC qual scope s.heap.objs.size f cdv)) → sp vs H Q E →
      ∃ t, PSs (cxOf CX P w K mg base N qual scope f cdv A outer s H E) body t ∧
        t { nx := fun _ H' => Q .non H', rt := Q } (start N vs) H) :
    FnG P w K mg base CX (k + 1) f fd ps sp := by
  obtain ⟨_, _, _, _, _, _, _, cdv, _, _, rfl, lk, hcd, _, _⟩ := F.ex
  exact fnG_body lk hcd S ar fun A outer s H vs Q E hg hr hsp => hb cdv A outer s H vs Q E hg hr hsp
end

/-! ### bundles: a def as its callers see it -/
structure Bi (mg : Str → Option Value) : Prop where
  len : mg "len" = none
  range : mg "range" = none
  isinstance : mg "isinstance" = none
  all : mg "all" = none
  any : mg "any" = none
  abs : mg "abs" = none
  int : mg "int" = none
  max : mg "max" = none
  min : mg "min" = none
  repr : mg "repr" = none
  tuple : mg "tuple" = none
  list : mg "list" = none
  str : mg "str" = none
  sorted : mg "sorted" = none
  sum : mg "sum" = none
  zip : mg "zip" = none
  enumerate : mg "enumerate" = none
  reversed : mg "reversed" = none
  divmod : mg "divmod" = none
  dict : mg "dict" = none
  set : mg "set" = none
  bool : mg "bool" = none
  ValueError : mg "ValueError" = none
def biFa : List He.Fa := [.free "len", .free "range", .free "isinstance", .free "all", .free "any", .free "abs", .free "int",
  .free "max", .free "min", .free "repr", .free "tuple", .free "list", .free "str", .free "sorted", .free "sum", .free "zip",
  .free "enumerate", .free "reversed", .free "divmod", .free "dict", .free "set", .free "bool", .free "ValueError"]
theorem bi_of {K : PySem.W.Frag} {h : Heap} {mg : Str → Option Value} (X : K.In h) (G : h.Ns mainGlobals mg)
    (c : ∀ (i : Nat) (f : He.Fa), biFa[i]? = some f → f.ok K = true) : Bi mg :=
  ⟨He.free_ok X G (c 0 _ rfl), He.free_ok X G (c 1 _ rfl), He.free_ok X G (c 2 _ rfl), He.free_ok X G (c 3 _ rfl),
   He.free_ok X G (c 4 _ rfl), He.free_ok X G (c 5 _ rfl), He.free_ok X G (c 6 _ rfl), He.free_ok X G (c 7 _ rfl),
   He.free_ok X G (c 8 _ rfl), He.free_ok X G (c 9 _ rfl), He.free_ok X G (c 10 _ rfl), He.free_ok X G (c 11 _ rfl),
   He.free_ok X G (c 12 _ rfl), He.free_ok X G (c 13 _ rfl), He.free_ok X G (c 14 _ rfl), He.free_ok X G (c 15 _ rfl),
   He.free_ok X G (c 16 _ rfl), He.free_ok X G (c 17 _ rfl), He.free_ok X G (c 18 _ rfl), He.free_ok X G (c 19 _ rfl),
   He.free_ok X G (c 20 _ rfl), He.free_ok X G (c 21 _ rfl), He.free_ok X G (c 22 _ rfl)⟩
/-- a module's constant -/
def Con (mg : Str → Option Value) (x : Str) (v : V) : Prop := ∃ u, mg x = some u ∧ RelV v u
theorem pe_k {X : Cx} {x : Str} {pos : Pos} {v : V} (hg : Gl X x) (h : Con X.mg x v) (hdb : (x == ("__debug__" : Str)) = false := by decide) : PE X (.Name x pos) (tC v) :=
  let ⟨_, h1, h2⟩ := h
  pe_glob hg h1 h2 hdb

def Cl (P : Program) (w : World) (K : PySem.W.Frag) (mg : Str → Option Value) (base : Heap) (k : Nat) (x : Str) (ps : List Str) (sp : Sp) : Prop :=
  ∃ f fd, FnOk P w K mg base CX0 k f fd ps sp ∧ mg x = some (.ref f) ∧ PySem.W.keepIn K (.ref f) = true ∧ Binds K fd ps []
def ClG (P : Program) (w : World) (K : PySem.W.Frag) (mg : Str → Option Value) (base : Heap) (k : Nat) (x : Str) (ps : List Str) (sp : Sp) : Prop :=
  ∃ f fd, FnG P w K mg base CX0 k f fd ps sp ∧ mg x = some (.ref f) ∧ PySem.W.keepIn K (.ref f) = true ∧ Binds K fd ps []
/-- called by keywords -/
def ClK (P : Program) (w : World) (K : PySem.W.Frag) (mg : Str → Option Value) (base : Heap) (k : Nat) (x : Str) (ps : List Str) (sp : Sp)
    (n : Nat) (ks : List Str) (gV : List V → List V → List V) : Prop :=
  ∃ f fd g, FnOk P w K mg base CX0 k f fd ps sp ∧ mg x = some (.ref f) ∧ PySem.W.keepIn K (.ref f) = true ∧ KBn K fd ps n ks g gV
section
variable {X : Cx} {k j n : Nat} {x : Str} {ps ks : List Str} {sp : Sp} {p pos : Pos} {e : Expr} {es : List Expr} {t tk : TA} {kws : List Keyword} {gV : List V → List V → List V}
theorem pe_cl (c : Cl X.prog X.w X.K X.mg X.base k x ps sp) (hr : Room j X.A) (hk : k ≤ j) (hg : Gl X x) (ha : PA X (e :: es) t)
    (hdb : (x == ("__debug__" : Str)) = false := by decide)
    (he : starEach (e :: es) X.env = (false, eval e X.env) :: starEach es X.env := by rfl)
    (hpl : (backTo pos (starEach es X.env)).any (·.1) = false := by rfl) :
    PE X (.Call (.Name x p) (e :: es) [] pos) (tCall sp [] E0 t) :=
  let ⟨_, _, F, hm, kp, b⟩ := c
  pe_call F (hr.mono hk) hg hm kp b .nil pass0 ha hdb he hpl
theorem pe_clG (c : ClG X.prog X.w X.K X.mg X.base k x ps sp) (gd : X.A.guards = some []) (hr : Room j X.A) (hk : k ≤ j) (hg : Gl X x) (ha : PA X (e :: es) t)
    (hdb : (x == ("__debug__" : Str)) = false := by decide)
    (he : starEach (e :: es) X.env = (false, eval e X.env) :: starEach es X.env := by rfl)
    (hpl : (backTo pos (starEach es X.env)).any (·.1) = false := by rfl) :
    PE X (.Call (.Name x p) (e :: es) [] pos) (tCall sp [] E0 t) :=
  let ⟨_, _, F, hm, kp, b⟩ := c
  pe_callG F gd (hr.mono hk) hg hm kp b .nil pass0 ha hdb he hpl
theorem pe_clK0 (c : ClK X.prog X.w X.K X.mg X.base k x ps sp 0 ks gV) (hr : Room j X.A) (hk : k ≤ j) (hg : Gl X x) (ha : PK X kws tk)
    (hall : (backToKw pos (keywordEach kws X.env)).all (·.1.isSome) = true := by rfl)
    (hks : (backToKw pos (keywordEach kws X.env)).filterMap (·.1) = ks := by rfl)
    (hdb : (x == ("__debug__" : Str)) = false := by decide)
    (hpl : (backToKw pos (keywordEach kws X.env)).any (·.1.isNone) = false := by rfl) :
    PE X (.Call (.Name x p) [] kws pos) (tCallN 0 ks.length sp gV E0 tNil tk) :=
  let ⟨_, _, _, F, hm, kp, b⟩ := c
  pe_callN0 F (hr.mono hk) hg hm kp b pass0 ha hall hks hdb hpl
end

/-! ### the head's facts, with the interpreter's own statics -/
def frS (n : Nat) (g : Addr → Option Obj) : PySem.W.Frag := He.frG g (He.asD g n ++ [cStatics])
def dig (K : PySem.W.Frag) : Bool := He.eqO (PySem.W.nsIn K cStatics "sys.int_max_str_digits") (some none)
def obsS (n : Nat) (fa : List He.Fa) (fn : List He.DefD) (g : Addr → Option Obj) : He.AlD × Bool :=
  (He.obsD fa fn (frS n g), dig (frS n g))
def hookS (n : Nat) (fa : List He.Fa) (fn : List He.DefD) : PySem.W.Hook where
  α := He.AlD × Bool
  obs := fun s => obsS n fa fn s.heap.get?
  val := fun _ => (He.valD fn, true)
  says := fun _ h => ∃ K : PySem.W.Frag, K.In h ∧ He.SaysD fa fn K ∧ dig K = true
  of := fun _ s e => ⟨frS n s.heap.get?, He.frG_in, show He.obsD fa fn _ = He.valD fn from congrArg Prod.fst e, show dig _ = true from congrArg Prod.snd e⟩
  keeps := fun _ _ _ ⟨K, hK, c⟩ k => ⟨K, PySem.W.Frag.In.keeps hK k, c⟩
theorem obsS_eq {n : Nat} {fa : List He.Fa} {fn : List He.DefD} {g : Addr → Option Obj} {s : Shared}
    (h : ∀ a, g a = s.heap.get? a) : obsS n fa fn g = (hookS n fa fn).obs s := by
  have e : g = s.heap.get? := funext h
  subst e
  rfl
end Gk

/-! dict comprehensions whose keys are tuples of ints and texts -/
namespace Gk
open PySem PySem.Spec PyProof.Rows L2

theorem setT {X : Cx} {pins : List (Addr × Obj)} {σ : L2.St} {H : Hp} {s : Shared} {E : Value → Shared → Prop} {D b : Addr}
    {kvs : List (List Key × V)} {k : List Key} {v : V} {r : Value} {Q : Unit → Shared → Prop} (hu : X.A.units + 1 < cLine)
    (I : L2.Inv X pins σ H s) (hD : H D = some (.dT kvs)) (hb : H b = some (.tup (k.map kV))) (hz : kvs.length < sizeLine) (rv : RelV v r)
    (h : ∀ s', L2.Inv X pins σ (upd H D (.dT (putK kvs k v))) s' → Q () s') :
    wpAny (model X.prog X.w) X.A (dictSet D (.ref b) r) Q E s := by
  obtain ⟨zl, hd, xs, rel, dd⟩ := dt_of I.hok hD
  have hxs : xs.length ≤ sizeLine := (Paired.length rel) ▸ zl
  have hput : (putK kvs k v).length ≤ sizeLine := Nat.le_trans (length_putK kvs k v) hz
  have room : (tupleKind (mixKind X.prog X.w)).room X.A := by
    show X.A.units < cLine
    omega
  apply wpAny_dictSet_heap (hsz := hxs) room (key_of I.hok hb) dd
  intro h' dd' hs
  apply h
  obtain ⟨q, es, ep, hq, h2, h3, h4, _, h5⟩ := dd'
  apply d_write I (by rw [hD]; trivial) hs ⟨q, hq⟩
  refine ⟨hput, hd, _, KT.keeps (rel.put k hb rv) ?_, q, es, ep, hq, h2, h3, h4, h5⟩
  intro c ys ec
  exact (upd_ne (ne_of ec hD nofun)).trans ec

/-- what is asked of {k: v for ..}: D is the new dict -/
def tDcT (wi : TI) (g : TG) (tt : TT) (tk tv : TE) (vs : List Nat) : TE := fun σ H Q =>
  wi σ H fun J H1 => ∀ D, H1 D = none → ∃ W : Nat → Nat → Hp → Prop, (∃ m, W 0 m (upd H1 D (.dT []))) ∧
    ∀ i m H, W i m H → (J.stop i H ∧ Q (.ref D) H) ∨
      (J.go i H ∧ ∃ Nx : Hp → Prop, (∀ H', Nx H' → ∃ m', m' < m ∧ W (i + 1) m' H') ∧
        ∀ x H', J.yld i H x H' → g x (wipe σ vs) H' fun σ2 H2 => wipe σ2 vs = wipe σ vs ∧ tt σ2 H2 fun b H3 =>
          if b = true then tk σ2 H3 fun y H4 => tv σ2 H4 fun z H5 =>
            ∃ kvs k c, y = .ref c ∧ H5 c = some (.tup (List.map kV k)) ∧ H5 D = some (.dT kvs) ∧ kvs.length < sizeLine ∧
              Nx (upd H5 D (.dT (putK kvs k z)))
          else Nx H3)

section
variable {X : Cx} {kx vx tg iter : Expr} {ifs : List Expr} {scope : Scope} {own : List (Str × Nat)} {pos : Pos} {wi : TI} {g : TG} {tt : TT} {tk tv : TE}
theorem pe_dcT (hu : X.A.units + 1 < cLine) (calm : X.calm = true) (nd : X.N.Nodup) (hi : PI X tg iter wi) (ok : BlkOk X.N X.env.scope scope own)
    (hg : ∀ (s : Shared) (H : Hp) (C : Addr) (cl : List (Str × Addr)) (fp : List Addr),
      PG (X.blk s H scope (compEnvC scope cl C X.env) fp) tg g)
    (ht : ∀ (s : Shared) (H : Hp) (C : Addr) (cl : List (Str × Addr)) (fp : List Addr),
      PTs (X.blk s H scope (compEnvC scope cl C X.env) fp) ifs tt)
    (hk : ∀ (s : Shared) (H : Hp) (C : Addr) (cl : List (Str × Addr)) (fp : List Addr),
      PE (X.blk s H scope (compEnvC scope cl C X.env) fp) kx tk)
    (he : ∀ (s : Shared) (H : Hp) (C : Addr) (cl : List (Str × Addr)) (fp : List Addr),
      PE (X.blk s H scope (compEnvC scope cl C X.env) fp) vx tv)
    (fold : ∀ x, foldedSetIterable iter X.env x = pure x := by intro _; rfl) :
    PE X (.DictComp kx vx [⟨tg, iter, ifs, 0⟩] scope pos) (tDcT wi g tt tk tv (own.map (·.2))) := by
  constructor
  intro pins s σ H Q I want
  rw [arm_eval_DictComp]
  have cells : ∀ y ∈ scope.names, y.2 = .free → ∃ c, X.env.cells.lookup y.1 = some c := by
    intro y hy e
    exact (ok.free y hy e).elim (fun k => I.ok.has _ (.inl k)) (fun k => I.ok.has _ (.inr k))
  apply wpAny_comprehension_free (use := none) rfl fold (closure_ok cells) ok.kind
  · intro y hy e
    rw [ok.uniq y hy, e]
  apply thn (hi.run pins s σ H _ I want)
  intro xv s1 hx
  apply thn hx
  rintro itv s2 ⟨it, fp, tn, J, H2, rfl, I2, T, st2, f2, q⟩
  refine wpAny_newObj_type (newEnv_comp ?_)
  obtain ⟨D, hD⟩ : ∃ D, D = s2.heap.objs.size := ⟨_, rfl⟩
  rw [← hD]
  have free : H2 D = none := I2.hok.fresh (Nat.le_of_eq hD.symm)
  obtain ⟨W, ⟨m0, w0⟩, turn⟩ := q D free
  obtain ⟨s3, es3⟩ : ∃ s3 : Shared, s3 = { s2 with heap := s2.heap.push { cls := .type "dict", data := .dict #[] } } := ⟨_, rfl⟩
  have I3 : L2.Inv X pins σ (upd H2 D (.dT [])) s3 := by
    rw [es3]
    apply I2.laid (t' := s2.toks) (fun b o e => Heap.get?_push_of_some _ e) (Nat.le_of_eq hD.symm)
    rw [hD]
    exact dt_empty s2.heap I2.big
  have h3 : s3.heap = s2.heap.push { cls := .type "dict", data := .dict #[] } := by rw [es3]
  have low : ∀ b ∈ fp, b < s2.heap.objs.size := by
    intro b hb
    obtain ⟨o, e, _⟩ := T.obj _ _ st2 b hb
    exact Heap.lt_size e
  have f3 : ∀ b ∈ fp, FpOk X pins (upd H2 D (.dT [])) b ∧ b < s3.heap.objs.size := by
    intro b hb
    have lt := low b hb
    have ne : b ≠ D := by rw [hD]; exact Nat.ne_of_lt lt
    refine ⟨⟨(upd_ne ne).trans (f2 b hb).1, (f2 b hb).2⟩, ?_⟩
    rw [h3, Heap.size_push]
    exact Nat.lt_succ_of_lt lt
  have st3 : tn 0 s3.heap := by
    apply T.keep _ _ _ st2
    intro b _ o e
    rw [h3]
    exact Heap.get?_push_of_some _ e
  have I4 := block_start I3 ok nd f3
  have nofp : ∀ b ∈ fp, upd H2 D (.dT []) b = none := fun b hb => (f3 b hb).1.1
  have rules := And.intro (hg s3 (upd H2 D (.dT [])) s3.heap.objs.size (cellsFrom (s3.heap.objs.size + 1) scope.names (cloFrom X.env.cells scope.names [])) fp)
    (And.intro (ht s3 (upd H2 D (.dT [])) s3.heap.objs.size (cellsFrom (s3.heap.objs.size + 1) scope.names (cloFrom X.env.cells scope.names [])) fp)
    (And.intro (hk s3 (upd H2 D (.dT [])) s3.heap.objs.size (cellsFrom (s3.heap.objs.size + 1) scope.names (cloFrom X.env.cells scope.names [])) fp)
      (he s3 (upd H2 D (.dT [])) s3.heap.objs.size (cellsFrom (s3.heap.objs.size + 1) scope.names (cloFrom X.env.cells scope.names [])) fp)))
  rw [← es3]
  show codeAny _ _ (.compStart _ 0 (.ref it) (.ref D) (compEnvC scope (cellsFrom (s3.heap.objs.size + 1) scope.names (cloFrom X.env.cells scope.names [])) s3.heap.objs.size X.env))
    (compPost (model X.prog X.w) X.A X.xe none _ (.ref D) s3.heap.objs.size)
    { s3 with heap := pushCells (s3.heap.push { cls := .type "dict", data := .dict #[] }) scope.names }
  obtain ⟨ce, hce⟩ : ∃ ce, ce = compEnvC scope (cellsFrom (s3.heap.objs.size + 1) scope.names (cloFrom X.env.cells scope.names [])) s3.heap.objs.size X.env := ⟨_, rfl⟩
  have own0 : ce.locals = s3.heap.objs.size := by rw [hce]; rfl
  rw [← hce] at I4 rules ⊢
  obtain ⟨H3, hH3⟩ : ∃ H3, H3 = upd H2 D (.dT []) := ⟨_, rfl⟩
  rw [← hH3] at I3 I4 rules w0 nofp f3
  obtain ⟨s4, hs4⟩ : ∃ s4 : Shared, s4 = { s3 with heap := pushCells (s3.heap.push { cls := .type "dict", data := .dict #[] }) scope.names } := ⟨_, rfl⟩
  rw [← hs4] at I4 ⊢
  have st4 : tn 0 s4.heap := by
    apply T.keep _ _ _ st3
    intro b _ o e
    rw [hs4]
    exact pushCells_keeps _ _ _ _ (Heap.get?_push_of_some _ e)
  have foot : ∀ {σ' : L2.St} {H' : Hp} {s' : Shared}, L2.Inv (X.blk s3 H3 scope ce fp) [] σ' H' s' → (∀ b ∈ fp, H' b = none) →
      ∀ b ∈ fp, FpOk (X.blk s3 H3 scope ce fp) [] H' b := by
    intro σ' H' s' J' hn b hb
    refine ⟨hn b hb, (J'.ok.exf b hb).1, J'.ok.exfs b hb, .inl hb, fun x c e => (J'.ok.exf b hb).2 x c e, ?_⟩
    intro p hp
    exact absurd (show p ∈ ([] : List (Addr × Obj)) ++ [] from hp) (by simp)
  have loop : codeAny (model X.prog X.w) X.A (.compLoop (.DictComp kx vx [⟨tg, iter, ifs, 0⟩] scope pos) 0 (.ref it) (.ref D) ce)
      (compPost (model X.prog X.w) X.A X.xe none (EP X pins σ Q) (.ref D) s3.heap.objs.size) s4 := by
    apply compLoop_anyD (fun n s' => ∃ i H', L2.Inv (X.blk s3 H3 scope ce fp) [] (wipe σ (own.map (·.2))) H' s' ∧
      tn i s'.heap ∧ (∀ b ∈ fp, H' b = none) ∧ W i n H') _ m0 ⟨0, H3, I4, st4, nofp, w0⟩
    rintro n s5 ⟨i, H5, I5, st5, n5, w5⟩
    rcases turn i n H5 w5 with ⟨stop, done⟩ | ⟨go, Nx, hNx, step⟩
    · apply thnF (T.done (X.blk s3 H3 scope ce fp) rfl rfl rfl calm i [] s5 _ H5 (fun _ _ => False) I5 (foot I5 n5) st5 stop)
      rintro r s6 ⟨rfl, I6⟩
      have back : L2.Inv X pins σ H5 s6 := by
        apply I3.call' (ch := fp) I6.os I6.base I6.hok I6.bare
        intro b hb
        have z := (f3 b hb).1.2
        exact ⟨z.2.2.1, z.1, z.2.2.2.1, z.2.2.2.2⟩
      have nC : H5 s3.heap.objs.size = none := own0 ▸ (show H5 ce.locals = none from I6.free)
      obtain ⟨m, hn, _⟩ := I6.loc
      have hn' : s6.heap.Ns s3.heap.objs.size m := own0 ▸ (show s6.heap.Ns ce.locals m from hn)
      obtain ⟨g0, g1, g2, g3, g4, g5⟩ := I3.fpOk (Nat.le_refl _) nC
      refine ⟨m, hn', fun h'' sb => ⟨.ref D, H5, ?_, rfl, done⟩⟩
      exact back.turned (t' := s6.toks) (fun b o hb e => (sb.2 b hb).trans e) g0 g1 g3 g4 g5
    · apply thnF (T.item (X.blk s3 H3 scope ce fp) rfl rfl rfl calm i [] s5 _ H5 (fun _ _ => False) I5 (foot I5 n5) st5 go)
      rintro r s6 ⟨u, rfl, h6⟩
      apply thnF h6
      rintro _ s7 ⟨x, H7, I7, r7, y7, st7, n7⟩
      have P7 := I7.pinned (foot I7 n7) (T.obj _ _ st7)
      apply thnF (rules.1.run _ s7 _ H7 x u _ P7 r7 (step x H7 y7))
      rintro _ s8 ⟨σ8, H8, I8, hw8, q8⟩
      apply thnF (rules.2.1.run _ s8 σ8 H8 _ I8 q8)
      rintro b s9 ⟨H9, I9, q9⟩
      have fin : ∀ {s' : Shared} {H' : Hp}, L2.Inv (X.blk s3 H3 scope ce fp) ([] ++ pinsAt fp s7.heap) σ8 H' s' → Nx H' →
          ∃ m, m < n ∧ ∃ i H', L2.Inv (X.blk s3 H3 scope ce fp) [] (wipe σ (own.map (·.2))) H' s' ∧ tn i s'.heap ∧ (∀ b ∈ fp, H' b = none) ∧ W i m H' := by
        intro s' H' J' nx
        obtain ⟨m', hm, w'⟩ := hNx H' nx
        have pin' : ∀ b ∈ fp, ∀ o, s7.heap.get? b = some o → s'.heap.get? b = some o ∧ H' b = none := by
          intro b hb o e
          have z := J'.pin (b, o) (List.mem_append_right _ (List.mem_append_right _ (mem_pinsAt hb e)))
          exact ⟨z.1, z.2.1⟩
        have hl : (wipe σ (own.map (·.2))).length = σ8.length := by rw [← hw8, wipe_length]
        refine ⟨m', hm, i + 1, H', (J'.unpinned (pins := [])).weak hl ?_, ?_, ?_, w'⟩
        · intro j v e
          rw [← hw8] at e
          exact (wipe_some e).1
        · exact T.keep _ _ _ st7 fun b hb o e => (pin' b hb o e).1
        · intro b hb
          obtain ⟨o, e, _⟩ := T.obj _ _ st7 b hb
          exact (pin' b hb o e).2
      cases b with
      | false =>
        simp only [Bool.false_eq_true, if_false] at q9 ⊢
        exact fin I9 q9
      | true =>
        simp only [if_true] at q9 ⊢
        apply thnF (rules.2.2.1.run _ s9 σ8 H9 _ I9 q9)
        rintro zk s10 ⟨yk, H10, I10, r10, q10⟩
        apply thnF (rules.2.2.2.run _ s10 σ8 H10 _ I10 q10)
        rintro zv s11 ⟨yv, H11, I11, r11, kvs, k, c, rfl, hc11, hD11, hz11, nx⟩
        cases (show zk = Value.ref c from r10)
        exact setT (X := X.blk s3 H3 scope ce fp) hu I11 hD11 hc11 hz11 r11 fun s12 I12 => fin I12 nx
  exact codeAny_compStart_dict loop (T.self X.A 0 _ _ _ st4 loop)
end
end Gk

/-! dict(a list of pairs) whose keys are tuples -/
namespace Gk
open PySem PySem.Spec PyProof.Rows L2
def mergeT (es : List (List Key × Addr × V)) : List (List Key × V) := es.foldl (fun acc e => putK acc e.1 e.2.2) []
/-- a pair of a key and a value -/
def PairT (H : Hp) (p : Addr) (e : List Key × Addr × V) : Prop := H p = some (.tup [.ref e.2.1, e.2.2]) ∧ H e.2.1 = some (.tup (e.1.map kV))
def rDictT : List V → Hp → VK → Prop := fun xs H Q => ∃ (a : Addr) (ps : List Addr) (es : List (List Key × Addr × V)),
  xs = [.ref a] ∧ H a = some (.lst (ps.map V.ref)) ∧ Paired (PairT H) ps es ∧ ∀ q, H q = none → Q (.ref q) (upd H q (.dT (mergeT es)))
section
variable {X : Cx} {pins : List (Addr × Obj)} {σ : L2.St} {H : Hp} {s : Shared}
def RelE (e : List Key × Addr × V) (f : List Key × Addr × Value) : Prop := e.1 = f.1 ∧ e.2.1 = f.2.1 ∧ RelV e.2.2 f.2.2
theorem ents (I : L2.Inv X pins σ H s) : ∀ {ps : List Addr} {es : List (List Key × Addr × V)}, Paired (PairT H) ps es →
    ∃ fs : List (List Key × Addr × Value), Paired RelE es fs ∧ fs.length = ps.length ∧
      ∀ (j : Nat) (q : List Key × Addr × Value), fs[j]? = some q → ∃ b, ps[j]? = some b ∧ s.heap.IsTuple b #[.ref q.2.1, q.2.2]
  | _, _, .nil => ⟨[], .nil, rfl, fun j q e => by simp at e⟩
  | p :: ps, e :: es, .cons h t => by
    obtain ⟨fs, r, hl, hp⟩ := ents I t
    obtain ⟨_, its, rv, ht⟩ := I.hok _ _ h.1
    obtain ⟨u, y, rfl, ru, ry⟩ := vals2 rv
    cases (show u = Value.ref _ from ru)
    refine ⟨(e.1, e.2.1, y) :: fs, .cons ⟨rfl, rfl, ry⟩ r, by rw [List.length_cons, List.length_cons, hl], fun j q eq => ?_⟩
    cases j with
    | zero =>
      cases (Option.some.inj eq)
      obtain ⟨o, h1, h2, n, h3⟩ := ht
      exact ⟨p, rfl, ⟨o, h1, h2, n, h3⟩⟩
    | succ j =>
      obtain ⟨b, e1, e2⟩ := hp j q (by simpa using eq)
      exact ⟨b, by simpa using e1, e2⟩
theorem stored_all {H : Hp} : ∀ {es : List (List Key × Addr × V)} {fs : List (List Key × Addr × Value)} {acc : List (List Key × V)} {bcc : List (List Key × Addr × Value)},
    Paired RelE es fs → (∀ e ∈ es, H e.2.1 = some (.tup (e.1.map kV))) → KT H acc bcc →
    KT H (es.foldl (fun acc e => putK acc e.1 e.2.2) acc) (storedAllH bcc fs)
  | _, _, _, _, .nil, _, k => k
  | e :: es, f :: fs, acc, bcc, .cons h t, hk, k => by
    obtain ⟨h1, h2, h3⟩ := h
    have he := hk e (List.mem_cons_self ..)
    have := stored_all (acc := putK acc e.1 e.2.2) (bcc := storedH bcc f.1 f.2.1 f.2.2) t (fun x hx => hk x (List.mem_cons_of_mem _ hx)) (by
      rw [← h1, ← h2]
      exact k.put e.1 he h3)
    exact this
theorem merge_len : ∀ (es : List (List Key × Addr × V)) (acc : List (List Key × V)), (es.foldl (fun acc e => putK acc e.1 e.2.2) acc).length ≤ acc.length + es.length
  | [], acc => Nat.le_refl _
  | e :: es, acc => by
    have h1 := merge_len es (putK acc e.1 e.2.2)
    have h2 := length_putK acc e.1 e.2.2
    rw [List.length_cons]
    show (es.foldl _ (putK acc e.1 e.2.2)).length ≤ _
    omega
end
theorem keys_in {H : Hp} : ∀ {ps : List Addr} {es : List (List Key × Addr × V)}, Paired (PairT H) ps es → ∀ e ∈ es, H e.2.1 = some (.tup (e.1.map kV))
  | _, _, .nil, e, he => (List.not_mem_nil he).elim
  | _, _, .cons h t, e, he => (List.mem_cons.mp he).elim (fun z => by rw [z]; exact h.2) (keys_in t e)
theorem rel_mem : ∀ {es : List (List Key × Addr × V)} {fs : List (List Key × Addr × Value)}, Paired RelE es fs → ∀ x ∈ fs, ∃ e ∈ es, e.1 = x.1 ∧ e.2.1 = x.2.1
  | _, _, .nil, x, hx => (List.not_mem_nil hx).elim
  | _, _, .cons h t, x, hx => (List.mem_cons.mp hx).elim (fun z => ⟨_, List.mem_cons_self .., by rw [z]; exact ⟨h.1, h.2.1⟩⟩) fun z => by
    obtain ⟨e, he, q⟩ := rel_mem t x z
    exact ⟨e, List.mem_cons_of_mem _ he, q⟩
theorem call_dictT {X : Cx} (calm : X.calm = true) (hu : X.A.units + 5 < cLine) : CallR X (.type "dict") rDictT := by
  intro pins s σ H xs us Q I r q
  obtain ⟨a, ps, es, rfl, ha, hp, q⟩ := q
  obtain ⟨u, rfl, rx⟩ := vals1 r
  cases (show u = Value.ref a from rx)
  obtain ⟨hz, its, n, rv, ho⟩ := I.hok _ _ ha
  have ei := refs_at rv
  subst ei
  obtain ⟨fs, rel, hl, hpr⟩ := ents I hp
  rw [List.length_map] at hz
  have hle := Paired.length hp
  have hkeys := keys_in hp
  have hfs : ∀ x ∈ fs, ∃ e ∈ es, e.1 = x.1 ∧ e.2.1 = x.2.1 := rel_mem rel
  have big := sizeLine_eq
  apply call_dict_pairsH (knd := tupleKind (mixKind X.prog X.w)) (ps := fs)
    (PairArg.list a (ps.map Value.ref).toArray (fun j => ps.getD j 0) (fs.map fun q => (Value.ref q.2.1, q.2.2))) (I.ok.hd calm)
  · show X.A.units + 1 + 1 < cLine
    omega
  · refine ⟨⟨_, n, ho, rfl, rfl, rfl⟩, by simp [hl], ?_⟩
    intro j k v e
    rw [List.getElem?_map] at e
    cases ej : fs[j]? with
    | none => rw [ej] at e; cases e
    | some q =>
      rw [ej] at e
      cases e
      obtain ⟨b, e1, e2⟩ := hpr j q ej
      have eb : ps.getD j 0 = b := by rw [List.getD_eq_getElem?_getD, e1]; rfl
      refine ⟨?_, .inl ?_⟩
      · show (ps.map Value.ref).toArray[j]? = some (Value.ref (ps.getD j 0))
        rw [List.getElem?_toArray, List.getElem?_map, e1, eb]
        rfl
      · show s.heap.IsTuple (ps.getD j 0) _
        rw [eb]
        exact e2
  · refine ⟨by rw [List.length_map], ?_⟩
    intro i key v e
    have e' : (fs.map fun q => (Value.ref q.2.1, q.2.2))[i]? = some (key, v) := e
    rw [List.getElem?_map] at e'
    cases ej : fs[i]? with
    | none => rw [ej] at e'; cases e'
    | some q =>
      rw [ej] at e'
      cases e'
      exact ⟨q.1, q.2.1, rfl, rfl⟩
  · intro h' kept x hx
    obtain ⟨e, he, e1, e2⟩ := hfs x hx
    have hk := key_of I.hok (hkeys e he)
    rw [e1, e2] at hk
    obtain ⟨o, items, m, g1, g2, g3, g4⟩ := hk
    exact ⟨o, items, m, kept _ _ (Nat.ne_of_lt (Heap.lt_size g1)) List.not_mem_nil g1, g2, g3, g4⟩
  · rw [List.length_map, hl]
    exact hz
  · intro h' tk hd' kept
    obtain ⟨o, en, ep, g1, g2, g3, g4, _, g6⟩ := hd'
    have new : ∀ H', (∀ b ys, H b = some (.tup ys) → H' b = some (.tup ys)) → ObjOk X.prog X.w H' h' s.heap.objs.size (.dT (mergeT es)) := fun H' ht => by
      refine ⟨?_, beq_eq_false_iff_ne.mpr (Nat.ne_of_gt I.big), _, KT.keeps (stored_all rel hkeys .nil) ht, o, en, ep, g1, g2, g3, g4, g6⟩
      have := merge_len es []
      show (es.foldl _ []).length ≤ _
      rw [List.length_nil] at this
      omega
    have hn := I.hok.fresh (Nat.le_refl s.heap.objs.size)
    refine ⟨.ref s.heap.objs.size, upd H s.heap.objs.size (.dT (mergeT es)), I.laid (t' := tk) (fun b u e => kept b u List.not_mem_nil e) (Nat.le_refl _) (new _ ?_), rfl, q _ hn⟩
    intro b ys e
    rw [upd_ne (ne_of_none e hn)]
    exact e
end Gk

/-! list(text); a dict beside the empty one -/
namespace Gk
open PySem PySem.Spec PyProof.Rows L2
theorem vals_of : ∀ {xs : List V} {us : List Value}, xs.length = us.length → (∀ (j : Nat) (x : V) (u : Value), xs[j]? = some x → us[j]? = some u → RelV x u) → Vals xs us
  | [], [], _, _ => .nil
  | [], _ :: _, e, _ => by simp at e
  | _ :: _, [], e, _ => by simp at e
  | x :: xs, u :: us, e, h => .cons (h 0 x u rfl rfl) (vals_of (by simpa using e) fun j y v h1 h2 => h (j + 1) y v (by simpa using h1) (by simpa using h2))
section
variable {X : Cx}
def signsV (z : Str) : List V := z.cps.toList.map fun c => V.str ⟨#[c]⟩
theorem call_listS (calm : X.calm = true) : CallR X (.type "list") (fun xs H Q => ∃ z : Str, xs = [.str z] ∧ z.length ≤ 100000 ∧ ∀ l, H l = none → Q (.ref l) (upd H l (.lst (signsV z)))) := by
  intro pins s σ H xs us Q I r q
  obtain ⟨z, rfl, hz, q⟩ := q
  obtain ⟨u, rfl, t, rfl⟩ := vals1 r
  have hs : z.cps.size ≤ sizeLine := by
    have h : z.cps.size ≤ 100000 := hz
    rw [sizeLine_eq]
    omega
  apply call_list_str (I.ok.hd calm) z t (hn := hs)
  intro h' tk acc c' hk hS hacc
  have hn := I.hok.fresh (Nat.le_refl s.heap.objs.size)
  refine ⟨.ref s.heap.objs.size, upd H s.heap.objs.size (.lst (signsV z)), I.laid (t' := tk) hk (Nat.le_refl _) ?_, rfl, q _ hn⟩
  refine ⟨?_, acc.toList, c', vals_of ?_ ?_, by simpa using hS⟩
  · show (z.cps.toList.map _).length ≤ _
    rw [List.length_map, Array.length_toList]
    exact hs
  · show (z.cps.toList.map _).length = _
    rw [List.length_map, Array.length_toList, Array.length_toList, hacc.1]
  · intro j x u hx hu
    obtain ⟨c, t', hc, rfl⟩ := hacc.2 j u (by simpa using hu)
    have hx' : (z.cps.toList.map fun c => V.str ⟨#[c]⟩)[j]? = some x := hx
    rw [List.getElem?_map, Array.getElem?_toList, hc] at hx'
    cases hx'
    exact ⟨t', rfl⟩
/-- d != {} -/
theorem op_neEmpty (hu : X.A.units + 1 < cLine) : OpR X (compareOp .NotEq) (fun x y H Q => ∃ a b kvs, x = .ref a ∧ y = .ref b ∧ H a = some (.dK kvs) ∧ H b = some (.dK []) ∧ Q (.bl (decide (kvs.length ≠ 0))) H) := by
  intro pins s σ H x y v u Q I rx ry h
  obtain ⟨a, b, kvs, rfl, rfl, ha, hb, q⟩ := h
  cases (show v = Value.ref a from rx)
  cases (show u = Value.ref b from ry)
  obtain ⟨_, ya, va, ra, da⟩ := dk_of I.hok ha
  obtain ⟨_, yb, vb, rb, db⟩ := dk_of I.hok hb
  have hl : va.length = kvs.length := ra.length.symm
  have hl0 : vb.length = 0 := rb.length.symm
  refine PySem.W.keq_ne (knd := mixKind X.prog X.w) (r := true) ya yb da db (by omega) (fun e => ?_) ⟨.bl _, H, I, ?_, q⟩
  · have : va = [] := List.length_eq_zero_iff.mp (by omega)
    subst this
    exact .nil
  · show Value.bool _ = Value.bool _
    rw [hl, hl0]
    by_cases z : kvs.length = 0
    · simp [z]
    · simp [z]
end
end Gk

/-! the same rules, of what is tracked: for use within comprehensions -/
namespace Gk
open PySem PySem.Spec PyProof.Rows L2
section
variable {X : Cx}
theorem ix_tupH : IxR X (fun x y H Q => ∃ p xs i v, x = .ref p ∧ y = .int i ∧ H p = some (.tup xs) ∧ atI xs i = some v ∧ Q v H) := by
  intro value slice pins s σ H x y v u Q I rx ry h hs
  obtain ⟨p, xs, i, z, e1, e2, hp, ha, q⟩ := h
  exact ix_tup value slice pins s σ H x y v u Q I rx ry ⟨p, xs, i, z, e1, e2, .inl (.inl hp), ha, q⟩ hs
theorem ix_lstH : IxR X (fun x y H Q => ∃ p xs i v, x = .ref p ∧ y = .int i ∧ H p = some (.lst xs) ∧ atI xs i = some v ∧ Q v H) := by
  intro value slice pins s σ H x y v u Q I rx ry h hs
  obtain ⟨p, xs, i, z, e1, e2, hp, ha, q⟩ := h
  exact ix_list value slice pins s σ H x y v u Q I rx ry ⟨p, xs, i, z, e1, e2, .inl (.inl hp), ha, q⟩ hs
def HasSeq (H : Hp) (p : Addr) (xs : List V) : Prop := H p = some (.lst xs) ∨ H p = some (.tup xs)
theorem HasSeq.sq {K : PySem.W.Frag} {H : Hp} {p : Addr} {xs : List V} (h : HasSeq H p xs) : SqL K H p xs ∨ SqT K H p xs :=
  h.elim (fun z => .inl (.inl (.inl z))) fun z => .inr (.inl (.inl z))
theorem list_ofH : CallR X (.type "list") (fun xs H Q => ∃ p ys, xs = [.ref p] ∧ HasSeq H p ys ∧ ∀ l, H l = none → Q (.ref l) (upd H l (.lst ys))) := by
  intro pins s σ H xs us Q I r h
  obtain ⟨p, ys, e, hp, q⟩ := h
  exact call_list_of pins s σ H xs us Q I r ⟨p, ys, e, hp.sq, q⟩
theorem len_H : CallR X (.builtin "len") (fun xs H Q => ∃ p ys, xs = [.ref p] ∧ HasSeq H p ys ∧ Q (.int ys.length) H) := by
  intro pins s σ H xs us Q I r h
  obtain ⟨p, ys, e, hp, q⟩ := h
  exact call_len_seq pins s σ H xs us Q I r ⟨p, ys, e, hp.sq, q⟩
theorem in_H : OpR X (compareOp .In) (fun x y H Q => ∃ p xs, y = .ref p ∧ HasSeq H p xs ∧ flatV x = true ∧ xs.all flatV = true ∧ Q (.bl (inV x xs)) H) := by
  intro pins s σ H x y v u Q I rx ry h
  obtain ⟨p, xs, e, hp, f1, f2, q⟩ := h
  exact op_in_seq pins s σ H x y v u Q I rx ry ⟨p, xs, e, hp.sq, f1, f2, q⟩
end
end Gk

namespace Gk
open PySem PySem.Spec PyProof.Rows L2
theorem hu5_of {k : Nat} {A : Around} (h : Room k A) : A.units + 5 < cLine := by
  have := h.un
  omega
/-- called without what has a default -/
def ClD (P : Program) (w : World) (K : PySem.W.Frag) (mg : Str → Option Value) (base : Heap) (k : Nat) (x : Str) (ps : List Str) (sp : Sp) (dvs : List V) : Prop :=
  ∃ f fd ds, FnOk P w K mg base CX0 k f fd ps sp ∧ mg x = some (.ref f) ∧ PySem.W.keepIn K (.ref f) = true ∧ Vals dvs ds ∧ Binds K fd ps ds
section
variable {X : Cx} {k j n : Nat} {x : Str} {ps ks : List Str} {sp : Sp} {p pos : Pos} {e : Expr} {es : List Expr} {t tk : TA} {kws : List Keyword} {gV : List V → List V → List V} {dvs : List V}
theorem pe_clD (c : ClD X.prog X.w X.K X.mg X.base k x ps sp dvs) (hr : Room j X.A) (hk : k ≤ j) (hg : Gl X x) (ha : PA X (e :: es) t)
    (hdb : (x == ("__debug__" : Str)) = false := by decide)
    (he : starEach (e :: es) X.env = (false, eval e X.env) :: starEach es X.env := by rfl)
    (hpl : (backTo pos (starEach es X.env)).any (·.1) = false := by rfl) :
    PE X (.Call (.Name x p) (e :: es) [] pos) (tCall sp dvs E0 t) :=
  let ⟨_, _, _, F, hm, kp, r, b⟩ := c
  pe_call F (hr.mono hk) hg hm kp b r pass0 ha hdb he hpl
theorem pe_clKN (c : ClK X.prog X.w X.K X.mg X.base k x ps sp n ks gV) (hr : Room j X.A) (hk : k ≤ j) (hg : Gl X x) (ha : PA X (e :: es) t) (hkw : PK X kws tk)
    (hall : (backToKw pos (keywordEach kws X.env)).all (·.1.isSome) = true := by rfl)
    (hks : (backToKw pos (keywordEach kws X.env)).filterMap (·.1) = ks := by rfl)
    (hdb : (x == ("__debug__" : Str)) = false := by decide)
    (he : starEach (e :: es) X.env = (false, eval e X.env) :: starEach es X.env := by rfl)
    (hpl : ((backTo pos (starEach (e :: es) X.env)).any (·.1) || (backToKw pos (keywordEach kws X.env)).any (·.1.isNone)) = false := by rfl) :
    PE X (.Call (.Name x p) (e :: es) kws pos) (tCallN n ks.length sp gV E0 t tk) :=
  let ⟨_, _, _, F, hm, kp, b⟩ := c
  pe_callN F (hr.mono hk) hg hm kp b pass0 ha hkw hall hks hdb he hpl
end
end Gk

/-! tuple * int, from 0 on -/
namespace Gk
open PySem PySem.Spec PyProof.Rows L2
theorem mulT_same (l : Addr) (items : Array Value) (n : Nat) (dd : Option Addr) (sl : Array (Option Value)) (x : Int) (u : Tok) (c0 : (decide (x < -(2 ^ 63)) || decide (x ≥ 2 ^ 63)) = false) (c1 : (items.isEmpty || x == 1) = true) :
    Meets (Builtin.«tuple.__mul__» ⟨[.ref l, .int x u], []⟩) (fun _ R s => s.heap.get? l = some { cls := .type "tuple", dict := dd, data := .seq items n, slots := sl } ∧
      R (.ok (.ret (Value.ref l))) s) :=
  .of_wp fun prog w A R s h => by
    obtain ⟨hp, g, d, tk, os⟩ := s
    obtain ⟨hl, h⟩ := h
    have f1 := AutoSeq1.idx_int
    wp_walk using wpAny_loadPart' hl
    repeat (first
      | (refine wpAny_ite_false (decide_eq_false (by rw [c0]; exact Bool.false_ne_true)) ?_; wp_walk using wpAny_loadPart' hl)
      | (refine wpAny_ite_true (decide_eq_true (by rw [c1])) ?_; wp_walk using wpAny_loadPart' hl))
    exact ⟨_, rfl, h⟩
theorem mulT_zero (l : Addr) (items : Array Value) (n : Nat) (dd : Option Addr) (sl : Array (Option Value)) (x : Int) (u : Tok) (c0 : (decide (x < -(2 ^ 63)) || decide (x ≥ 2 ^ 63)) = false) (c1 : (items.isEmpty || x == 1) = false) (c2 : (decide (x ≤ 0) || items.isEmpty) = true) :
    Meets (Builtin.«tuple.__mul__» ⟨[.ref l, .int x u], []⟩) (fun _ R s => s.heap.get? l = some { cls := .type "tuple", dict := dd, data := .seq items n, slots := sl } ∧
      R (.ok (.ret (Value.ref s.heap.objs.size))) { s with heap := s.heap.push { cls := Value.type "tuple", data := Data.seq #[] }, toks := s.toks }) :=
  .of_wp fun prog w A R s h => by
    obtain ⟨hp, g, d, tk, os⟩ := s
    obtain ⟨hl, h⟩ := h
    have f1 := AutoSeq1.idx_int
    wp_walk using wpAny_loadPart' hl
    repeat (first
      | (refine wpAny_ite_false (decide_eq_false (by rw [c0]; exact Bool.false_ne_true)) ?_; wp_walk using wpAny_loadPart' hl)
      | (refine wpAny_ite_false (decide_eq_false (by rw [c1]; exact Bool.false_ne_true)) ?_; wp_walk using wpAny_loadPart' hl)
      | (refine wpAny_ite_true (decide_eq_true (by rw [c2])) ?_; wp_walk using wpAny_loadPart' hl))
    exact ⟨_, rfl, h⟩
section
variable {X : Cx}
theorem op_mulT : OpR X (binaryOp .Mult) (fun x y H Q => ∃ (l : Addr) (k : Nat) (xs : List V), x = .ref l ∧ y = .int (k : Int) ∧ H l = some (.tup xs) ∧ k ≤ 1000 ∧ xs.length ≤ 1000 ∧
    ∀ u H', Same H H' → H' u = some (.tup (List.replicate k xs).flatten) → Q (.ref u) H') := by
  intro pins s σ H x y v u Q I rx ry h
  obtain ⟨l, k, xs, rfl, rfl, hT, hk, hz, q⟩ := h
  by_cases big : xs ≠ [] ∧ 2 ≤ k
  · exact op_repT pins s σ H _ _ v u Q I rx ry ⟨l, k, xs, rfl, rfl, .inl (.inl hT), big.1, by omega, by omega, hz, fun p hp => q p _ (fun b o e => by
      rw [upd_ne (fun z => by rw [z, hp] at e; cases e)]
      exact e) (by rw [upd_same]; rfl)⟩
  · cases rx
    obtain ⟨t, rfl⟩ := ry
    obtain ⟨its, r, ⟨⟨cls, dd, data, sl⟩, ho, hc, n, hd⟩, hs⟩ := I.tuple (.inl (.inl hT))
    simp only at hc hd
    subst hc hd
    have hle : its.length = xs.length := r.length.symm
    have c0 : (decide ((k : Int) < -(2 ^ 63)) || decide ((k : Int) ≥ 2 ^ 63)) = false := by
      rw [decide_eq_false (by omega), decide_eq_false (by omega)] <;> rfl
    by_cases c1 : (its.toArray.isEmpty || (k : Int) == 1) = true
    · refine wpAny_binaryOp_repeat_ref (T := "tuple") (U := "int") (by decide) ⟨_, ho, rfl⟩ (fun s' => typeIs_int s' k t) noFill_tuple_mul F.fills_int_mul F.slot_int_rmul repeat_tuple F.slot_int_index.lookup
        (call_meets F.slot_int_rmul (typeIs_int s k t) F.entry_int_rmul (F.args_int_rmul_2 _ _) (int_rmul_tuple k t l its.toArray n dd sl)
          ⟨ho, rfl, ⟨_, ho, rfl⟩, call_meets F.slot_tuple_mul ⟨_, ho, rfl⟩ F.entry_tuple_mul (F.args_tuple_mul_2 _ _) (mulT_same l its.toArray n dd sl k t c0 c1) ⟨ho, ?_⟩⟩)
      refine ⟨.ref l, H, I, rfl, q l H (fun _ _ e => e) ?_⟩
      rw [hT]
      congr 2
      rw [Bool.or_eq_true, beq_iff_eq] at c1
      rcases c1 with z | z
      · have : xs = [] := List.eq_nil_of_length_eq_zero (by
          rw [← hle]
          simpa using z)
        rw [this]
        simp
      · have : k = 1 := by omega
        rw [this]
        simp
    · have c1' := Bool.eq_false_iff.mpr c1
      have hk0 : k = 0 := by
        rw [Bool.or_eq_false_iff] at c1'
        have ne : xs ≠ [] := fun z => by
          rw [z] at hle
          have : its = [] := List.eq_nil_of_length_eq_zero hle
          rw [this] at c1'
          exact absurd c1'.1 (by decide)
        have k1 : (k : Int) ≠ 1 := beq_eq_false_iff_ne.mp c1'.2
        have : ¬ 2 ≤ k := fun z => big ⟨ne, z⟩
        omega
      subst hk0
      refine wpAny_binaryOp_repeat_ref (T := "tuple") (U := "int") (by decide) ⟨_, ho, rfl⟩ (fun s' => typeIs_int s' _ t) noFill_tuple_mul F.fills_int_mul F.slot_int_rmul repeat_tuple F.slot_int_index.lookup
        (call_meets F.slot_int_rmul (typeIs_int s _ t) F.entry_int_rmul (F.args_int_rmul_2 _ _) (int_rmul_tuple _ t l its.toArray n dd sl)
          ⟨ho, rfl, ⟨_, ho, rfl⟩, call_meets F.slot_tuple_mul ⟨_, ho, rfl⟩ F.entry_tuple_mul (F.args_tuple_mul_2 _ _) (mulT_zero l its.toArray n dd sl _ t c0 c1' (by rw [decide_eq_true (by decide), Bool.true_or])) ⟨ho, ?_⟩⟩)
      refine ⟨.ref s.heap.objs.size, _, I.laid (t' := s.toks) (o := .tup []) (fun b ob q => Heap.get?_push_of_some _ q) (Nat.le_refl _) ?_, rfl, q _ _ (same_new (I.hok.fresh (Nat.le_refl _))) upd_same⟩
      exact ⟨Nat.zero_le _, _, .nil, IsTup.new _ _⟩
end
end Gk

namespace K23
open PySem PySem.Spec PyProof.Rows L2 Gk
def topS (i : Nat) : Stmt := PySem.Challenge.pw_woundwalks_k23_rows_gone.main.body.getD i (.Pass ⟨0, 0, 0, 0⟩)
abbrev s_law_pot : Stmt := topS 8
theorem sc_law_pot : FnScope ["_law_script", "_law_k", "_law_cell", "_law_great"] ["_law_script", "_law_k"] (defScope s_law_pot) := ⟨rfl, rfl, rfl, by decide +kernel, rfl, by decide +kernel, by decide +kernel⟩

abbrev s_law_take : Stmt := topS 9
theorem sc_law_take : FnScope ["_law_pot_here", "_law_upto", "_law_digit"] ["_law_pot_here", "_law_upto"] (defScope s_law_take) := ⟨rfl, rfl, rfl, by decide +kernel, rfl, by decide +kernel, by decide +kernel⟩

abbrev s_law_of : Stmt := topS 10
theorem sc_law_of : FnScope ["_law_pot_here", "_law_some"] ["_law_pot_here", "_law_some"] (defScope s_law_of) := ⟨rfl, rfl, rfl, by decide +kernel, rfl, by decide +kernel, by decide +kernel⟩

abbrev FnP (K : PySem.W.Frag) (x : Str) (st : Stmt) (f : Addr) (fd : FuncData) : Prop := FunD K x x (defArgs st) (defBody st) (defScope st) [] [] f fd
section
variable {P : Program} {w : World} {K : PySem.W.Frag} {mg : Str → Option Value} {base : Heap} {f : Addr} {fd : FuncData}

/-! ### the pot -/
def Pot (H : Hp) (p : Addr) : Prop := ∃ g r : Int, H p = some (.lst [.int g, .int r]) ∧ 0 ≤ g ∧ 0 ≤ r ∧ r < 2305843009213693951
theorem Pot.lst {H : Hp} {p : Addr} (h : Pot H p) : Lists [p] H := fun a m => by
  obtain ⟨g, r, e, _⟩ := h
  rw [List.mem_singleton.mp m]
  exact ⟨_, e⟩
theorem Pot.same {H H' : Hp} {p : Addr} (h : Pot H p) (s : Same H H') : Pot H' p := let ⟨g, r, e, q⟩ := h; ⟨g, r, s _ _ e, q⟩

def spPot (K : PySem.W.Frag) : Sp := fun vs H Q _ => ∃ (a : Addr) (ns : List Int) (k : Nat), vs = [.ref a, .int (k : Int)] ∧ SqL K H a (ns.map V.int) ∧ ns.length ≤ 63 ∧ k ≤ 63 ∧
  ∀ p H', H p = none → Same H H' → Pot H' p → Q (.ref p) H'
theorem zero_rep (n : Nat) : repS "0" n = ⟨(List.replicate n 48).toArray⟩ := by
  unfold repS
  have e : ("0" : Str).cps.toList = [48] := rfl
  rw [e]
  congr 2
  induction n with
  | zero => rfl
  | succ n ih => rw [List.replicate_succ, List.flatten_cons, ih, List.replicate_succ]; rfl
theorem one_cat (l : List Nat) : ("1" : Str) ++ (⟨l.toArray⟩ : Str) = ⟨(49 :: l).toArray⟩ := by
  have e : ("1" : Str) = ⟨#[49]⟩ := rfl
  rw [e]
  show (⟨#[49] ++ l.toArray⟩ : Str) = _
  simp
theorem big_is : ("1" : Str) ++ repS "0" 900 = bigS := by
  rw [zero_rep]
  exact one_cat _
theorem b01 (b : Bool) : -(2 ^ 64) < (if b = true then (1 : Int) else 0) ∧ (if b = true then (1 : Int) else 0) < 2 ^ 64 := by
  cases b <;> exact ⟨by decide, by decide⟩
theorem b0 (b : Bool) : 0 ≤ (if b = true then (1 : Int) else 0) := by cases b <;> decide
theorem ok_pot (F : FnP K "_law_pot" s_law_pot f fd) (B : Bi mg) (hd : PySem.W.nsIn K cStatics "sys.int_max_str_digits" = some none) :
    FnOk P w K mg base CX0 1 f fd ["_law_script", "_law_k"] (spPot K) := by
  refine F.ok sc_law_pot (fun vs H Q E h => ?_) (fun cdv A outer s H vs Q E hr h => ?_)
  · obtain ⟨a, ns, k, rfl, _⟩ := h
    rfl
  · obtain ⟨a, ns, k, rfl, hS, hl, hk, q⟩ := h
    refine ⟨_, PSs.nox ((pss_cons (ps_set (i := 2) sc_law_pot.nd rfl (Or.inl rfl) (pe_op op_add (pe_op op_mul pe_int (pv 1)) (pe_callB call_len_seq (by rfl) B.len (by decide +kernel) (pa_cons (pv 0) pa_nil))))
      (C8.pss_cut (ps_if (pt_cmpR op_lt (pv 1) (pe_callB call_len_seq (by rfl) B.len (by decide +kernel) (pa_cons (pv 0) pa_nil)) (nomark _)) (pss_one (ps_set (i := 2) sc_law_pot.nd rfl (Or.inl rfl) (pe_ix ix_list (pv 0) (pv 1) (fun _ _ => rfl)))) pss_nil)
      (pss_cons (ps_set (i := 3) sc_law_pot.nd rfl (Or.inl rfl) (pe_op op_mul (pe_op op_mod (pe_callB call_abs (by rfl) B.abs (by decide +kernel) (pa_cons (pv 2) pa_nil)) (pe_callTy (call_bigInt hd) (by rfl) B.int (by decide +kernel) (pa_cons (pe_op op_add_str pe_str (pe_op op_mulStr pe_str pe_int)) pa_nil))) (pe_callTy call_int1 (by rfl) B.int (by decide +kernel) (pa_cons (pe_cmpR op_ge (pe_callB call_abs (by rfl) B.abs (by decide +kernel) (pa_cons (pv 2) pa_nil)) (pe_op op_pow pe_int pe_int) (nomark _)) pa_nil))))
      (pss_one (ps_ret (pe_lst (pa_cons (pv 3) (pa_cons (pe_op op_mod (pe_op op_mul (pe_op op_add (pe_op op_add (pe_op op_mod (pv 2) pe_int) (pe_op op_mul (pe_op op_mul pe_int (pv 1)) (pv 1))) pe_int) pe_int) pe_int) pa_nil))))))))), ?_⟩
    -- the cell
    refine ⟨_, rfl, _, _, rfl, rfl, .inl ⟨by decide, by decide⟩, _, rfl, _, _, rfl, .inl hS, _, _, rfl, rfl, ?_⟩
    refine ⟨fun σ H' => H' = H ∧ ∃ c : Int, σ = [some (.ref a), some (.int (k : Int)), some (.int c), none], ?_, ?_⟩
    · refine ⟨_, rfl, _, rfl, _, _, rfl, .inl hS, _, _, rfl, rfl, _, rfl, ite2 (fun e => ?_) (fun e => ?_)⟩
      · have hlt : k < ns.length := by
          have z := of_decide_eq_true e
          rw [List.length_map] at z
          omega
        refine ⟨_, rfl, _, rfl, a, _, _, _, rfl, rfl, hS, atI_nat (j := k) (by rw [List.getElem?_map, List.getElem?_eq_getElem hlt]; rfl), ?_⟩
        exact ⟨rfl, _, rfl⟩
      · exact ⟨rfl, _, rfl⟩
    · rintro σ H' ⟨rfl, c, rfl⟩
      -- the great part
      refine ⟨_, rfl, _, rfl, ?_⟩
      refine ⟨"0", 900, rfl, rfl, by decide +kernel, by decide, by decide, "1", _, rfl, rfl, ?_, ?_, fun n hn => ?_⟩
      · rw [repS_length]; decide
      · rw [big_is]
      · refine ⟨_, _, rfl, rfl, hn, _, rfl, _, rfl, _, _, rfl, rfl, ⟨by decide, by decide, by decide⟩, _, _, rfl, rfl, .inr ⟨_, rfl, ?_⟩⟩
        refine ⟨_, _, rfl, rfl, .inr ?_, ?_⟩
        · exact b01 _
        -- the list
        refine ⟨_, rfl, _, rfl, _, _, rfl, rfl, (by show (0 : Int) < _; decide), _, rfl, _, _, rfl, rfl, .inl ⟨by decide, by decide⟩, _, rfl, _, _, rfl, rfl, .inl ⟨by omega, by omega⟩, _, _, rfl, rfl, _, _, rfl, rfl, _, _, rfl, rfl, .inr ⟨by decide, by decide⟩, _, _, rfl, rfl, (by show (0 : Int) < _; decide), (by show 2 ≤ sizeLine; decide), fun p hp => ?_⟩
        refine q p _ hp (same_new hp) ⟨_, _, upd_same, ?_, Int.emod_nonneg _ (by decide), Int.emod_lt_of_pos _ (by decide)⟩
        apply Int.mul_nonneg
        · exact Int.emod_nonneg _ (by omega)
        · exact b0 _

/-! ### a draw -/
def spTake : Sp := fun vs H Q _ => ∃ (p : Addr) (n : Nat), vs = [.ref p, .int (n : Int)] ∧ Pot H p ∧ 1 ≤ n ∧ n < 1000000 ∧
  ∀ (d : Nat) H', d < n → Keep [p] H H' → Pot H' p → Q (.int (d : Int)) H'
theorem nat_of {d n : Int} (h0 : 0 ≤ d) (h1 : d < n) : ∃ e : Nat, d = e ∧ (e : Int) < n := ⟨d.toNat, by omega, by omega⟩
theorem ok_take (F : FnP K "_law_take" s_law_take f fd) : FnOk P w K mg base CX0 1 f fd ["_law_pot_here", "_law_upto"] spTake := by
  refine F.ok sc_law_take (fun vs H Q E h => ?_) (fun cdv A outer s H vs Q E hr h => ?_)
  · obtain ⟨p, n, rfl, _⟩ := h
    rfl
  · obtain ⟨p, n, rfl, ⟨g, r, hp, hg, hr0, hr1⟩, h1, h2, q⟩ := h
    have hS : SqL K H p [.int g, .int r] := .inl (.inl hp)
    refine ⟨_, PSs.nox ((pss_cons (ps_if (pt_cmpR op_gt (pe_ix ix_list (pv 0) pe_int (fun _ _ => rfl)) pe_int (nomark _)) (pss_cons (ps_set (i := 2) sc_law_take.nd rfl (Or.inl rfl) (pe_op op_mod (pe_ix ix_list (pv 0) pe_int (fun _ _ => rfl)) (pv 1)))
      (pss_cons (ps_asg (pe_op op_fdiv (pe_ix ix_list (pv 0) pe_int (fun _ _ => rfl)) (pv 1)) (pg_sub (pv 0) pe_int set_list))
      (pss_one (ps_ret (pv 2))))) pss_nil)
      (pss_cons (ps_asg (pe_op op_mod (pe_op op_add (pe_op op_mul (pe_ix ix_list (pv 0) pe_int (fun _ _ => rfl)) pe_int) pe_int) pe_int) (pg_sub (pv 0) pe_int set_list))
      (pss_one (ps_ret (pe_op op_mod (pe_op op_fdiv (pe_op op_mod (pe_op op_mul (pe_op op_fdiv (pe_ix ix_list (pv 0) pe_int (fun _ _ => rfl)) pe_int) (pe_op op_add (pe_op op_mod (pe_ix ix_list (pv 0) pe_int (fun _ _ => rfl)) pe_int) pe_int)) pe_int) pe_int) (pv 1))))))), ?_⟩
    refine ⟨_, rfl, _, _, _, _, rfl, rfl, hS, rfl, _, _, rfl, rfl, _, rfl, ite2 (fun e => ?_) (fun e => ?_)⟩
    · -- a digit of the great part
      refine ⟨_, rfl, _, _, _, _, rfl, rfl, hS, rfl, _, rfl, _, _, rfl, rfl, (by show (0 : Int) < n; omega), ?_⟩
      refine ⟨_, rfl, _, _, _, _, rfl, rfl, hS, rfl, _, rfl, _, _, rfl, rfl, ⟨by omega, by omega⟩, ?_⟩
      refine ⟨_, rfl, p, _, _, 0, rfl, rfl, hp, rfl, ?_⟩
      obtain ⟨d, e1, e2⟩ := nat_of (Int.emod_nonneg g (show (n : Int) ≠ 0 by omega)) (Int.emod_lt_of_pos g (show (0 : Int) < n by omega))
      refine ⟨_, rfl, ?_⟩
      show Q (.int (g % (n : Int))) _
      rw [e1]
      refine q d _ (by omega) (keep_at (List.mem_singleton.mpr rfl)) ⟨_, _, upd_same, ?_, hr0, hr1⟩
      exact Int.ediv_nonneg hg (by omega)
    · -- the lesser part
      refine ⟨_, rfl, _, _, _, _, rfl, rfl, hS, rfl, _, _, rfl, rfl, .inr ⟨by decide, by decide⟩, _, _, rfl, rfl, _, _, rfl, rfl, (by show (0 : Int) < _; decide), ?_⟩
      refine ⟨_, rfl, p, _, _, 1, rfl, rfl, hp, rfl, ?_⟩
      have b0 := Int.emod_nonneg (r * 1181783497276652981 + 12345678910987) (show (2305843009213693951 : Int) ≠ 0 by decide)
      have b1 := Int.emod_lt_of_pos (r * 1181783497276652981 + 12345678910987) (show (0 : Int) < 2305843009213693951 by decide)
      have hp2 : ∀ m : Int, upd H p (.lst [.int g, .int m]) p = some (.lst [.int g, .int m]) := fun m => upd_same
      have hS2 : ∀ m : Int, SqL K (upd H p (.lst [.int g, .int m])) p [.int g, .int m] := fun m => .inl (.inl (hp2 m))
      refine ⟨_, rfl, _, _, _, _, rfl, rfl, hS2 _, rfl, _, _, rfl, rfl, ⟨by decide, by decide⟩, _, rfl, _, _, _, _, rfl, rfl, hS2 _, rfl, _, _, rfl, rfl, (by show (0 : Int) < _; decide), _, _, rfl, rfl, ?_⟩
      refine ⟨_, _, rfl, rfl, .inl ⟨?_, ?_⟩, _, _, rfl, rfl, (by show (0 : Int) < _; decide), _, _, rfl, rfl, ⟨by decide, by decide⟩, _, rfl, _, _, rfl, rfl, (by show (0 : Int) < n; omega), ?_⟩
      · omega
      · omega
      · generalize hm : (r * 1181783497276652981 + 12345678910987) % 2305843009213693951 = m at b0 b1
        obtain ⟨d, e1, e2⟩ := nat_of (Int.emod_nonneg (m / 65537 * (m % 65537 + 3) % 2305843009213693921 / 97) (show (n : Int) ≠ 0 by omega)) (Int.emod_lt_of_pos (m / 65537 * (m % 65537 + 3) % 2305843009213693921 / 97) (show (0 : Int) < n by omega))
        show Q (.int (m / 65537 * (m % 65537 + 3) % 2305843009213693921 / 97 % (n : Int))) (upd H p (.lst [.int g, .int ((r * 1181783497276652981 + 12345678910987) % 2305843009213693951)]))
        rw [hm, e1]
        exact q d _ (by omega) (keep_at (List.mem_singleton.mpr rfl)) ⟨_, _, hp2 m, hg, b0, b1⟩

/-! ### one of some -/
def spOf (K : PySem.W.Frag) : Sp := fun vs H Q _ => ∃ p : Addr, Pot H p ∧
  ((∃ (l : Addr) (xs : List V), vs = [.ref p, .ref l] ∧ l ≠ p ∧ H l = some (.lst xs) ∧ 1 ≤ xs.length ∧ xs.length < 1000000 ∧
      ∀ x H', x ∈ xs → Keep [p] H H' → Pot H' p → Q x H') ∨
   (∃ z : Str, vs = [.ref p, .str z] ∧ 1 ≤ z.length ∧ z.length < 1000000 ∧
      ∀ (c : Nat) H', c ∈ z.cps.toList → Keep [p] H H' → Pot H' p → Q (.str ⟨#[c]⟩) H'))
theorem ok_of (F : FnP K "_law_of" s_law_of f fd) (B : Bi mg) (c_law_take : Cl P w K mg base 1 "_law_take" ["_law_pot_here", "_law_upto"] spTake) :
    FnOk P w K mg base CX0 2 f fd ["_law_pot_here", "_law_some"] (spOf K) := by
  refine F.ok sc_law_of (fun vs H Q E h => ?_) (fun cdv A outer s H vs Q E hr h => ?_)
  · obtain ⟨p, _, ⟨l, xs, rfl, _⟩ | ⟨z, rfl, _⟩⟩ := h <;> rfl
  · obtain ⟨p, hp, h⟩ := h
    refine ⟨_, PSs.nox ((pss_one (ps_ret (pe_ix ix_seq (pv 1) (pe_cl c_law_take hr (by decide) (by rfl) (pa_cons (pv 0) (pa_cons (pe_callB call_len (by rfl) B.len (by decide +kernel) (pa_cons (pv 1) pa_nil)) pa_nil))) (fun _ _ => rfl))))), ?_⟩
    rcases h with ⟨l, xs, rfl, hn, hl, h1, h2, q⟩ | ⟨z, rfl, h1, h2, q⟩
    · refine ⟨_, rfl, _, rfl, _, rfl, _, _, rfl, .inl ⟨xs, .inl (.inl hl), rfl⟩, ?_⟩
      refine ⟨p, xs.length, rfl, hp, h1, h2, fun d H' hd k hp' => ?_⟩
      have hl' := k l _ (fun z => hn (List.mem_singleton.mp z)) hl
      refine .inl ⟨l, xs, _, _, rfl, rfl, .inl (.inl hl'), atI_nat (j := d) (List.getElem?_eq_getElem hd), ?_⟩
      exact q _ H' (List.getElem_mem hd) k hp'
    · have hz : z.length ≤ sizeLine := by rw [sizeLine_eq]; omega
      refine ⟨_, rfl, _, rfl, _, rfl, _, _, rfl, ⟨hz, rfl⟩, ?_⟩
      refine ⟨p, z.length, rfl, hp, h1, h2, fun d H' hd k hp' => ?_⟩
      have hd' : d < z.cps.toList.length := by rw [Array.length_toList]; exact hd
      refine .inr (.inr ⟨z, _, _, rfl, rfl, hz, atI_nat (j := d) (List.getElem?_eq_getElem hd'), ?_⟩)
      exact q _ H' (List.getElem_mem hd') k hp'
end
def lettersS : Str := "abcdefghijklmnopqrstuvwxyz"
theorem str_line {x : Str} (h : x.length ≤ 100000) : x.length ≤ sizeLine := by rw [sizeLine_eq]; omega
theorem len_line {n : Nat} (h : n ≤ 100000) : n < sizeLine := by rw [sizeLine_eq]; omega
theorem same_in {H H1 : Hp} {D : Addr} {o : HO} (s : Same H H1) (h : H D = none) : Same H (upd H1 D o) := fun b u hu => by
  rw [upd_ne (ne_of_none hu h)]
  exact s b u hu
/-! ### texts -/
def Tx (n : Nat) (x : Str) : Prop := x.length ≤ n ∧ ∀ c ∈ x.cps.toList, c < 1000000
theorem Tx.mono {n m : Nat} {x : Str} (h : Tx n x) (l : n ≤ m) : Tx m x := ⟨Nat.le_trans h.1 l, h.2⟩
theorem Tx.cat {n m : Nat} {x y : Str} (h : Tx n x) (k : Tx m y) : Tx (n + m) (x ++ y) := by
  refine ⟨?_, fun c hc => ?_⟩
  · rw [strLen_append]
    have := h.1
    have := k.1
    omega
  · have e : (x ++ y).cps.toList = x.cps.toList ++ y.cps.toList := by
      show (x.cps ++ y.cps).toList = _
      simp
    rw [e] at hc
    exact (List.mem_append.mp hc).elim (h.2 c) (k.2 c)
theorem Tx.cut {n : Nat} {x : Str} (h : Tx n x) (lo hi : Option Int) : Tx n (cutS x lo hi) := by
  refine ⟨Nat.le_trans (cutS_length x lo hi) h.1, fun c hc => h.2 c ?_⟩
  exact List.mem_of_mem_drop (List.mem_of_mem_take hc)
theorem Tx.rep {n : Nat} {x : Str} (h : Tx n x) (k : Nat) : Tx (k * n) (repS x k) := by
  refine ⟨?_, fun c hc => ?_⟩
  · rw [repS_length]
    exact Nat.mul_le_mul_left k h.1
  · obtain ⟨l, hl, hc⟩ := List.mem_flatten.mp hc
    exact h.2 c (by rw [List.mem_replicate] at hl; rw [hl.2] at hc; exact hc)
theorem Tx.one {c : Nat} (h : c < 1000000) : Tx 1 ⟨#[c]⟩ := ⟨Nat.le_refl 1, fun e he => by
  have : e = c := by simpa using he
  rw [this]; exact h⟩
theorem letters_small : ∀ c ∈ lettersS.cps.toList, c < 1000000 := by decide +kernel
theorem upper_small : ∀ c ∈ lettersS.cps.toList, ∀ e ∈ Unicode.upperOf c, e < 1000000 := by decide +kernel
/-- a name as it is drawn -/
def Nm (x : Str) : Prop := 1 ≤ x.length ∧ x.length ≤ 6 ∧ ∀ c ∈ x.cps.toList, c ∈ lettersS.cps.toList
theorem Nm.tx {x : Str} (h : Nm x) : Tx 6 x := ⟨h.2.1, fun c hc => letters_small c (h.2.2 c hc)⟩
theorem Nm.up {x : Str} (h : Nm x) : Tx 18 (Txt.upper x) := by
  refine ⟨?_, fun c hc => ?_⟩
  · have := len_upper x
    have := h.2.1
    omega
  · have hc' : c ∈ (x.cps.mapIdx fun _ c => (Unicode.upperOf c).toArray).flatten := Array.mem_toList_iff.mp hc
    rw [Array.mem_flatten] at hc'
    obtain ⟨l, hl, hc'⟩ := hc'
    rw [Array.mem_mapIdx] at hl
    obtain ⟨i, hi, rfl⟩ := hl
    exact upper_small _ (h.2.2 _ (Array.mem_toList_iff.mpr (Array.getElem_mem hi))) c (by simpa using hc')
theorem join_one {ys : List Str} (h : ∀ y ∈ ys, ∃ c, y = ⟨#[c]⟩ ∧ c ∈ lettersS.cps.toList) :
    (Txt.join "" ys).length = ys.length ∧ ∀ c ∈ (Txt.join "" ys).cps.toList, c ∈ lettersS.cps.toList := by
  rw [TL.join_eq]
  induction ys with
  | nil => exact ⟨rfl, fun c hc => absurd hc List.not_mem_nil⟩
  | cons y r ih =>
    obtain ⟨c, rfl, hc⟩ := h y (List.mem_cons_self ..)
    have ih := ih fun z hz => h z (List.mem_cons_of_mem _ hz)
    cases r with
    | nil => exact ⟨rfl, fun e he => by
        have : e = c := by simpa [Str.join] using he
        rw [this]; exact hc⟩
    | cons z r =>
      have e : Str.join "" (⟨#[c]⟩ :: z :: r) = (⟨#[c]⟩ ++ "" ++ Str.join "" (z :: r) : Str) := rfl
      rw [e]
      refine ⟨?_, fun e he => ?_⟩
      · rw [strLen_append, strLen_append, ih.1]
        show 1 + 0 + (r.length + 1) = r.length + 1 + 1
        omega
      · have q : ((⟨#[c]⟩ : Str) ++ "" ++ Str.join "" (z :: r)).cps.toList = c :: (Str.join "" (z :: r)).cps.toList := by
          show ((#[c] ++ #[]) ++ (Str.join "" (z :: r)).cps).toList = _
          simp
        rw [q] at he
        rcases List.mem_cons.mp he with z' | z'
        · rw [z']; exact hc
        · exact ih.2 e z'
theorem small_of {z : Str} {c : Nat} (hc : c ∈ z.cps.toList) (h : z.cps.toList.all (fun c => decide (c < 1000000)) = true) : c < 1000000 :=
  of_decide_eq_true (List.all_eq_true.mp h c hc)
theorem Pot.ne {H : Hp} {p l : Addr} (h : Pot H p) (hl : H l = none) : l ≠ p := fun e => by
  obtain ⟨g, r, z, _⟩ := h
  rw [← e, hl] at z
  cases z
theorem lists_fresh {N : List Addr} {H : Hp} {l : Addr} (h : Lists N H) (hl : H l = none) : l ∉ N := fun m => by
  obtain ⟨xs, e⟩ := h l m
  rw [hl] at e
  cases e
theorem lists_keep {N : List Addr} {H H' : Hp} {p : Addr} (h : Lists N H) (k : Keep [p] H H') (hp : Pot H' p) : Lists N H' := fun a m => by
  by_cases e : a = p
  · rw [e]
    obtain ⟨g, r, z, _⟩ := hp
    exact ⟨_, z⟩
  · obtain ⟨xs, z⟩ := h a m
    exact ⟨xs, k a _ (fun z => e (List.mem_singleton.mp z)) z⟩
theorem lists_same {N : List Addr} {H H' : Hp} (h : Lists N H) (s : Same H H') : Lists N H' := fun a m => by
  obtain ⟨xs, z⟩ := h a m
  exact ⟨xs, s a _ z⟩
theorem line {n : Nat} (h : n ≤ 100000) : n ≤ sizeLine := by rw [sizeLine_eq]; omega

theorem shown_z {z : Str} (h : Tx 6 z) : (PyData.str z).shown.length ≤ 62 := by
  have := StrLaws.reprText_len z fun c hc => Nat.lt_of_lt_of_le (h.2 c hc) (by decide)
  have := h.1
  show (reprText z).length ≤ 62
  omega
/-! ### tuples put together, cut -/
section
variable {X : Cx}
theorem opr_imp {g : Value → Value → Sem Value} {r r' : R2} (h : OpR X g r) (i : ∀ x y H Q, r' x y H Q → r x y H Q) : OpR X g r' :=
  fun pins s σ H x y v u Q I rx ry q => h pins s σ H x y v u Q I rx ry (i _ _ _ _ q)
theorem op_catU : OpR X (binaryOp .Add) (fun x y H Q => ∃ a b xs ys, x = .ref a ∧ y = .ref b ∧ H a = some (.tup xs) ∧ H b = some (.tup ys) ∧ xs.length + ys.length ≤ sizeLine ∧
    ∀ u H', Same H H' → H' u = some (.tup (xs ++ ys)) → Q (.ref u) H') :=
  opr_imp op_catA fun x y H Q h => by
    obtain ⟨a, b, xs, ys, e1, e2, ha, hb, hl, q⟩ := h
    refine ⟨a, b, xs, ys, e1, e2, .inl (.inl ha), .inl (.inl hb), hl, fun e => ?_, fun _ e => ?_, fun _ _ p hp => ?_⟩
    · exact q b H (Same.refl H) (by rw [e, List.nil_append]; exact hb)
    · exact q a H (Same.refl H) (by rw [e, List.append_nil]; exact ha)
    · exact q p _ (same_new hp) upd_same
theorem sl_tupU : SlR X (fun x lo hi H Q => ∃ a xs, x = .ref a ∧ H a = some (.tup xs) ∧ ∀ u H', Same H H' → H' u = some (.tup (cutV xs lo hi)) → Q (.ref u) H') := by
  intro pins s σ H x v vl vu lo hi sl Q I rx hs pl pu q
  refine sl_tupA pins s σ H x v vl vu lo hi sl Q I rx hs pl pu ?_
  obtain ⟨a, xs, e, ha, q⟩ := q
  refine ⟨a, xs, e, .inl (.inl ha), fun z => ?_, fun _ p hp => q p _ (same_new hp) upd_same⟩
  refine q a H (Same.refl H) ?_
  have ec : cutV xs lo hi = xs := by
    unfold cutV
    rw [z.1, z.2, List.drop_zero, Nat.sub_zero, List.take_length]
  rw [ec]
  exact ha
end
/-! ### what can be shown -/
theorem all_sh : ∀ {ds : List PyData}, (∀ d ∈ ds, d.showable = true) → PyData.showableAll ds = true
  | [], _ => rfl
  | d :: ds, h => by
    simp only [PyData.showableAll, h d (List.mem_cons_self ..), all_sh fun e he => h e (List.mem_cons_of_mem _ he), Bool.and_self]
theorem all_dp {k : Nat} : ∀ {ds : List PyData}, (∀ d ∈ ds, d.depth ≤ k) → PyData.depthAll ds ≤ k
  | [], _ => by simp only [PyData.depthAll]; omega
  | d :: ds, h => by
    have h1 := h d (List.mem_cons_self ..)
    have h2 := all_dp fun e he => h e (List.mem_cons_of_mem _ he)
    simp only [PyData.depthAll]
    omega
theorem all_nd : ∀ {ds : List PyData}, (∀ d ∈ ds, d.hasDict = false) → PyData.hasDictAll ds = false
  | [], _ => rfl
  | d :: ds, h => by
    simp only [PyData.hasDictAll, h d (List.mem_cons_self ..), all_nd fun e he => h e (List.mem_cons_of_mem _ he), Bool.or_self]
theorem all_ll : ∀ {ds : List PyData}, (∀ d ∈ ds, listless d = true) → listlessA ds = true
  | [], _ => rfl
  | d :: ds, h => by
    simp only [listlessA, h d (List.mem_cons_self ..), all_ll fun e he => h e (List.mem_cons_of_mem _ he), Bool.and_self]
theorem tup_shows {ds : List PyData} {n k m : Nat} (h1 : ∀ d ∈ ds, d.showable = true) (h2 : ∀ d ∈ ds, d.depth ≤ k) (h3 : ∀ d ∈ ds, d.shown.length ≤ n) (hk : k ≤ 20) (hl : ds.length ≤ m) (hm : m * (n + 2) + 3 ≤ 16000000)
    (h4 : (∀ d ∈ ds, d.hasDict = false) ∨ ∀ d ∈ ds, listless d = true) : Shows (.tuple ds) := by
  refine ⟨all_sh h1, ?_, ?_, ?_⟩
  · have := all_dp h2
    simp only [PyData.depth]
    omega
  · have := shown_tuple_le h3
    have := Nat.mul_le_mul_right (n + 2) hl
    omega
  · rcases h4 with h | h
    · exact .inl (all_nd h)
    · exact .inr (all_ll h)
theorem lst_shows {ds : List PyData} {n k m : Nat} (h1 : ∀ d ∈ ds, d.showable = true) (h2 : ∀ d ∈ ds, d.depth ≤ k) (h3 : ∀ d ∈ ds, d.shown.length ≤ n) (hk : k ≤ 20) (hl : ds.length ≤ m) (hm : m * (n + 2) + 3 ≤ 16000000)
    (h4 : ∀ d ∈ ds, d.hasDict = false) : Shows (.list ds) := by
  refine ⟨all_sh h1, ?_, ?_, .inl (all_nd h4)⟩
  · have := all_dp h2
    simp only [PyData.depth]
    omega
  · have := shown_list_le h3
    have := Nat.mul_le_mul_right (n + 2) hl
    omega
theorem Keep.trans' {N : List Addr} {H H1 H2 : Hp} (s : Same H H1) (k : Keep N H1 H2) : Keep N H H2 := (Keep.of s).trans k
theorem Keep.at {H H' : Hp} {p l : Addr} {o : HO} (k : Keep [p] H H') (n : l ≠ p) (h : H l = some o) : H' l = some o := k l o (fun z => n (List.mem_singleton.mp z)) h
end K23

namespace K23
open PySem PySem.Spec PyProof.Rows L2 Gk
abbrev s_law_names : Stmt := topS 11
theorem sc_law_names : FnScope ["_law_pot_here", "_law_many", "_law_stem", "_law_at", "_law_first", "_law_leap", "_law_letters", "_law_k", "_law_letter"] ["_law_pot_here", "_law_many"] (defScope s_law_names) := ⟨rfl, rfl, rfl, by decide +kernel, rfl, by decide +kernel, by decide +kernel⟩

section
variable {P : Program} {w : World} {K : PySem.W.Frag} {mg : Str → Option Value} {base : Heap} {f : Addr} {fd : FuncData}
theorem six_in : ∀ c ∈ ("abcxyz" : Str).cps.toList, c ∈ lettersS.cps.toList := by decide +kernel
theorem Pot.upd {H : Hp} {p l : Addr} {o : HO} (h : Pot H p) (n : l ≠ p) : Pot (upd H l o) p := by
  obtain ⟨g, r, e, b⟩ := h
  exact ⟨g, r, by rw [upd_ne n.symm]; exact e, b⟩
theorem keep_new {H H1 : Hp} {N : List Addr} {D : Addr} {o : HO} (k : Keep N H H1) (n : H D = none) : Keep N H (L2.upd H1 D o) := fun b u hb hu => by
  rw [upd_ne (ne_of_none hu n)]
  exact k b u hb hu
/-- letters put in a text -/
def Ls (n : Nat) (x : Str) : Prop := x.length ≤ n ∧ ∀ c ∈ x.cps.toList, c ∈ lettersS.cps.toList
theorem Ls.cat {n m : Nat} {x y : Str} (h : Ls n x) (k : Ls m y) : Ls (n + m) (x ++ y) := by
  refine ⟨by rw [strLen_append]; exact Nat.add_le_add h.1 k.1, fun c hc => ?_⟩
  have e : (x ++ y).cps.toList = x.cps.toList ++ y.cps.toList := by
    show (x.cps ++ y.cps).toList = _
    simp
  rw [e] at hc
  exact (List.mem_append.mp hc).elim (h.2 c) (k.2 c)
theorem Ls.cut {n : Nat} {x : Str} (h : Ls n x) (lo hi : Option Int) : Ls n (cutS x lo hi) :=
  ⟨Nat.le_trans (cutS_length x lo hi) h.1, fun c hc => h.2 c (List.mem_of_mem_drop (List.mem_of_mem_take hc))⟩
theorem cut_both (x : Str) (k : Nat) : (cutS x none (some (k : Int))).length + (cutS x (some (k : Int)) none).length = x.length := by
  show (List.take _ _).toArray.size + (List.take _ _).toArray.size = _
  rw [List.size_toArray, List.size_toArray, List.length_take, List.length_take, List.length_drop, List.length_drop, Array.length_toList]
  have e1 : HT.sIx x.length x.length (some (k : Int)) = min k x.length := HT.sIx_nat _ _ k
  have e2 : HT.sIx x.length 0 (some (k : Int)) = min k x.length := HT.sIx_nat _ _ k
  have e3 : HT.sIx x.length 0 none = 0 := rfl
  have e4 : HT.sIx x.length x.length none = x.length := rfl
  rw [e1, e2, e3, e4]
  show min (min k x.cps.size - 0) (x.cps.size - 0) + min (x.cps.size - min k x.cps.size) (x.cps.size - min k x.cps.size) = x.cps.size
  omega
def spNames : Sp := fun vs H Q _ => ∃ (p : Addr) (m : Nat), vs = [.ref p, .int (m : Int)] ∧ Pot H p ∧ m ≤ 26 ∧
  ∀ l (zs : List Str) H', zs.length = m → (∀ z ∈ zs, Nm z) → l ≠ p → H l = none → H' l = some (.lst (zs.map V.str)) → Keep [p] H H' → Pot H' p → Q (.ref l) H'
theorem ok_names (F : FnP K "_law_names" s_law_names f fd) (B : Bi mg) (c_law_of : Cl P w K mg base 2 "_law_of" ["_law_pot_here", "_law_some"] (spOf K))
    (c_law_take : Cl P w K mg base 1 "_law_take" ["_law_pot_here", "_law_upto"] spTake) :
    FnOk P w K mg base CX0 3 f fd ["_law_pot_here", "_law_many"] spNames := by
  refine F.ok sc_law_names (fun vs H Q E h => ?_) (fun cdv A outer s H vs Q E hr h => ?_)
  · obtain ⟨p, m, rfl, _⟩ := h
    rfl
  · obtain ⟨p, m, rfl, hp, hm, q⟩ := h
    refine ⟨_, PSs.nox ((C8.pss_cut (ps_set (i := 2) sc_law_names.nd rfl (Or.inr rfl) (pe_join pe_str (pe_lc (own := [("_law_k", 7)]) (g := gName 7) (tt := tYes) rfl sc_law_names.nd (pi_range1 (by rfl) B.range (pa_cons (pe_cl c_law_take hr (by decide) (by rfl) (pa_cons (pv 0) (pa_cons pe_int pa_nil))) pa_nil)) (blkOk_by (own := [("_law_k", 7)]) (N := ["_law_pot_here", "_law_many", "_law_stem", "_law_at", "_law_first", "_law_leap", "_law_letters", "_law_k", "_law_letter"]) (sc := defScope s_law_names) (by decide +kernel)) (fun _ _ _ _ _ => (pg_name (i := 7) sc_law_names.nd rfl (Or.inl rfl))) (fun _ _ _ _ _ => pts_nil) (fun _ _ _ _ _ => (pe_cl c_law_of hr (by decide) (by rfl) (pa_cons (pv 0) (pa_cons (pe_callTy (call_listS rfl) (by rfl) B.list (by decide +kernel) (pa_cons pe_str pa_nil)) pa_nil)))))))
      (C8.pss_cut (ps_asg (pe_tup (pa_cons (pe_cl c_law_take hr (by decide) (by rfl) (pa_cons (pv 0) (pa_cons (pe_op op_add (pe_callB call_len (by rfl) B.len (by decide +kernel) (pa_cons (pv 2) pa_nil)) pe_int) pa_nil))) (pa_cons (pe_cl c_law_take hr (by decide) (by rfl) (pa_cons (pv 0) (pa_cons pe_int pa_nil))) (pa_cons (pe_cl c_law_of hr (by decide) (by rfl) (pa_cons (pv 0) (pa_cons (pe_lst (pa_cons pe_int (pa_cons pe_int (pa_cons pe_int (pa_cons pe_int (pa_cons pe_int (pa_cons pe_int pa_nil))))))) pa_nil))) pa_nil)))) (pg_tup rfl (pgs_cons (pg_name (i := 3) sc_law_names.nd rfl (Or.inr rfl)) (pgs_cons (pg_name (i := 4) sc_law_names.nd rfl (Or.inr rfl)) (pgs_cons (pg_name (i := 5) sc_law_names.nd rfl (Or.inr rfl)) pgs_nil)))))
      (C8.pss_cut (ps_setLc (i := 6) (own := [("_law_k", 7)]) (g := gName 7) (tt := tYes) (by rfl) sc_law_names.nd rfl rfl (sw_true rfl rfl rfl (by decide +kernel)) (pi_range1 (by rfl) B.range (pa_cons (pv 1) pa_nil)) (blkOk_by (own := [("_law_k", 7)]) (N := ["_law_pot_here", "_law_many", "_law_stem", "_law_at", "_law_first", "_law_leap", "_law_letters", "_law_k", "_law_letter"]) (sc := defScope s_law_names) (by decide +kernel)) (fun _ _ _ _ _ => (pg_name (i := 7) sc_law_names.nd rfl (Or.inl rfl))) (fun _ _ _ _ _ => pts_nil) (fun _ _ _ _ _ => (pe_ix ix_str pe_str (pe_op op_mod (pe_op op_add (pv 4) (pe_op op_mul (pv 5) (pv 7))) pe_int) (fun _ _ => rfl))))
      (pss_one (ps_ret (pe_callB cr_sortedS (by rfl) B.sorted (by decide +kernel) (pa_cons (pe_lc (own := [("_law_letter", 8)]) (g := gName 8) (tt := tYes) rfl sc_law_names.nd (pi_list (pv 6)) (blkOk_by (own := [("_law_letter", 8)]) (N := ["_law_pot_here", "_law_many", "_law_stem", "_law_at", "_law_first", "_law_leap", "_law_letters", "_law_k", "_law_letter"]) (sc := defScope s_law_names) (by decide +kernel)) (fun _ _ _ _ _ => (pg_name (i := 8) sc_law_names.nd rfl (Or.inl rfl))) (fun _ _ _ _ _ => pts_nil) (fun _ _ _ _ _ => (pe_op op_add_str (pe_op op_add_str (pe_slice sl_str (pv 2) po_none (po_some (pv 3))) (pv 8)) (pe_slice sl_str (pv 2) (po_some (pv 3)) po_none)))) pa_nil)))))))), ?_⟩
    refine ⟨fun σ H' => ∃ x, Ls 5 x ∧ Keep [p] H H' ∧ Pot H' p ∧ σ = [some (.ref p), some (.int (m : Int)), some (.str x), none, none, none, none, none, none], ?_, ?_⟩
    · -- the stem
      refine ⟨⟨_, rfl⟩, _, rfl, p, 6, rfl, hp, by decide, by decide, fun n H1 hn k1 hp1 => ?_⟩
      refine ⟨_, rfl, by omega, by omega, fun D hD => lc_range (lo := 0) (n := n) (fun i H' => ∃ ys : List Str, ys.length = i ∧ (∀ y ∈ ys, ∃ c, y = ⟨#[c]⟩ ∧ c ∈ lettersS.cps.toList) ∧ Keep [p] H1 H' ∧ Pot H' p ∧ H' D = some (.lst (ys.map V.str))) ?_ ?_ ?_⟩
      · exact ⟨[], rfl, fun y hy => (List.not_mem_nil hy).elim, Keep.of (same_new hD), hp1.same (same_new hD), upd_same⟩
      · rintro i H2 hi ⟨ys, el, hy, k2, hp2, e2⟩
        refine ⟨rfl, _, rfl, _, rfl, by decide, fun l hl => ?_⟩
        have sl := same_new (o := .lst (signsV "abcxyz")) hl
        refine ⟨p, hp2.same sl, .inl ⟨l, _, rfl, hp2.ne hl, upd_same, by decide, by decide, fun x H3 hx k3 hp3 => ?_⟩⟩
        obtain ⟨c, hc, rfl⟩ := List.mem_map.mp hx
        have hDp : D ≠ p := hp1.ne hD
        have e3 := Keep.at k3 hDp (sl _ _ e2)
        refine ⟨_, e3, ?_, ys ++ [⟨#[c]⟩], ?_, ?_, ?_, hp3.upd hDp, ?_⟩
        · rw [List.length_map, el]
          exact len_line (by omega)
        · rw [List.length_append, el]
          rfl
        · intro y hm
          rcases List.mem_append.mp hm with z | z
          · exact hy y z
          · exact ⟨c, List.mem_singleton.mp z, six_in c hc⟩
        · exact keep_new ((k2.trans (Keep.of sl)).trans k3) hD
        · rw [upd_same, List.map_append]
          rfl
      · rintro H2 ⟨ys, el, hy, k2, hp2, e2⟩
        have j := join_one hy
        have hsum : (ys.map (·.length)).sum = ys.length := by
          clear j e2 el
          induction ys with
          | nil => rfl
          | cons y r ih =>
            obtain ⟨c, rfl, _⟩ := hy y (List.mem_cons_self ..)
            rw [List.map_cons, List.sum_cons, ih fun z hz => hy z (List.mem_cons_of_mem _ hz), List.length_cons]
            show 1 + r.length = _
            omega
        refine ⟨_, D, ys, rfl, rfl, .inl (.inl (.inl e2)), ?_, ?_⟩
        · have : ("" : Str).length = 0 := rfl
          rw [this]
          omega
        · exact ⟨_, ⟨by rw [j.1]; omega, j.2⟩, k1.trans k2, hp2, rfl⟩
    · rintro _ Ha ⟨x, hx, ka, hpa, rfl⟩
      have lx := hx.1
      refine ⟨fun σ H' => ∃ (a b c : Nat), Keep [p] H H' ∧ Pot H' p ∧ a ≤ x.length ∧ σ = [some (.ref p), some (.int (m : Int)), some (.str x), some (.int (a : Int)), some (.int (b : Int)), some (.int (c : Int)), none, none, none], ?_, ?_⟩
      · refine ⟨_, rfl, _, rfl, _, _, rfl, ⟨line (by omega), rfl⟩, _, _, rfl, rfl, p, x.length + 1, rfl, hpa, by omega, by omega, fun a H1 ha k1 hp1 => ?_⟩
        refine ⟨_, rfl, p, 26, rfl, hp1, by decide, by decide, fun b H2 hb k2 hp2 => ?_⟩
        refine ⟨_, rfl, (by show 6 ≤ sizeLine; decide), fun l hl => ?_⟩
        have sl := same_new (o := .lst [.int 1, .int 3, .int 5, .int 7, .int 9, .int 11]) hl
        refine ⟨p, hp2.same sl, .inl ⟨l, _, rfl, hp2.ne hl, upd_same, by decide, by decide, fun y H3 hy k3 hp3 => ?_⟩⟩
        obtain ⟨c, rfl⟩ : ∃ c : Nat, y = .int (c : Int) := by
          simp only [List.mem_cons, List.not_mem_nil, or_false] at hy
          rcases hy with rfl | rfl | rfl | rfl | rfl | rfl
          · exact ⟨1, rfl⟩
          · exact ⟨3, rfl⟩
          · exact ⟨5, rfl⟩
          · exact ⟨7, rfl⟩
          · exact ⟨9, rfl⟩
          · exact ⟨11, rfl⟩
        refine ⟨(by show 3 ≤ sizeLine; decide), fun t ht => ?_⟩
        have st := same_new (o := .tup [.int (a : Int), .int (b : Int), .int (c : Int)]) ht
        refine ⟨t, _, rfl, .inl (.inl upd_same), rfl, _, _, rfl, _, _, rfl, _, _, rfl, rfl, ?_⟩
        exact ⟨a, b, c, ((((ka.trans k1).trans k2).trans (Keep.of sl)).trans k3).trans (Keep.of st), hp3.same st, by omega, rfl⟩
      · rintro _ Hb ⟨a, b, c, kb, hpb, ha, rfl⟩
        refine ⟨fun σ H' => ∃ (l : Addr) (ys : List Str), ys.length = m ∧ (∀ y ∈ ys, ∃ c, y = ⟨#[c]⟩ ∧ c ∈ lettersS.cps.toList) ∧ H' l = some (.lst (ys.map V.str)) ∧ Same Hb H' ∧ σ = [some (.ref p), some (.int (m : Int)), some (.str x), some (.int (a : Int)), some (.int (b : Int)), some (.int (c : Int)), some (.ref l), none, none], ?_, ?_⟩
        · refine ⟨_, rfl, _, rfl, by omega, by omega, fun D hD => lc_range (lo := 0) (n := m) (fun i H' => ∃ ys : List Str, ys.length = i ∧ (∀ y ∈ ys, ∃ c, y = ⟨#[c]⟩ ∧ c ∈ lettersS.cps.toList) ∧ Same Hb H' ∧ H' D = some (.lst (ys.map V.str))) ?_ ?_ ?_⟩
          · exact ⟨[], rfl, fun y hy => (List.not_mem_nil hy).elim, same_new hD, upd_same⟩
          · rintro i H2 hi ⟨ys, el, hy, s2, e2⟩
            have b0 := Int.emod_nonneg ((b : Int) + (c : Int) * (0 + (i : Int))) (show (26 : Int) ≠ 0 by decide)
            have b1 := Int.emod_lt_of_pos ((b : Int) + (c : Int) * (0 + (i : Int))) (show (0 : Int) < 26 by decide)
            obtain ⟨d, e1, hd⟩ := nat_of b0 b1
            have hdl : d < lettersS.cps.toList.length := by
              have : lettersS.cps.toList.length = 26 := by decide +kernel
              omega
            refine ⟨rfl, _, rfl, _, rfl, _, rfl, _, _, rfl, rfl, .inr ⟨by omega, by omega⟩, _, _, rfl, rfl, _, _, rfl, rfl, (by show (0 : Int) < _; decide), lettersS, _, lettersS.cps.toList[d], rfl, rfl, by decide, ?_, _, e2, ?_, ys ++ [⟨#[lettersS.cps.toList[d]]⟩], ?_, ?_, same_in s2 hD, ?_⟩
            · show atI lettersS.cps.toList (((b : Int) + (c : Int) * (0 + (i : Int))) % 26) = _
              rw [e1]
              exact atI_nat (j := d) (List.getElem?_eq_getElem hdl)
            · rw [List.length_map, el]
              exact len_line (by omega)
            · rw [List.length_append, el]
              rfl
            · intro y hm
              rcases List.mem_append.mp hm with z | z
              · exact hy y z
              · exact ⟨_, List.mem_singleton.mp z, List.getElem_mem hdl⟩
            · rw [upd_same, List.map_append]
              rfl
          · rintro H2 ⟨ys, el, hy, s2, e2⟩
            exact ⟨D, ys, el, hy, e2, s2, rfl⟩
        · rintro _ Hc ⟨l, ys, el, hy, hl, sc, rfl⟩
          refine ⟨_, rfl, l, rfl, ⟨_, .inl (.inl hl)⟩, fun D hD => lc_list (K := K) (xs := ys.map V.str) (fun i H' => ∃ zs : List Str, zs.length = i ∧ (∀ z ∈ zs, Nm z) ∧ Same Hc H' ∧ H' D = some (.lst (zs.map V.str))) ?_ (fun i H' _ h => ?_) ?_ ?_⟩
          · exact ⟨[], rfl, fun y hy => (List.not_mem_nil hy).elim, same_new hD, upd_same⟩
          · obtain ⟨zs, _, _, s, _⟩ := h
            exact .inl (.inl (s _ _ hl))
          · rintro i v H2 hv ⟨zs, ez, hz, s2, e2⟩
            rw [List.getElem?_map] at hv
            obtain ⟨y, ey, rfl⟩ := Option.map_eq_some_iff.mp hv
            have hi : i < ys.length := (List.getElem?_eq_some_iff.mp ey).1
            obtain ⟨g, rfl, hg⟩ := hy y (List.mem_of_getElem? ey)
            have h1 := hx.cut none (some (a : Int))
            have h2 := hx.cut (some (a : Int)) none
            have hc := cut_both x a
            have lg : Ls 1 (⟨#[g]⟩ : Str) := ⟨Nat.le_refl 1, fun e he => by
              have : e = g := by simpa using he
              rw [this]; exact hg⟩
            have l1 := (h1.cat lg)
            have lz := (l1.cat h2)
            have e1 : (⟨#[g]⟩ : Str).length = 1 := rfl
            have e0 : (cutS x none (some (a : Int)) ++ ⟨#[g]⟩ ++ cutS x (some (a : Int)) none).length = x.length + 1 := by
              rw [strLen_append, strLen_append, e1]
              omega
            refine ⟨rfl, _, rfl, _, rfl, _, rfl, _, rfl, line (by omega), _, rfl, _, _, rfl, rfl, line (by have := h1.1; omega), _, rfl, _, rfl, _, rfl, _, rfl, line (by omega), _, _, rfl, rfl, line (by rw [strLen_append, e1]; omega), _, e2, ?_, zs ++ [cutS x none (some (a : Int)) ++ ⟨#[g]⟩ ++ cutS x (some (a : Int)) none], ?_, ?_, same_in s2 hD, ?_⟩
            · rw [List.length_map, ez]
              exact len_line (by omega)
            · rw [List.length_append, ez]
              rfl
            · intro z hm
              rcases List.mem_append.mp hm with q' | q'
              · exact hz z q'
              · rw [List.mem_singleton.mp q']
                exact ⟨by rw [e0]; omega, by rw [e0]; omega, lz.2⟩
            · rw [upd_same, List.map_append]
              rfl
          · rintro H2 ⟨zs, ez, hz, s2, e2⟩
            rw [List.length_map] at ez
            refine ⟨D, zs, rfl, .inl (.inl e2), by omega, fun zs' r pm _ hr => ?_⟩
            have sr := same_new (o := .lst (zs'.map V.str)) hr
            have sAll := (sc.trans s2).trans sr
            refine q r zs' _ ?_ ?_ ?_ ?_ upd_same (kb.trans (Keep.of sAll)) (hpb.same sAll)
            · rw [pm.length_eq]
              omega
            · intro z hz'
              exact hz z (pm.mem_iff.mp hz')
            · exact ((hpb.same sc).same s2).ne hr
            · refine kb.free (fun z => ?_) (sc.free (s2.free hr))
              exact ((hpb.same sc).same s2).ne hr (List.mem_singleton.mp z)
end
end K23

namespace K23
open PySem PySem.Spec PyProof.Rows L2 Gk
abbrev s_law_web : Stmt := topS 12
theorem sc_law_web : FnScope ["_law_pot_here", "_law_n", "_law_names_here", "_law_most", "_law_found", "_law_crossing", "_law_name", "_law_arms", "_law_k"] ["_law_pot_here", "_law_n", "_law_names_here", "_law_most"] (defScope s_law_web) := ⟨rfl, rfl, rfl, by decide +kernel, rfl, by decide +kernel, by decide +kernel⟩

/-! ### webs -/
abbrev Post : Type := Nat × Str × List Nat
def PostAt (H : Hp) (a : Addr) (e : Post) : Prop := ∃ b, H a = some (.tup [.int (e.1 : Int), .str e.2.1, .ref b]) ∧ H b = some (.tup (e.2.2.map fun x : Nat => V.int (x : Int)))
structure PostOk (n : Nat) (e : Post) : Prop where
  at_ : e.1 < n
  nm : Nm e.2.1
  some : e.2.2 ≠ []
  arms : ∀ x ∈ e.2.2, x < n
  few : e.2.2.length ≤ 40
def WebAt (H : Hp) (w : Addr) (n : Nat) (posts : List Post) : Prop := ∃ t as, H w = some (.tup [.int (n : Int), .ref t]) ∧ H t = some (.tup (as.map V.ref)) ∧ Paired (PostAt H) as posts
theorem PostAt.same {H H' : Hp} {a : Addr} {e : Post} (h : PostAt H a e) (s : Same H H') : PostAt H' a e := let ⟨b, h1, h2⟩ := h; ⟨b, s _ _ h1, s _ _ h2⟩
theorem tup_keep {H H' : Hp} {p a : Addr} {xs : List V} (hp : Pot H p) (k : Keep [p] H H') (h : H a = some (.tup xs)) : H' a = some (.tup xs) :=
  Keep.at k (fun e => by obtain ⟨g, r, z, _⟩ := hp; rw [← e, h] at z; cases z) h
theorem PostAt.keep {H H' : Hp} {p a : Addr} {e : Post} (hp : Pot H p) (k : Keep [p] H H') (h : PostAt H a e) : PostAt H' a e := let ⟨b, h1, h2⟩ := h; ⟨b, tup_keep hp k h1, tup_keep hp k h2⟩
theorem PostAt.upd {H : Hp} {l a : Addr} {e : Post} {xs : List V} {o : HO} (hl : H l = some (.lst xs)) (h : PostAt H a e) : PostAt (L2.upd H l o) a e := by
  obtain ⟨b, h1, h2⟩ := h
  refine ⟨b, ?_, ?_⟩
  · rw [upd_ne (fun e => by rw [e, hl] at h1; cases h1)]
    exact h1
  · rw [upd_ne (fun e => by rw [e, hl] at h2; cases h2)]
    exact h2
theorem posts_map {H H' : Hp} {as : List Addr} {posts : List Post} (h : Paired (PostAt H) as posts) (f : ∀ a e, PostAt H a e → PostAt H' a e) : Paired (PostAt H') as posts := Paired.mapP h f
theorem WebAt.same {H H' : Hp} {w : Addr} {n : Nat} {posts : List Post} (h : WebAt H w n posts) (s : Same H H') : WebAt H' w n posts :=
  let ⟨t, as, h1, h2, h3⟩ := h; ⟨t, as, s _ _ h1, s _ _ h2, posts_map h3 fun _ _ x => x.same s⟩
theorem WebAt.keep {H H' : Hp} {p w : Addr} {n : Nat} {posts : List Post} (hp : Pot H p) (k : Keep [p] H H') (h : WebAt H w n posts) : WebAt H' w n posts :=
  let ⟨t, as, h1, h2, h3⟩ := h; ⟨t, as, tup_keep hp k h1, tup_keep hp k h2, posts_map h3 fun _ _ x => PostAt.keep hp k x⟩
theorem put_keys {n : Nat} {kvs : List (Key × V)} {d : Nat} {v : V} (hd : d < n) (h : ∀ kv ∈ kvs, ∃ k : Nat, kv.1 = Sum.inl (k : Int) ∧ k < n) :
    ∀ kv ∈ putK kvs (Sum.inl (d : Int)) v, ∃ k : Nat, kv.1 = Sum.inl (k : Int) ∧ k < n := by
  intro kv hkv
  unfold putK at hkv
  split at hkv
  · obtain ⟨x, hx, rfl⟩ := List.mem_map.mp hkv
    obtain ⟨k, e, hk⟩ := h x hx
    split
    · exact ⟨k, e, hk⟩
    · exact ⟨k, e, hk⟩
  · rcases List.mem_append.mp hkv with z | z
    · exact h kv z
    · rw [List.mem_singleton.mp z]
      exact ⟨d, rfl, hd⟩
theorem keys_ints {n : Nat} : ∀ {kvs : List (Key × V)}, (∀ kv ∈ kvs, ∃ k : Nat, kv.1 = Sum.inl (k : Int) ∧ k < n) → ∃ ks : List Nat, kvs.map (·.1) = (ks.map (fun k : Nat => (k : Int))).map Sum.inl ∧ (∀ k ∈ ks, k < n) ∧ ks.length = kvs.length
  | [], _ => ⟨[], rfl, fun _ h => (List.not_mem_nil h).elim, rfl⟩
  | kv :: kvs, h => by
    obtain ⟨ks, e, hk, hl⟩ := keys_ints fun x hx => h x (List.mem_cons_of_mem _ hx)
    obtain ⟨k, ek, hkn⟩ := h kv (List.mem_cons_self ..)
    refine ⟨k :: ks, ?_, ?_, ?_⟩
    · rw [List.map_cons, e, ek]
      rfl
    · intro x hx
      rcases List.mem_cons.mp hx with z | z
      · rw [z]; exact hkn
      · exact hk x z
    · rw [List.length_cons, List.length_cons, hl]
theorem perm_nat {n : Nat} {ks : List Nat} {ys : List Int} (pm : ys.Perm (ks.map (fun k : Nat => (k : Int)))) (h : ∀ k ∈ ks, k < n) :
    ∃ ar : List Nat, ys = ar.map (fun k : Nat => (k : Int)) ∧ ar.length = ks.length ∧ ∀ k ∈ ar, k < n := by
  have all : ∀ y ∈ ys, ∃ k : Nat, y = (k : Int) ∧ k < n := fun y hy => by
    obtain ⟨k, hk, rfl⟩ := List.mem_map.mp (pm.mem_iff.mp hy)
    exact ⟨k, rfl, h k hk⟩
  refine ⟨ys.map Int.toNat, ?_, ?_, ?_⟩
  · rw [List.map_map]
    conv => lhs; rw [← List.map_id ys]
    apply List.map_congr_left
    intro y hy
    obtain ⟨k, rfl, _⟩ := all y hy
    rfl
  · rw [List.length_map, pm.length_eq, List.length_map]
  · intro k hk
    obtain ⟨y, hy, rfl⟩ := List.mem_map.mp hk
    obtain ⟨k', e', hk'⟩ := all y hy
    rw [e']
    exact hk'
/-- the posts found so far -/
structure Fd (H : Hp) (p : Addr) (n : Nat) (F0 : Addr) (most : Nat) (H' : Hp) (as : List Addr) (posts : List Post) : Prop where
  at_ : H' F0 = some (.lst (as.map V.ref))
  prs : Paired (PostAt H') as posts
  ok : ∀ e ∈ posts, PostOk n e
  few : posts.length ≤ most
  kp : Keep [p] H H'
  pot : Pot H' p
section
variable {H H1 H2 : Hp} {p F0 : Addr} {n most : Nat} {as : List Addr} {posts : List Post}
theorem Fd.same (h : Fd H p n F0 most H1 as posts) (s : Same H1 H2) : Fd H p n F0 most H2 as posts :=
  ⟨s _ _ h.at_, posts_map h.prs fun _ _ x => x.same s, h.ok, h.few, h.kp.trans (Keep.of s), h.pot.same s⟩
theorem Fd.keep (h : Fd H p n F0 most H1 as posts) (ne : F0 ≠ p) (k : Keep [p] H1 H2) (hp : Pot H2 p) : Fd H p n F0 most H2 as posts :=
  ⟨Keep.at k ne h.at_, posts_map h.prs fun _ _ x => PostAt.keep h.pot k x, h.ok, h.few, h.kp.trans k, hp⟩
theorem Fd.more {most' : Nat} (h : Fd H p n F0 most H1 as posts) (l : most ≤ most') : Fd H p n F0 most' H1 as posts :=
  ⟨h.at_, h.prs, h.ok, Nat.le_trans h.few l, h.kp, h.pot⟩
/-- a dict elsewhere has changed -/
theorem Fd.at {D : Addr} {kvs : List (Key × V)} {o : HO} (h : Fd H p n F0 most H1 as posts) (ne : D ≠ F0) (hD : H1 D = some (.dK kvs)) (np : D ≠ p) (nH : H D = none) : Fd H p n F0 most (L2.upd H1 D o) as posts := by
  refine ⟨by rw [upd_ne ne.symm]; exact h.at_, posts_map h.prs fun a e x => ?_, h.ok, h.few, keep_new h.kp nH, h.pot.upd np⟩
  obtain ⟨b, h1, h2⟩ := x
  refine ⟨b, ?_, ?_⟩
  · rw [upd_ne (fun e => by rw [e, hD] at h1; cases h1)]
    exact h1
  · rw [upd_ne (fun e => by rw [e, hD] at h2; cases h2)]
    exact h2
end
section
variable {P : Program} {w : World} {K : PySem.W.Frag} {mg : Str → Option Value} {base : Heap} {f : Addr} {fd : FuncData}
def spWeb : Sp := fun vs H Q _ => ∃ (p l : Addr) (n m : Nat) (zs : List Str), vs = [.ref p, .int (n : Int), .ref l, .int (m : Int)] ∧ Pot H p ∧ 1 ≤ n ∧ n ≤ 40 ∧ m ≤ 39 ∧
  H l = some (.lst (zs.map V.str)) ∧ l ≠ p ∧ zs.length ≤ 100 ∧ (∀ z ∈ zs, Nm z) ∧
  ∀ w' posts H', WebAt H' w' n posts → (∀ e ∈ posts, PostOk n e) → posts.length ≤ n * zs.length → Keep [p] H H' → Pot H' p → Q (.ref w') H'
theorem ok_web (F : FnP K "_law_web" s_law_web f fd) (B : Bi mg) (c_law_take : Cl P w K mg base 1 "_law_take" ["_law_pot_here", "_law_upto"] spTake) :
    FnOk P w K mg base CX0 2 f fd ["_law_pot_here", "_law_n", "_law_names_here", "_law_most"] spWeb := by
  refine F.ok sc_law_web (fun vs H Q E h => ?_) (fun cdv A outer s H vs Q E hr h => ?_)
  · obtain ⟨p, l, n, m, zs, rfl, _⟩ := h
    rfl
  · obtain ⟨p, l, n, m, zs, rfl, hp, n1, n40, hm, hl, hlp, hzl, hz, q⟩ := h
    refine ⟨_, PSs.nox ((pss_cons (ps_set (i := 4) sc_law_web.nd rfl (Or.inl rfl) (pe_lst pa_nil))
      (pss_cons (ps_for PassesOwn.never rfl (pi_range1 (by rfl) B.range (pa_cons (pv 1) pa_nil)) (pg_name (i := 5) sc_law_web.nd rfl (Or.inl rfl)) (pss_one (ps_for PassesOwn.never rfl (pi_list (pv 2)) (pg_name (i := 6) sc_law_web.nd rfl (Or.inl rfl)) (pss_cons (ps_set (i := 7) sc_law_web.nd rfl (Or.inl rfl) pe_dnewK)
      (pss_cons (ps_for PassesOwn.never rfl (pi_range1 (by rfl) B.range (pa_cons (pe_cl c_law_take hr (by decide) (by rfl) (pa_cons (pv 0) (pa_cons (pe_op op_add (pv 3) pe_int) pa_nil))) pa_nil)) (pg_name (i := 8) sc_law_web.nd rfl (Or.inl rfl)) (pss_one (ps_asg pe_bl (pg_sub (pv 7) (pe_cl c_law_take hr (by decide) (by rfl) (pa_cons (pv 0) (pa_cons (pv 1) pa_nil))) (set_dict (hu_of hr))))))
      (pss_one (ps_if (pt_cmpR (op_neEmpty (hu_of hr)) (pv 7) pe_dnewK (nomark _)) (pss_one (ps_expr (pe_bm PySem.F.plainAttrs_list PySem.F.slot_list_append PySem.F.type_list_append mt_append (pv 4) (pa_cons (pe_tup (pa_cons (pv 5) (pa_cons (pv 6) (pa_cons (pe_callTy call_tuple_of (by rfl) B.tuple (by decide +kernel) (pa_cons (pe_callB (call_sortedDI rfl) (by rfl) B.sorted (by decide +kernel) (pa_cons (pv 7) pa_nil)) pa_nil)) pa_nil)))) pa_nil)))) pss_nil)))))))
      (pss_one (ps_ret (pe_tup (pa_cons (pv 1) (pa_cons (pe_callTy call_tuple_of (by rfl) B.tuple (by decide +kernel) (pa_cons (pv 4) pa_nil)) pa_nil)))))))), ?_⟩
    refine ⟨Nat.zero_le _, fun F0 hF => ?_⟩
    have hFp : F0 ≠ p := hp.ne hF
    have hFl : l ≠ F0 := ne_of_none hl hF
    -- behind some turns: the posts found
    refine ⟨_, rfl, _, rfl, by omega, by omega, for_range (lo := 0) (n := n) (fun i σ H' => (∃ as posts, Fd H p n F0 (i * zs.length) H' as posts) ∧ ∃ y5 y6 y7 y8 : Option V, σ = [some (.ref p), some (.int (n : Int)), some (.ref l), some (.int (m : Int)), some (.ref F0), y5, y6, y7, y8]) ?_ ?_ ?_⟩
    · exact ⟨⟨[], [], upd_same, .nil, fun e he => (List.not_mem_nil he).elim, Nat.zero_le _, Keep.of (same_new hF), hp.same (same_new hF)⟩, _, _, _, _, rfl⟩
    · rintro i σ H1 hi ⟨⟨as, posts, hfd⟩, y5, y6, y7, y8, rfl⟩
      rw [show ((0 : Int) + (i : Int)) = (i : Int) from Int.zero_add _]
      have hl1 := Keep.at hfd.kp hlp hl
      refine ⟨_, rfl, l, rfl, ⟨_, .inl (.inl hl1)⟩, for_list (K := K) (xs := zs.map V.str) (fun j σ H' => (∃ as posts, Fd H p n F0 (i * zs.length + j) H' as posts) ∧ ∃ y6 y7 y8 : Option V, σ = [some (.ref p), some (.int (n : Int)), some (.ref l), some (.int (m : Int)), some (.ref F0), some (.int (i : Int)), y6, y7, y8]) ?_ (fun j σ H' _ h => ?_) ?_ ?_⟩
      · exact ⟨⟨as, posts, hfd⟩, _, _, _, rfl⟩
      · obtain ⟨⟨as, posts, hfd⟩, _⟩ := h
        exact .inl (.inl (Keep.at hfd.kp hlp hl))
      · rintro j v σ H2 hv ⟨⟨as, posts, hfd⟩, y6, y7, y8, rfl⟩
        rw [List.getElem?_map] at hv
        obtain ⟨z, ez, rfl⟩ := Option.map_eq_some_iff.mp hv
        have hzj : j < zs.length := (List.getElem?_eq_some_iff.mp ez).1
        have nz := hz z (List.mem_of_getElem? ez)
        -- the arms
        refine fun D hD => ?_
        have sD := same_new (o := .dK []) hD
        have fdD := hfd.same sD
        have hDp : D ≠ p := hfd.pot.ne hD
        have hDF : F0 ≠ D := ne_of_none hfd.at_ hD
        have hDH : H D = none := hfd.kp.free (fun z => hDp (List.mem_singleton.mp z)) hD
        refine ⟨_, rfl, _, rfl, _, _, rfl, rfl, p, m + 1, rfl, fdD.pot, by omega, by omega, fun r H3 hr3 k3 hp3 => ?_⟩
        refine ⟨_, rfl, by omega, by omega, for_range (lo := 0) (n := r) (fun t σ H' => Fd H p n F0 (i * zs.length + j) H' as posts ∧ (∃ kvs, H' D = some (.dK kvs) ∧ kvs.length ≤ t ∧ ∀ kv ∈ kvs, ∃ k : Nat, kv.1 = Sum.inl (k : Int) ∧ k < n) ∧ ∃ y8 : Option V, σ = [some (.ref p), some (.int (n : Int)), some (.ref l), some (.int (m : Int)), some (.ref F0), some (.int (i : Int)), some (.str z), some (.ref D), y8]) ?_ ?_ ?_⟩
        · exact ⟨fdD.keep hFp k3 hp3, ⟨[], Keep.at k3 hDp upd_same, Nat.zero_le _, fun _ h => (List.not_mem_nil h).elim⟩, _, rfl⟩
        · rintro t σ H4 ht ⟨fd4, ⟨kvs, e4, l4, hk4⟩, y8, rfl⟩
          refine ⟨_, rfl, _, rfl, _, rfl, p, n, rfl, fd4.pot, n1, by omega, fun d H5 hd k5 hp5 => ?_⟩
          have e5 := Keep.at k5 hDp e4
          refine ⟨D, _, rfl, DPut.k (k := Sum.inl (d : Int)) e5 (len_line (by omega)), ?_⟩
          have fd5 := fd4.keep hFp k5 hp5
          refine ⟨fd5.at hDF.symm e5 hDp hDH, ⟨_, upd_same, ?_, put_keys hd hk4⟩, _, rfl⟩
          exact Nat.le_trans (length_putK _ _ _) (by omega)
        · rintro σ H4 ⟨fd4, ⟨kvs, e4, l4, hk4⟩, y8, rfl⟩
          -- if arms != {}
          refine ⟨_, rfl, fun E0 hE => ⟨D, E0, kvs, rfl, rfl, same_new hE _ _ e4, upd_same, _, rfl, ite2 (fun e => ?_) (fun e => ?_)⟩⟩
          · have sE := same_new (o := .dK []) hE
            have fdE := fd4.same sE
            obtain ⟨ks, ek, hkn, hkl⟩ := keys_ints hk4
            have hne : ks ≠ [] := fun z => by
              have := of_decide_eq_true e
              rw [z] at hkl
              exact this hkl.symm
            refine ⟨_, rfl, .inl ⟨rfl, _, .inl (.inl fdE.at_)⟩, _, rfl, _, rfl, _, rfl, D, kvs, _, rfl, .inl (sE _ _ e4), ek, by rw [List.length_map]; omega, fun ys L pm _ hL => ?_⟩
            have sL := same_new (o := .lst (ys.map V.int)) hL
            obtain ⟨ar, rfl, arl, arn⟩ : ∃ ar : List Nat, ys = ar.map (fun k : Nat => (k : Int)) ∧ ar.length = ks.length ∧ ∀ k ∈ ar, k < n := perm_nat pm hkn
            refine ⟨L, _, rfl, .inl ⟨.inl (.inl upd_same), fun T hT => ?_⟩⟩
            have sT := same_new (o := .tup ((ar.map (fun k : Nat => (k : Int))).map V.int)) hT
            refine ⟨(by show 3 ≤ sizeLine; decide), fun U hU => ?_⟩
            have sU := same_new (o := .tup [.int (i : Int), .str z, .ref T]) hU
            have fdU := ((fdE.same sL).same sT).same sU
            have hpl := fdU.few
            refine ⟨F0, _, _, rfl, rfl, fdU.at_, ?_, ⟨⟨as ++ [U], posts ++ [(i, z, ar)], upd_same.trans ?_, ?_, ?_, ?_, ?_, ?_⟩, _, _, _, rfl⟩⟩
            · rw [List.length_map, Paired.length fdU.prs]
              exact len_line (Nat.le_trans hpl (by
                have : i * zs.length ≤ 40 * 100 := Nat.mul_le_mul (by omega) hzl
                omega))
            · rw [List.map_append]
              rfl
            · refine Paired.snoc (posts_map fdU.prs fun a e h => h.upd fdU.at_) ⟨T, ?_, ?_⟩
              · rw [upd_ne (fun e => by have := fdU.at_; rw [← e, upd_same] at this; cases this)]
                exact upd_same
              · have gT := sU T _ upd_same
                rw [upd_ne (fun e => by have := fdU.at_; rw [← e, gT] at this; cases this), gT]
                congr 2
                show (ar.map _).map _ = _
                rw [List.map_map]
                rfl
            · intro e he
              rcases List.mem_append.mp he with h | h
              · exact fdU.ok e h
              · rw [List.mem_singleton.mp h]
                refine ⟨hi, nz, fun z => ?_, arn, by rw [arl]; omega⟩
                have z' : ar = [] := z
                rw [z'] at arl
                exact hne (List.length_eq_zero_iff.mp arl.symm)
            · rw [List.length_append]
              show _ + 1 ≤ _
              omega
            · exact keep_new fdU.kp hF
            · exact fdU.pot.upd hFp
          · have sE := same_new (o := .dK []) hE
            exact ⟨⟨as, posts, (fd4.same sE).more (by omega)⟩, _, _, _, rfl⟩
      · rintro σ H2 ⟨⟨as, posts, hfd⟩, y6, y7, y8, rfl⟩
        rw [List.length_map] at hfd
        exact ⟨⟨as, posts, hfd.more (by rw [Nat.succ_mul]; exact Nat.le_refl _)⟩, _, _, _, _, rfl⟩
    · rintro σ H1 ⟨⟨as, posts, hfd⟩, y5, y6, y7, y8, rfl⟩
      refine ⟨_, rfl, _, rfl, F0, _, rfl, .inl ⟨.inl (.inl hfd.at_), fun T hT => ?_⟩⟩
      have sT := same_new (o := .tup (as.map V.ref)) hT
      refine ⟨(by show 2 ≤ sizeLine; decide), fun U hU => ?_⟩
      have sU := same_new (o := .tup [.int (n : Int), .ref T]) hU
      have fdU := (hfd.same sT).same sU
      exact q U posts _ ⟨T, as, upd_same, sU _ _ upd_same, fdU.prs⟩ fdU.ok fdU.few fdU.kp fdU.pot
end
end K23

namespace K23
open PySem PySem.Spec PyProof.Rows L2 Gk
abbrev s_law_world : Stmt := topS 13
theorem sc_law_world : FnScope ["_law_pot_here", "_law_web_here", "_law_post"] ["_law_pot_here", "_law_web_here"] (defScope s_law_world) := ⟨rfl, rfl, rfl, by decide +kernel, rfl, by decide +kernel, by decide +kernel⟩

abbrev s_law_goals : Stmt := topS 14
theorem sc_law_goals : FnScope ["_law_pot_here", "_law_n", "_law_crossing"] ["_law_pot_here", "_law_n"] (defScope s_law_goals) := ⟨rfl, rfl, rfl, by decide +kernel, rfl, by decide +kernel, by decide +kernel⟩

def nV (bs : List Nat) : List V := bs.map fun b : Nat => V.int (b : Int)
theorem nV_snoc (bs : List Nat) (b : Nat) : nV bs ++ [.int (b : Int)] = nV (bs ++ [b]) := by
  unfold nV
  rw [List.map_append]
  rfl
theorem nV_len (bs : List Nat) : (nV bs).length = bs.length := List.length_map ..
theorem paired_get {α β : Type} {R : α → β → Prop} : ∀ {as : List α} {bs : List β} {i : Nat} {a : α}, Paired R as bs → as[i]? = some a → ∃ b, bs[i]? = some b ∧ R a b
  | _, _, _, _, .nil, e => by simp at e
  | _, _, 0, _, .cons h _, e => by simp at e; subst e; exact ⟨_, rfl, h⟩
  | _, _, i + 1, a, .cons _ t, e => by
    obtain ⟨b, e1, e2⟩ := paired_get (i := i) (a := a) t (by simpa using e)
    exact ⟨b, by simpa using e1, e2⟩
section
variable {P : Program} {w : World} {K : PySem.W.Frag} {mg : Str → Option Value} {base : Heap} {f : Addr} {fd : FuncData}
abbrev Arm (e : Post) (b : Nat) : Prop := b ∈ e.2.2
def spWorld : Sp := fun vs H Q _ => ∃ (p w' : Addr) (n : Nat) (posts : List Post), vs = [.ref p, .ref w'] ∧ Pot H p ∧ WebAt H w' n posts ∧ (∀ e ∈ posts, PostOk n e) ∧ posts.length ≤ 10000 ∧
  ∀ t bs H', H' t = some (.tup (nV bs)) → Paired Arm posts bs → Keep [p] H H' → Pot H' p → Q (.ref t) H'
theorem ok_world (F : FnP K "_law_world" s_law_world f fd) (B : Bi mg) (c_law_of : Cl P w K mg base 2 "_law_of" ["_law_pot_here", "_law_some"] (spOf K)) :
    FnOk P w K mg base CX0 3 f fd ["_law_pot_here", "_law_web_here"] spWorld := by
  refine F.ok sc_law_world (fun vs H Q E h => ?_) (fun cdv A outer s H vs Q E hr h => ?_)
  · obtain ⟨p, w', n, posts, rfl, _⟩ := h
    rfl
  · obtain ⟨p, w', n, posts, rfl, hp, hw, hok, hle, q⟩ := h
    refine ⟨_, PSs.nox ((pss_one (ps_ret (pe_callTy call_tuple_of (by rfl) B.tuple (by decide +kernel) (pa_cons (pe_lc (own := [("_law_post", 2)]) (g := gName 2) (tt := tYes) rfl sc_law_world.nd (pi_tup (pe_ix ix_tupH (pv 1) pe_int (fun _ _ => rfl))) (blkOk_by (own := [("_law_post", 2)]) (N := ["_law_pot_here", "_law_web_here", "_law_post"]) (sc := defScope s_law_world) (by decide +kernel)) (fun _ _ _ _ _ => (pg_name (i := 2) sc_law_world.nd rfl (Or.inl rfl))) (fun _ _ _ _ _ => pts_nil) (fun _ _ _ _ _ => (pe_cl c_law_of hr (by decide) (by rfl) (pa_cons (pv 0) (pa_cons (pe_callTy list_ofH (by rfl) B.list (by decide +kernel) (pa_cons (pe_ix ix_tupH (pv 2) pe_int (fun _ _ => rfl)) pa_nil)) pa_nil))))) pa_nil))))), ?_⟩
    obtain ⟨t, as, hw1, hw2, hw3⟩ := id hw
    have lap := Paired.length hw3
    refine ⟨_, rfl, _, _, _, _, rfl, rfl, hw1, rfl, t, rfl, ⟨_, .inl (.inl hw2)⟩, fun D hD => lc_tup (K := K) (xs := as.map V.ref) (fun i H' => ∃ bs, Paired Arm (posts.take i) bs ∧ Keep [p] H H' ∧ Pot H' p ∧ H' D = some (.lst (nV bs))) ?_ (fun i H' _ h => ?_) ?_ ?_⟩
    · exact ⟨[], .nil, Keep.of (same_new hD), hp.same (same_new hD), upd_same⟩
    · obtain ⟨bs, _, k, _, _⟩ := h
      exact .inl (.inl (tup_keep hp k hw2))
    · rintro i x H1 hx ⟨bs, hb, k1, hp1, e1⟩
      rw [List.getElem?_map] at hx
      obtain ⟨a, ea, rfl⟩ := Option.map_eq_some_iff.mp hx
      obtain ⟨e, ee, he⟩ := paired_get hw3 ea
      have hi : i < posts.length := (List.getElem?_eq_some_iff.mp ee).1
      have oke := hok e (List.mem_of_getElem? ee)
      obtain ⟨b, h1, h2⟩ := PostAt.keep hp k1 he
      have lb := Paired.length hb
      rw [List.length_take] at lb
      refine ⟨rfl, _, rfl, _, rfl, _, _, _, _, rfl, rfl, h1, rfl, _, _, rfl, .inr h2, fun l hl => ?_⟩
      have sl := same_new (o := .lst (e.2.2.map fun x : Nat => V.int (x : Int))) hl
      have few := oke.few
      have one : 1 ≤ e.2.2.length := Nat.one_le_iff_ne_zero.mpr fun z => oke.some (List.length_eq_zero_iff.mp z)
      refine ⟨p, hp1.same sl, .inl ⟨l, _, rfl, hp1.ne hl, upd_same, by rw [List.length_map]; omega, by rw [List.length_map]; omega, fun x H2 hx2 k2 hp2 => ?_⟩⟩
      obtain ⟨c, hc, rfl⟩ := List.mem_map.mp hx2
      have hDp : D ≠ p := hp.ne hD
      have e2 := Keep.at k2 hDp (sl _ _ e1)
      refine ⟨_, e2, ?_, bs ++ [c], ?_, ?_, hp2.upd hDp, ?_⟩
      · rw [nV_len]
        exact len_line (by omega)
      · rw [List.take_add_one, ee]
        exact Paired.snoc hb hc
      · exact keep_new ((k1.trans (Keep.of sl)).trans k2) hD
      · rw [upd_same, nV_snoc]
    · rintro H1 ⟨bs, hb, k1, hp1, e1⟩
      rw [List.length_map, lap, List.take_of_length_le (Nat.le_refl _)] at hb
      refine ⟨D, _, rfl, .inl ⟨.inl (.inl e1), fun T hT => ?_⟩⟩
      have sT := same_new (o := .tup (nV bs)) hT
      exact q T bs _ upd_same hb (k1.trans (Keep.of sT)) (hp1.same sT)

def spGoals : Sp := fun vs H Q _ => ∃ (p : Addr) (n : Nat), vs = [.ref p, .int (n : Int)] ∧ Pot H p ∧ n ≤ 40 ∧ (∀ H', Keep [p] H H' → Pot H' p → Q .non H') ∧
  ∀ t gs H', H' t = some (.tup (nV gs)) → gs.length ≤ n → (∀ g ∈ gs, g < n) → Keep [p] H H' → Pot H' p → Q (.ref t) H'
theorem ok_goals (F : FnP K "_law_goals" s_law_goals f fd) (B : Bi mg) (c_law_take : Cl P w K mg base 1 "_law_take" ["_law_pot_here", "_law_upto"] spTake) :
    FnOk P w K mg base CX0 2 f fd ["_law_pot_here", "_law_n"] spGoals := by
  refine F.ok sc_law_goals (fun vs H Q E h => ?_) (fun cdv A outer s H vs Q E hr h => ?_)
  · obtain ⟨p, n, rfl, _⟩ := h
    rfl
  · obtain ⟨p, n, rfl, hp, hn, q1, q2⟩ := h
    refine ⟨_, PSs.nox ((pss_cons (ps_if (pt_cmpR op_eq (pe_cl c_law_take hr (by decide) (by rfl) (pa_cons (pv 0) (pa_cons pe_int pa_nil))) pe_int (nomark _)) (pss_one (ps_ret pe_non)) pss_nil)
      (pss_one (ps_ret (pe_callTy call_tuple_of (by rfl) B.tuple (by decide +kernel) (pa_cons (pe_lc (own := [("_law_crossing", 2)]) (g := gName 2) rfl sc_law_goals.nd (pi_range1 (by rfl) B.range (pa_cons (pv 1) pa_nil)) (blkOk_by (own := [("_law_crossing", 2)]) (N := ["_law_pot_here", "_law_n", "_law_crossing"]) (sc := defScope s_law_goals) (by decide +kernel)) (fun _ _ _ _ _ => (pg_name (i := 2) sc_law_goals.nd rfl (Or.inl rfl))) (fun _ _ _ _ _ => (pts_one (pt_cmpR op_gt (pe_cl c_law_take hr (by decide) (by rfl) (pa_cons (pv 0) (pa_cons pe_int pa_nil))) pe_int (nomark _)))) (fun _ _ _ _ _ => (pv 2))) pa_nil)))))), ?_⟩
    refine ⟨_, rfl, p, 2, rfl, hp, by decide, by decide, fun d H1 hd k1 hp1 => ⟨rfl, _, rfl, ite2 (fun e => ?_) (fun e => ?_)⟩⟩
    · exact q1 H1 k1 hp1
    · refine ⟨_, rfl, _, rfl, by omega, by omega, fun D hD => lc_range (lo := 0) (n := n) (fun i H' => ∃ gs : List Nat, gs.length ≤ i ∧ (∀ g ∈ gs, g < n) ∧ Keep [p] H1 H' ∧ Pot H' p ∧ H' D = some (.lst (nV gs))) ?_ ?_ ?_⟩
      · exact ⟨[], Nat.zero_le _, fun _ h => (List.not_mem_nil h).elim, Keep.of (same_new hD), hp1.same (same_new hD), upd_same⟩
      · rintro i H2 hi ⟨gs, lg, hg, k2, hp2, e2⟩
        have hDp : D ≠ p := hp1.ne hD
        refine ⟨rfl, _, rfl, p, 3, rfl, hp2, by decide, by decide, fun c H3 hc k3 hp3 => ?_⟩
        have e3 := Keep.at k3 hDp e2
        refine ⟨_, _, rfl, rfl, _, rfl, ite2 (fun z => ?_) (fun z => ?_)⟩
        · refine ⟨_, rfl, _, e3, ?_, gs ++ [i], ?_, ?_, keep_new (k2.trans k3) hD, hp3.upd hDp, ?_⟩
          · rw [nV_len]
            exact len_line (by omega)
          · rw [List.length_append]
            show _ + 1 ≤ _
            omega
          · intro g hm
            rcases List.mem_append.mp hm with y | y
            · exact hg g y
            · rw [List.mem_singleton.mp y]
              exact hi
          · rw [upd_same, ← nV_snoc]
            rw [show ((0 : Int) + (i : Int)) = (i : Int) from Int.zero_add _]
        · exact ⟨gs, by omega, hg, k2.trans k3, hp3, e3⟩
      · rintro H2 ⟨gs, lg, hg, k2, hp2, e2⟩
        refine ⟨D, _, rfl, .inl ⟨.inl (.inl e2), fun T hT => ?_⟩⟩
        have sT := same_new (o := .tup (nV gs)) hT
        exact q2 T gs _ upd_same lg hg ((k1.trans k2).trans (Keep.of sT)) (hp2.same sT)
end
end K23

namespace K23
open PySem PySem.Spec PyProof.Rows L2 Gk RZ
abbrev s_goal_crossings : Stmt := topS 1
theorem sc_goal_crossings : FnScope ["web", "goals"] ["web", "goals"] (defScope s_goal_crossings) := ⟨rfl, rfl, rfl, by decide +kernel, rfl, by decide +kernel, by decide +kernel⟩

abbrev s_right_arms : Stmt := topS 3
theorem sc_right_arms : FnScope ["web", "world", "post", "arm"] ["web", "world"] (defScope s_right_arms) := ⟨rfl, rfl, rfl, by decide +kernel, rfl, by decide +kernel, by decide +kernel⟩

abbrev s_gone_by : Stmt := topS 4
theorem sc_gone_by : FnScope ["right", "start", "row", "come_to", "name"] ["right", "start", "row"] (defScope s_gone_by) := ⟨rfl, rfl, rfl, by decide +kernel, rfl, by decide +kernel, by decide +kernel⟩

abbrev s_law_gone : Stmt := topS 15
theorem sc_law_gone : FnScope ["_law_arms", "_law_start", "_law_row_here", "_law_found", "_law_name"] ["_law_arms", "_law_start", "_law_row_here"] (defScope s_law_gone) := ⟨rfl, rfl, rfl, by decide +kernel, rfl, by decide +kernel, by decide +kernel⟩

/-! ### the right arms -/
def keyOf (e : Post) : List Key := [Sum.inl (e.1 : Int), Sum.inr e.2.1]
def rightsOf (posts : List Post) (bs : List Nat) : List (List Key × V) := (posts.zip bs).foldl (fun acc eb => putK acc (keyOf eb.1) (.int (eb.2 : Int))) []
def goneF (R : List (List Key × V)) : Nat → List Str → List Nat
  | s, [] => [s]
  | s, z :: r => match valV R [Sum.inl (s : Int), Sum.inr z] with
    | some (.int b) => s :: goneF R b.toNat r
    | _ => [s]
def ROk (R : List (List Key × V)) (n : Nat) : Prop := ∀ k v, valV R k = some v → ∃ b : Nat, v = .int (b : Int) ∧ b < n
theorem walk_zipT {K : PySem.W.Frag} {a b : Addr} {xs ys : List V} (hl : xs.length = ys.length) :
    Walk (ItzT K a b) xs.length (fun H => SqT K H a xs ∧ SqT K H b ys) (YPair (fun i => xs[i]?) (fun i => ys[i]?)) := by
  refine ⟨fun i _ hi q => ?_, fun _ q => ⟨xs, ys, q.1, q.2, .inl (Nat.le_refl _)⟩, fun i H v H' _ q y => ?_⟩
  · have h2 : i < ys.length := by omega
    exact ⟨xs, ys, xs[i], ys[i], q.1, q.2, by simp [hi], by simp [h2]⟩
  · obtain ⟨T, x, z, h1, h2, h3, h4, h5⟩ := y
    exact ⟨T, x, z, h1, h2, h3, h4 xs q.1, h5 ys q.2⟩
theorem dcT_it {J : It} {n : Nat} {G : Hp → Prop} {Y : Nat → Hp → V → Hp → Prop} (w : Walk J n G Y) {g : TG} {tt : TT} {tk tv : TE} {vs : List Nat} {σ : L2.St} {H1 : Hp} {D : Addr} {Qd : Hp → Prop}
    (Pv : Nat → Hp → Prop) (h0 : Pv 0 (upd H1 D (.dT []))) (hG : ∀ i H, i ≤ n → Pv i H → G H)
    (hs : ∀ i x H H', i < n → Pv i H → Y i H x H' → g x (wipe σ vs) H' fun σ2 H2 => wipe σ2 vs = wipe σ vs ∧ tt σ2 H2 fun b H3 =>
      if b = true then tk σ2 H3 fun y H4 => tv σ2 H4 fun z H5 =>
        ∃ kvs k c, y = .ref c ∧ H5 c = some (.tup (List.map kV k)) ∧ H5 D = some (.dT kvs) ∧ kvs.length < sizeLine ∧ Pv (i + 1) (upd H5 D (.dT (putK kvs k z)))
      else Pv (i + 1) H3) (hd : ∀ H, Pv n H → Qd H) :
    ∃ W : Nat → Nat → Hp → Prop, (∃ m, W 0 m (upd H1 D (.dT []))) ∧ ∀ i m H, W i m H → (J.stop i H ∧ Qd H) ∨
      (J.go i H ∧ ∃ Nx : Hp → Prop, (∀ H', Nx H' → ∃ m', m' < m ∧ W (i + 1) m' H') ∧
        ∀ x H', J.yld i H x H' → g x (wipe σ vs) H' fun σ2 H2 => wipe σ2 vs = wipe σ vs ∧ tt σ2 H2 fun b H3 =>
          if b = true then tk σ2 H3 fun y H4 => tv σ2 H4 fun z H5 =>
            ∃ kvs k c, y = .ref c ∧ H5 c = some (.tup (List.map kV k)) ∧ H5 D = some (.dT kvs) ∧ kvs.length < sizeLine ∧ Nx (upd H5 D (.dT (putK kvs k z)))
          else Nx H3) := by
  refine ⟨fun i m H => m = n - i ∧ i ≤ n ∧ Pv i H, ⟨n, by simp, Nat.zero_le _, h0⟩, ?_⟩
  rintro i m H ⟨rfl, hi, p⟩
  have q := hG i H hi p
  by_cases lt : i < n
  · exact .inr ⟨w.goes i H lt q, Pv (i + 1), fun H' p' => ⟨n - (i + 1), by omega, rfl, lt, p'⟩, fun x H' y => hs i x H H' lt p (w.yields i H x H' lt q y)⟩
  · have e : i = n := by omega
    subst e
    exact .inl ⟨w.stops H q, hd H p⟩
theorem rights_ok {n : Nat} : ∀ (l : List (Post × Nat)) (acc : List (List Key × V)), ROk acc n → (∀ eb ∈ l, eb.2 < n) → ROk (l.foldl (fun acc eb => putK acc (keyOf eb.1) (.int (eb.2 : Int))) acc) n
  | [], _, h, _ => h
  | eb :: l, acc, h, hl => by
    refine rights_ok l _ (fun k v hv => ?_) fun x hx => hl x (List.mem_cons_of_mem _ hx)
    rw [valV_put] at hv
    split at hv
    · cases hv
      exact ⟨eb.2, rfl, hl eb (List.mem_cons_self ..)⟩
    · exact h k v hv
theorem rights_fold (l : List (Post × Nat)) (acc : List (List Key × V)) : (l.foldl (fun acc eb => putK acc (keyOf eb.1) (.int (eb.2 : Int))) acc).length ≤ acc.length + l.length := by
  induction l generalizing acc with
  | nil => exact Nat.le_refl _
  | cons eb l ih =>
    have h1 := ih (putK acc (keyOf eb.1) (.int (eb.2 : Int)))
    have h2 := length_putK acc (keyOf eb.1) (.int (eb.2 : Int))
    rw [List.length_cons, List.foldl_cons]
    omega
theorem rights_len (posts : List Post) (bs : List Nat) : (rightsOf posts bs).length ≤ posts.length := by
  have h := rights_fold (posts.zip bs) []
  rw [List.length_zip, List.length_nil] at h
  unfold rightsOf
  omega
theorem zip_take {α β : Type} : ∀ (xs : List α) (ys : List β) (i : Nat), (xs.take i).zip (ys.take i) = (xs.zip ys).take i
  | [], _, i => by simp
  | _ :: _, [], i => by simp
  | x :: xs, y :: ys, 0 => by simp
  | x :: xs, y :: ys, i + 1 => by simp [zip_take xs ys i]
theorem rights_snoc {posts : List Post} {bs : List Nat} {i : Nat} {e : Post} {b : Nat} (he : posts[i]? = some e) (hb : bs[i]? = some b) :
    rightsOf (posts.take (i + 1)) (bs.take (i + 1)) = putK (rightsOf (posts.take i) (bs.take i)) (keyOf e) (.int (b : Int)) := by
  unfold rightsOf
  rw [zip_take, zip_take, List.take_add_one]
  have ez : (posts.zip bs)[i]? = some (e, b) := by
    rw [List.getElem?_zip_eq_some]
    exact ⟨he, hb⟩
  rw [ez]
  show List.foldl _ [] ((posts.zip bs).take i ++ [(e, b)]) = _
  rw [List.foldl_append]
  rfl
section
variable {P : Program} {w : World} {K : PySem.W.Frag} {mg : Str → Option Value} {base : Heap} {f : Addr} {fd : FuncData}
def spArms : Sp := fun vs H Q _ => ∃ (w' t : Addr) (n : Nat) (posts : List Post) (bs : List Nat), vs = [.ref w', .ref t] ∧ WebAt H w' n posts ∧ H t = some (.tup (nV bs)) ∧ posts.length = bs.length ∧ posts.length ≤ 10000 ∧
  ∀ d H', Same H H' → H' d = some (.dT (rightsOf posts bs)) → Q (.ref d) H'
theorem ok_arms (F : FnP K "right_arms" s_right_arms f fd) (B : Bi mg) : FnOk P w K mg base CX0 1 f fd ["web", "world"] spArms := by
  refine F.ok sc_right_arms (fun vs H Q E h => ?_) (fun cdv A outer s H vs Q E hr h => ?_)
  · obtain ⟨w', t, n, posts, bs, rfl, _⟩ := h
    rfl
  · obtain ⟨w', t, n, posts, bs, rfl, hw, ht, hlen, hle, q⟩ := h
    refine ⟨_, PSs.nox ((pss_one (ps_ret (pe_dcT (hu_of hr) (own := [("post", 2), ("arm", 3)]) (g := gTup K 2 (gCons (gName 2) (gCons (gName 3) gNil))) (tt := tYes) rfl sc_right_arms.nd (pi_zipA (by rfl) B.zip (pa_cons (pe_ix ix_tupH (pv 0) pe_int (fun _ _ => rfl)) (pa_cons (pv 1) pa_nil))) (blkOk_by (own := [("post", 2), ("arm", 3)]) (N := ["web", "world", "post", "arm"]) (sc := defScope s_right_arms) (by decide +kernel)) (fun _ _ _ _ _ => (pg_tup rfl (pgs_cons (pg_name (i := 2) sc_right_arms.nd rfl (Or.inl rfl)) (pgs_cons (pg_name (i := 3) sc_right_arms.nd rfl (Or.inl rfl)) pgs_nil)))) (fun _ _ _ _ _ => pts_nil) (fun _ _ _ _ _ => (pe_slice sl_tupU (pv 2) po_none (po_some pe_int))) (fun _ _ _ _ _ => (pv 3)))))), ?_⟩
    obtain ⟨pt, as, hw1, hw2, hw3⟩ := id hw
    have lap := Paired.length hw3
    refine ⟨_, rfl, _, _, _, _, rfl, rfl, hw1, rfl, _, rfl, pt, t, as.map V.ref, nV bs, rfl, .inr ⟨.inl (.inl hw2), .inl (.inl ht), fun D hD => dcT_it (walk_zipT (K := K) (xs := as.map V.ref) (ys := nV bs) (by rw [List.length_map, nV_len]; omega)) (fun i H' => Same H H' ∧ H' D = some (.dT (rightsOf (posts.take i) (bs.take i)))) ?_ (fun i H' _ h => ⟨.inl (.inl (h.1 _ _ hw2)), .inl (.inl (h.1 _ _ ht))⟩) ?_ ?_⟩⟩
    · exact ⟨same_new hD, by rw [upd_same]; rfl⟩
    · rintro i v H1 H2 hi ⟨s1, e1⟩ ⟨T, x, y, rfl, hT, rfl, hx, hy⟩
      rw [List.length_map] at hi
      simp only [List.getElem?_map] at hx
      obtain ⟨a, ea, rfl⟩ := Option.map_eq_some_iff.mp hx
      obtain ⟨e, ee, he⟩ := paired_get hw3 ea
      obtain ⟨b', h1, h2⟩ := (he.same s1)
      have hy' : (bs.map fun b : Nat => V.int (b : Int))[i]? = some y := hy
      rw [List.getElem?_map] at hy'
      obtain ⟨b, eb, rfl⟩ := Option.map_eq_some_iff.mp hy'
      have sT := same_new (o := .tup [.ref a, .int (b : Int)]) hT
      refine ⟨T, _, rfl, .inl (.inl upd_same), rfl, _, _, rfl, _, _, rfl, rfl, rfl, _, rfl, 2, rfl, a, _, rfl, sT _ _ h1, fun u H3 s3 h3 => ?_⟩
      have hc2 : cutV [V.int (e.1 : Int), .str e.2.1, .ref b'] none (some 2) = (keyOf e).map kV := rfl
      rw [hc2] at h3
      have e3 := (sT.trans s3) _ _ e1
      refine ⟨_, rfl, _, keyOf e, u, rfl, h3, e3, ?_, same_in ((s1.trans sT).trans s3) hD, ?_⟩
      · have := rights_len (posts.take i) (bs.take i)
        rw [List.length_take] at this
        exact len_line (by omega)
      · rw [upd_same, rights_snoc ee eb]
    · rintro H1 ⟨s1, e1⟩
      rw [List.length_map, List.take_of_length_le (by omega), List.take_of_length_le (by omega)] at e1
      exact q D H1 s1 e1

def spGoneBy : Sp := fun vs H Q _ => ∃ (d t : Addr) (R : List (List Key × V)) (s n : Nat) (rs : List Str), vs = [.ref d, .int (s : Int), .ref t] ∧ H d = some (.dT R) ∧ ROk R n ∧ s < n ∧ H t = some (.tup (rs.map V.str)) ∧ rs.length ≤ 10000 ∧
  ∀ u H', Same H H' → H' u = some (.tup (nV (goneF R s rs))) → Q (.ref u) H'
theorem ok_goneBy (F : FnP K "gone_by" s_gone_by f fd) (B : Bi mg) : FnOk P w K mg base CX0 1 f fd ["right", "start", "row"] spGoneBy := by
  refine F.ok sc_gone_by (fun vs H Q E h => ?_) (fun cdv A outer s H vs Q E hr h => ?_)
  · obtain ⟨d, t, R, s, n, rs, rfl, _⟩ := h
    rfl
  · obtain ⟨d, t, R, s, n, rs, rfl, hd, hR, hs, ht, hl, q⟩ := h
    refine ⟨_, PSs.nox ((pss_cons (ps_set (i := 3) sc_gone_by.nd rfl (Or.inl rfl) (pe_lst (pa_cons (pv 1) pa_nil)))
      (C8.pss_cut (ps_for PassesOwn.never rfl (pi_tup (pv 2)) (pg_name (i := 4) sc_gone_by.nd rfl (Or.inl rfl)) (pss_cons (ps_if (pt_cmp (pc_dnotin (hu_of hr) (pe_tup (pa_cons (pe_ix ix_lstH (pv 3) (pe_un un_neg pe_int) (fun _ _ => rfl)) (pa_cons (pv 4) pa_nil))) (pv 0))) (pss_one ps_break) pss_nil)
      (pss_one (ps_expr (pe_bm PySem.F.plainAttrs_list PySem.F.slot_list_append PySem.F.type_list_append mt_append (pv 3) (pa_cons (pe_dget (hu_of hr) (pv 0) (pe_tup (pa_cons (pe_ix ix_lstH (pv 3) (pe_un un_neg pe_int) (fun _ _ => rfl)) (pa_cons (pv 4) pa_nil))) (fun _ _ => rfl)) pa_nil))))))
      (pss_one (ps_ret (pe_callTy call_tuple_of (by rfl) B.tuple (by decide +kernel) (pa_cons (pv 3) pa_nil))))))), ?_⟩
    refine ⟨_, rfl, (by show 1 ≤ sizeLine; decide), fun L hL => ?_⟩
    have sL := same_new (o := .lst [.int (s : Int)]) hL
    refine ⟨fun σ H' => Same H H' ∧ H' L = some (.lst (nV (goneF R s rs))) ∧ ∃ y4, σ = [some (.ref d), some (.int (s : Int)), some (.ref t), some (.ref L), y4], ?_, ?_⟩
    · refine ⟨_, rfl, t, rfl, ⟨_, .inl (.inl (sL _ _ ht))⟩, for_tup (K := K) (xs := rs.map V.str) (fun i σ H' => Same H H' ∧ (∃ acc c, H' L = some (.lst (nV (acc ++ [c]))) ∧ acc ++ goneF R c (rs.drop i) = goneF R s rs ∧ acc.length = i ∧ c < n) ∧ ∃ y4, σ = [some (.ref d), some (.int (s : Int)), some (.ref t), some (.ref L), y4]) ?_ (fun i σ H' _ h => .inl (.inl (h.1 _ _ ht))) ?_ ?_⟩
      · exact ⟨sL, ⟨[], s, upd_same, rfl, rfl, hs⟩, _, rfl⟩
      · rintro i v σ H1 hv ⟨s1, ⟨acc, c, e1, ga, la, hc⟩, y4, rfl⟩
        rw [List.getElem?_map] at hv
        obtain ⟨z, ez, rfl⟩ := Option.map_eq_some_iff.mp hv
        have hi : i < rs.length := (List.getElem?_eq_some_iff.mp ez).1
        have ed : rs.drop i = z :: rs.drop (i + 1) := by
          rw [List.drop_eq_getElem_cons hi]
          congr 1
          rw [List.getElem?_eq_getElem hi] at ez
          exact Option.some.inj ez
        have hlast : atI (nV (acc ++ [c])) (-1) = some (.int (c : Int)) := by
          rw [← nV_snoc]
          exact atI_last _ _
        refine ⟨_, rfl, 1, rfl, L, _, _, _, rfl, rfl, e1, hlast, _, rfl, (by show 2 ≤ sizeLine; decide), fun T hT => ?_⟩
        have sT := same_new (o := .tup [.int (c : Int), .str z]) hT
        refine ⟨_, rfl, d, _, rfl, DGet.t (k := [Sum.inl (c : Int), Sum.inr z]) ((s1.trans sT) _ _ hd) upd_same, _, rfl, ?_⟩
        cases ev : valV R [Sum.inl (c : Int), Sum.inr z] with
        | none =>
          refine iteT ⟨s1.trans sT, ?_, _, rfl⟩
          rw [sT _ _ e1, ← ga, ed]
          show some (HO.lst (nV (acc ++ [c]))) = some (HO.lst (nV (acc ++ goneF R c (z :: rs.drop (i + 1)))))
          rw [show goneF R c (z :: rs.drop (i + 1)) = [c] from by unfold goneF; rw [ev]]
        | some b0 =>
          obtain ⟨b, rfl, hb⟩ := hR _ _ ev
          refine iteF ?_
          refine ⟨_, rfl, .inl ⟨rfl, _, .inl (.inl (sT _ _ e1))⟩, _, rfl, _, rfl, 1, rfl, L, _, _, _, rfl, rfl, sT _ _ e1, hlast, _, rfl, (by show 2 ≤ sizeLine; decide), fun T2 hT2 => ?_⟩
          have sT2 := same_new (o := .tup [.int (c : Int), .str z]) hT2
          have g := DGet.t (k := [Sum.inl (c : Int), Sum.inr z]) (((s1.trans sT).trans sT2) _ _ hd) upd_same
          rw [ev] at g
          refine ⟨d, _, rfl, g, L, _, _, rfl, rfl, (sT.trans sT2) _ _ e1, ?_, ?_⟩
          · rw [nV_len, List.length_append]
            exact len_line (by show _ + 1 ≤ _; omega)
          · refine ⟨same_in ((s1.trans sT).trans sT2) hL, ⟨acc ++ [c], b, ?_, ?_, ?_, hb⟩, _, rfl⟩
            · rw [upd_same, nV_snoc]
            · rw [← ga, ed, List.append_assoc]
              congr 1
              show [c] ++ goneF R b (rs.drop (i + 1)) = goneF R c (z :: rs.drop (i + 1))
              rw [show goneF R c (z :: rs.drop (i + 1)) = c :: goneF R b (rs.drop (i + 1)) from by
                conv => lhs; unfold goneF
                rw [ev]
                rfl]
              rfl
            · rw [List.length_append, la]
              rfl
      · rintro σ H1 ⟨s1, ⟨acc, c, e1, ga, la, hc⟩, y4, rfl⟩
        rw [List.length_map, List.drop_of_length_le (Nat.le_refl _)] at ga
        refine ⟨s1, ?_, _, rfl⟩
        rw [e1, ← ga]
        rfl
    · rintro _ H1 ⟨s1, e1, y4, rfl⟩
      refine ⟨_, rfl, L, _, rfl, .inl ⟨.inl (.inl e1), fun T hT => ?_⟩⟩
      exact q T _ (s1.trans (same_new hT)) upd_same
end
end K23

namespace K23
open PySem PySem.Spec PyProof.Rows L2 Gk RZ
abbrev s_gone : Stmt := topS 5
theorem sc_gone : FnScope ["web", "world", "start", "row"] ["web", "world", "start", "row"] (defScope s_gone) := ⟨rfl, rfl, rfl, by decide +kernel, rfl, by decide +kernel, by decide +kernel⟩

abbrev s_starts : Stmt := topS 6
theorem sc_starts : FnScope ["web", "world", "row", "goals", "right", "ends", "found", "start", "come_to"] ["web", "world", "row", "goals"] (defScope s_starts) := ⟨rfl, rfl, rfl, by decide +kernel, rfl, by decide +kernel, by decide +kernel⟩

/-! ### goals, ends -/
def GAt (H : Hp) (v : V) (gs : Option (List Nat)) : Prop := (v = .non ∧ gs = none) ∨ ∃ t l, v = .ref t ∧ H t = some (.tup (nV l)) ∧ gs = some l
def endsOf (n : Nat) : Option (List Nat) → List Nat
  | none => List.range n
  | some l => l
def lastN (l : List Nat) : Nat := l.getLastD 0
def stOk (R : List (List Key × V)) (rs : List Str) (es : List Nat) (s : Nat) : Bool :=
  decide (((goneF R s rs).length : Int) = (rs.length : Int) + 1) && inV (.int (lastN (goneF R s rs) : Int)) (nV es)
def startsF (R : List (List Key × V)) (rs : List Str) (es : List Nat) (n : Nat) : List Nat := (List.range n).filter (stOk R rs es)
theorem goneF_cons (R : List (List Key × V)) (s : Nat) (rs : List Str) : ∃ l, goneF R s rs = s :: l := by
  cases rs with
  | nil => exact ⟨[], rfl⟩
  | cons z r =>
    unfold goneF
    split
    · exact ⟨_, rfl⟩
    · exact ⟨_, rfl⟩
theorem last_at (R : List (List Key × V)) (s : Nat) (rs : List Str) : atI (nV (goneF R s rs)) (-1) = some (.int (lastN (goneF R s rs) : Int)) := by
  obtain ⟨l, e⟩ := goneF_cons R s rs
  rw [e]
  have h : s :: l = (s :: l).dropLast ++ [lastN (s :: l)] := by
    have := (List.dropLast_concat_getLast (l := s :: l) (by simp)).symm
    rw [this]
    simp [lastN, List.getLastD_eq_getLast?, List.getLast?_eq_getLast]
  conv => lhs; rw [h, ← nV_snoc]
  exact atI_last _ _
theorem flat_nV (bs : List Nat) : (nV bs).all flatV = true := by
  unfold nV
  rw [List.all_map, List.all_eq_true]
  intro _ _
  rfl
theorem goneF_len (R : List (List Key × V)) : ∀ (rs : List Str) (s : Nat), (goneF R s rs).length ≤ rs.length + 1
  | [], _ => Nat.le_refl _
  | z :: r, s => by
    unfold goneF
    split
    · have := goneF_len R r
      rw [List.length_cons, List.length_cons]
      exact Nat.succ_le_succ (this _)
    · exact Nat.succ_le_succ (Nat.zero_le _)
section
variable {P : Program} {w : World} {K : PySem.W.Frag} {mg : Str → Option Value} {base : Heap} {f : Addr} {fd : FuncData}
def spEnds : Sp := fun vs H Q _ => ∃ (w' : Addr) (n : Nat) (posts : List Post) (g : V) (gs : Option (List Nat)), vs = [.ref w', g] ∧ WebAt H w' n posts ∧ n ≤ 40 ∧ GAt H g gs ∧
  ∀ t H', Same H H' → H' t = some (.tup (nV (endsOf n gs))) → Q (.ref t) H'
theorem ok_ends (F : FnP K "goal_crossings" s_goal_crossings f fd) (B : Bi mg) : FnOk P w K mg base CX0 1 f fd ["web", "goals"] spEnds := by
  refine F.ok sc_goal_crossings (fun vs H Q E h => ?_) (fun cdv A outer s H vs Q E hr h => ?_)
  · obtain ⟨w', n, posts, g, gs, rfl, _⟩ := h
    rfl
  · obtain ⟨w', n, posts, g, gs, rfl, hw, hn, hg, q⟩ := h
    refine ⟨_, PSs.nox ((pss_one (ps_ret (pe_ifExp (pt_cmp (pc_isN (pv 1))) (pe_tupRg rfl (by rfl) B.tuple (prg_1 (by rfl) B.range (pe_ix ix_tupH (pv 0) pe_int (fun _ _ => rfl)))) (pv 1))))), ?_⟩
    obtain ⟨pt, as, hw1, hw2, hw3⟩ := id hw
    rcases hg with ⟨rfl, rfl⟩ | ⟨t, l, rfl, ht, rfl⟩
    · refine ⟨_, rfl, true, rfl, iteT ⟨_, rfl, _, _, _, _, rfl, rfl, hw1, rfl, _, rfl, RgOk.of_le (by decide) (by omega) (by decide) (by omega), fun T hT => ?_⟩⟩
      refine q T _ (same_new hT) (upd_same.trans ?_)
      unfold rgV nV endsOf
      rw [show (((n : Int) - 0).toNat) = n from by omega]
      congr 2
      apply List.map_congr_left
      intro i _
      rw [Int.zero_add]
    · exact ⟨_, rfl, false, rfl, iteF ⟨_, rfl, q t H (fun _ _ h => h) ht⟩⟩

def spGone : Sp := fun vs H Q _ => ∃ (w' t r : Addr) (s n : Nat) (posts : List Post) (bs : List Nat) (rs : List Str), vs = [.ref w', .ref t, .int (s : Int), .ref r] ∧ WebAt H w' n posts ∧ H t = some (.tup (nV bs)) ∧ posts.length = bs.length ∧ posts.length ≤ 10000 ∧
  (∀ b ∈ bs, b < n) ∧ s < n ∧ H r = some (.tup (rs.map V.str)) ∧ rs.length ≤ 10000 ∧ ∀ u H', Same H H' → H' u = some (.tup (nV (goneF (rightsOf posts bs) s rs))) → Q (.ref u) H'
theorem rok_of {n : Nat} {posts : List Post} {bs : List Nat} (h : ∀ b ∈ bs, b < n) : ROk (rightsOf posts bs) n :=
  rights_ok _ _ (fun k v e => by rw [show valV ([] : List (List Key × V)) k = none from rfl] at e; cases e) fun eb hm => h _ (List.of_mem_zip hm).2
theorem ok_gone (F : FnP K "gone" s_gone f fd) (B : Bi mg) (c_right_arms : Cl P w K mg base 1 "right_arms" ["web", "world"] spArms) (c_gone_by : Cl P w K mg base 1 "gone_by" ["right", "start", "row"] spGoneBy) :
    FnOk P w K mg base CX0 2 f fd ["web", "world", "start", "row"] spGone := by
  refine F.ok sc_gone (fun vs H Q E h => ?_) (fun cdv A outer s H vs Q E hr h => ?_)
  · obtain ⟨w', t, r, s, n, posts, bs, rs, rfl, _⟩ := h
    rfl
  · obtain ⟨w', t, r, s, n, posts, bs, rs, rfl, hw, ht, hl, hle, hb, hs, hrs, hrl, q⟩ := h
    refine ⟨_, PSs.nox ((pss_one (ps_ret (pe_cl c_gone_by hr (by decide) (by rfl) (pa_cons (pe_cl c_right_arms hr (by decide) (by rfl) (pa_cons (pv 0) (pa_cons (pv 1) pa_nil))) (pa_cons (pv 2) (pa_cons (pv 3) pa_nil))))))), ?_⟩
    refine ⟨_, rfl, _, rfl, w', t, n, posts, bs, rfl, hw, ht, hl, hle, fun d H1 s1 e1 => ⟨_, rfl, _, rfl, d, r, _, s, n, rs, rfl, e1, rok_of hb, hs, s1 _ _ hrs, hrl, fun u H2 s2 e2 => ?_⟩⟩
    exact q u H2 (s1.trans s2) e2

def spStarts : Sp := fun vs H Q _ => ∃ (w' t r : Addr) (n : Nat) (posts : List Post) (bs : List Nat) (rs : List Str) (g : V) (gs : Option (List Nat)), vs = [.ref w', .ref t, .ref r, g] ∧ WebAt H w' n posts ∧ n ≤ 40 ∧ H t = some (.tup (nV bs)) ∧ posts.length = bs.length ∧ posts.length ≤ 10000 ∧
  (∀ b ∈ bs, b < n) ∧ H r = some (.tup (rs.map V.str)) ∧ rs.length ≤ 10000 ∧ GAt H g gs ∧ ∀ u H', Same H H' → H' u = some (.tup (nV (startsF (rightsOf posts bs) rs (endsOf n gs) n))) → Q (.ref u) H'
theorem range_filter (p : Nat → Bool) (i : Nat) : (List.range (i + 1)).filter p = (List.range i).filter p ++ (if p i = true then [i] else []) := by
  rw [List.range_succ, List.filter_append]
  congr 1
  by_cases h : p i = true
  · rw [if_pos h, List.filter_cons_of_pos h]
    rfl
  · rw [if_neg h, List.filter_cons_of_neg h]
    rfl
theorem ok_starts (F : FunD K "starts" "starts" (defArgs s_starts) (defBody s_starts) (defScope s_starts) [] [("goals", .non)] f fd) (B : Bi mg) (c_right_arms : Cl P w K mg base 1 "right_arms" ["web", "world"] spArms)
    (c_gone_by : Cl P w K mg base 1 "gone_by" ["right", "start", "row"] spGoneBy) (c_goal_crossings : Cl P w K mg base 1 "goal_crossings" ["web", "goals"] spEnds) :
    FnOk P w K mg base CX0 2 f fd ["web", "world", "row", "goals"] spStarts := by
  refine F.ok sc_starts (fun vs H Q E h => ?_) (fun cdv A outer s H vs Q E hr h => ?_)
  · obtain ⟨w', t, r, n, posts, bs, rs, g, gs, rfl, _⟩ := h
    rfl
  · obtain ⟨w', t, r, n, posts, bs, rs, g, gs, rfl, hw, hn, ht, hl, hle, hb, hrs, hrl, hg, q⟩ := h
    refine ⟨_, PSs.nox ((pss_cons (ps_set (i := 4) sc_starts.nd rfl (Or.inl rfl) (pe_cl c_right_arms hr (by decide) (by rfl) (pa_cons (pv 0) (pa_cons (pv 1) pa_nil))))
      (pss_cons (ps_set (i := 5) sc_starts.nd rfl (Or.inl rfl) (pe_cl c_goal_crossings hr (by decide) (by rfl) (pa_cons (pv 0) (pa_cons (pv 3) pa_nil))))
      (pss_cons (ps_set (i := 6) sc_starts.nd rfl (Or.inl rfl) (pe_lst pa_nil))
      (pss_cons (ps_for PassesOwn.never rfl (pi_range1 (by rfl) B.range (pa_cons (pe_ix ix_tupH (pv 0) pe_int (fun _ _ => rfl)) pa_nil)) (pg_name (i := 7) sc_starts.nd rfl (Or.inl rfl)) (pss_cons (ps_set (i := 8) sc_starts.nd rfl (Or.inl rfl) (pe_cl c_gone_by hr (by decide) (by rfl) (pa_cons (pv 4) (pa_cons (pv 7) (pa_cons (pv 2) pa_nil)))))
      (pss_one (ps_if ((pw_and (pt_cmpR op_eq (pe_callB call_len_seq (by rfl) B.len (by decide +kernel) (pa_cons (pv 8) pa_nil)) (pe_op op_add (pe_callB call_len_seq (by rfl) B.len (by decide +kernel) (pa_cons (pv 2) pa_nil)) pe_int) (nomark _)) (pw_and1 (pt_cmpR in_H (pe_ix ix_tupH (pv 8) (pe_un un_neg pe_int) (fun _ _ => rfl)) (pv 5) rfl)))).pt (pss_one (ps_expr (pe_bm PySem.F.plainAttrs_list PySem.F.slot_list_append PySem.F.type_list_append mt_append (pv 6) (pa_cons (pv 7) pa_nil)))) pss_nil))))
      (pss_one (ps_ret (pe_callTy call_tuple_of (by rfl) B.tuple (by decide +kernel) (pa_cons (pv 6) pa_nil))))))))), ?_⟩
    refine ⟨_, rfl, _, rfl, w', t, n, posts, bs, rfl, hw, ht, hl, hle, fun d H1 s1 e1 => ?_⟩
    have hg1 : GAt H1 g gs := by
      rcases hg with z | ⟨a, l, z, y, x⟩
      · exact .inl z
      · exact .inr ⟨a, l, z, s1 _ _ y, x⟩
    refine ⟨_, rfl, _, rfl, w', n, posts, g, gs, rfl, hw.same s1, hn, hg1, fun en H2 s2 e2 => ?_⟩
    refine ⟨Nat.zero_le _, fun L hL => ?_⟩
    have sL := same_new (o := .lst []) hL
    obtain ⟨pt, as, hw1, hw2, hw3⟩ := id hw
    refine ⟨_, rfl, _, _, _, _, rfl, rfl, (s1.trans (s2.trans sL)) _ _ hw1, rfl, _, rfl, by omega, by omega, for_range (lo := 0) (n := n) (fun i σ H' => Same H2 H' ∧ H' L = some (.lst (nV ((List.range i).filter (stOk (rightsOf posts bs) rs (endsOf n gs))))) ∧
      ∃ y7 y8, σ = [some (.ref w'), some (.ref t), some (.ref r), some g, some (.ref d), some (.ref en), some (.ref L), y7, y8]) ?_ ?_ ?_⟩
    · exact ⟨sL, upd_same, _, _, rfl⟩
    · rintro i σ H3 hi ⟨s3, e3, y7, y8, rfl⟩
      have iz : ((0 : Int) + (i : Int)) = (i : Int) := Int.zero_add _
      rw [iz]
      refine ⟨_, rfl, _, rfl, _, rfl, d, r, _, i, n, rs, rfl, (s2.trans s3) _ _ e1, rok_of hb, hi, (s1.trans (s2.trans s3)) _ _ hrs, hrl, fun u H4 s4 e4 => ?_⟩
      have hrow := ((s1.trans (s2.trans s3)).trans s4) _ _ hrs
      have hen := (s3.trans s4) _ _ e2
      have more : Same H2 H4 := s3.trans s4
      have el : (nV (goneF (rightsOf posts bs) i rs)).length = (goneF (rightsOf posts bs) i rs).length := nV_len _
      have er : (rs.map V.str).length = rs.length := List.length_map ..
      have no : stOk (rightsOf posts bs) rs (endsOf n gs) i = false → Same H2 H4 ∧ H4 L = some (.lst (nV ((List.range (i + 1)).filter (stOk (rightsOf posts bs) rs (endsOf n gs))))) := fun z => by
        refine ⟨more, ?_⟩
        rw [range_filter, if_neg (by rw [z]; decide), List.append_nil]
        exact s4 _ _ e3
      refine ⟨_, rfl, u, _, rfl, .inr (.inl (.inl e4)), _, rfl, r, _, rfl, .inr (.inl (.inl hrow)), _, _, rfl, rfl, rfl, _, rfl, ite2 (fun e => ?_) (fun e => ?_)⟩
      · have e' := of_decide_eq_true e
        refine ⟨_, rfl, 1, rfl, u, _, _, _, rfl, rfl, e4, last_at _ _ _, _, rfl, en, _, rfl, .inr hen, rfl, flat_nV _, _, rfl, ite2 (fun y => ?_) (fun y => ?_)⟩
        · refine ⟨_, rfl, .inl ⟨rfl, _, .inl (.inl (s4 _ _ e3))⟩, _, rfl, L, _, _, rfl, rfl, s4 _ _ e3, ?_, ?_, ?_, _, _, rfl⟩
          · rw [nV_len]
            have := List.length_filter_le (stOk (rightsOf posts bs) rs (endsOf n gs)) (List.range i)
            rw [List.length_range] at this
            exact len_line (by omega)
          · exact same_in more hL
          · rw [upd_same, range_filter, if_pos, nV_snoc]
            unfold stOk
            rw [Bool.and_eq_true]
            exact ⟨decide_eq_true (by rw [← el, ← er]; exact V.int.inj e'), y⟩
        · obtain ⟨n1, n2⟩ := no (by unfold stOk; rw [Bool.eq_false_iff.mpr y, Bool.and_false])
          exact ⟨n1, n2, _, _, rfl⟩
      · obtain ⟨n1, n2⟩ := no (by
          unfold stOk
          rw [decide_eq_false (fun z => e (decide_eq_true (by rw [el, er]; exact congrArg V.int z))), Bool.false_and])
        exact iteF ⟨n1, n2, _, _, rfl⟩
    · rintro σ H3 ⟨s3, e3, y7, y8, rfl⟩
      refine ⟨_, rfl, L, _, rfl, .inl ⟨.inl (.inl e3), fun T hT => ?_⟩⟩
      exact q T _ ((s1.trans (s2.trans s3)).trans (same_new hT)) upd_same
end
end K23

namespace K23
open PySem PySem.Spec PyProof.Rows L2 Gk RZ
abbrev s_law_row : Stmt := topS 16
theorem sc_law_row : FnScope ["_law_pot_here", "_law_names_here", "_law_web_here", "_law_world_here", "_law_way", "_law_size", "_law_by", "_law_here", "_law_found", "_law_post", "_law_arm", "_law_name", "_law_k"] ["_law_pot_here", "_law_names_here", "_law_web_here", "_law_world_here"] (defScope s_law_row) := ⟨rfl, rfl, rfl, by decide +kernel, rfl, by decide +kernel, by decide +kernel⟩

section
variable {P : Program} {w : World} {K : PySem.W.Frag} {mg : Str → Option Value} {base : Heap} {f : Addr} {fd : FuncData}
/-! ### the law's own going -/
def spLGone : Sp := fun vs H Q _ => ∃ (d t : Addr) (R : List (List Key × V)) (s n : Nat) (rs : List Str), vs = [.ref d, .int (s : Int), .ref t] ∧ H d = some (.dT R) ∧ ROk R n ∧ s < n ∧ H t = some (.tup (rs.map V.str)) ∧ rs.length ≤ 10000 ∧
  ∀ u H', Same H H' → H u = none → H' u = some (.lst (nV (goneF R s rs))) → Q (.ref u) H'
theorem ok_lgone (F : FnP K "_law_gone" s_law_gone f fd) (B : Bi mg) : FnOk P w K mg base CX0 1 f fd ["_law_arms", "_law_start", "_law_row_here"] spLGone := by
  refine F.ok sc_law_gone (fun vs H Q E h => ?_) (fun cdv A outer s H vs Q E hr h => ?_)
  · obtain ⟨d, t, R, s, n, rs, rfl, _⟩ := h
    rfl
  · obtain ⟨d, t, R, s, n, rs, rfl, hd, hR, hs, ht, hl, q⟩ := h
    refine ⟨_, PSs.nox ((pss_cons (ps_set (i := 3) sc_law_gone.nd rfl (Or.inl rfl) (pe_lst (pa_cons (pv 1) pa_nil)))
      (pss_cons (ps_for PassesOwn.never rfl (pi_tup (pv 2)) (pg_name (i := 4) sc_law_gone.nd rfl (Or.inl rfl)) (pss_cons (ps_if (pt_cmp (pc_dnotin (hu_of hr) (pe_tup (pa_cons (pe_ix ix_lstH (pv 3) (pe_un un_neg pe_int) (fun _ _ => rfl)) (pa_cons (pv 4) pa_nil))) (pv 0))) (pss_one (ps_ret (pv 3))) pss_nil)
      (pss_one (ps_expr (pe_bm PySem.F.plainAttrs_list PySem.F.slot_list_append PySem.F.type_list_append mt_append (pv 3) (pa_cons (pe_dget (hu_of hr) (pv 0) (pe_tup (pa_cons (pe_ix ix_lstH (pv 3) (pe_un un_neg pe_int) (fun _ _ => rfl)) (pa_cons (pv 4) pa_nil))) (fun _ _ => rfl)) pa_nil))))))
      (pss_one (ps_ret (pv 3)))))), ?_⟩
    refine ⟨_, rfl, (by show 1 ≤ sizeLine; decide), fun L hL => ?_⟩
    have sL := same_new (o := .lst [.int (s : Int)]) hL
    refine ⟨_, rfl, t, rfl, ⟨_, .inl (.inl (sL _ _ ht))⟩, for_tup (K := K) (xs := rs.map V.str) (fun i σ H' => Same H H' ∧ (∃ acc c, H' L = some (.lst (nV (acc ++ [c]))) ∧ acc ++ goneF R c (rs.drop i) = goneF R s rs ∧ acc.length = i ∧ c < n) ∧ ∃ y4, σ = [some (.ref d), some (.int (s : Int)), some (.ref t), some (.ref L), y4]) ?_ (fun i σ H' _ h => .inl (.inl (h.1 _ _ ht))) ?_ ?_⟩
    · exact ⟨sL, ⟨[], s, upd_same, rfl, rfl, hs⟩, _, rfl⟩
    · rintro i v σ H1 hv ⟨s1, ⟨acc, c, e1, ga, la, hc⟩, y4, rfl⟩
      rw [List.getElem?_map] at hv
      obtain ⟨z, ez, rfl⟩ := Option.map_eq_some_iff.mp hv
      have hi : i < rs.length := (List.getElem?_eq_some_iff.mp ez).1
      have ed : rs.drop i = z :: rs.drop (i + 1) := by
        rw [List.drop_eq_getElem_cons hi]
        congr 1
        rw [List.getElem?_eq_getElem hi] at ez
        exact Option.some.inj ez
      have hlast : atI (nV (acc ++ [c])) (-1) = some (.int (c : Int)) := by
        rw [← nV_snoc]
        exact atI_last _ _
      refine ⟨_, rfl, 1, rfl, L, _, _, _, rfl, rfl, e1, hlast, _, rfl, (by show 2 ≤ sizeLine; decide), fun T hT => ?_⟩
      have sT := same_new (o := .tup [.int (c : Int), .str z]) hT
      refine ⟨_, rfl, d, _, rfl, DGet.t (k := [Sum.inl (c : Int), Sum.inr z]) ((s1.trans sT) _ _ hd) upd_same, _, rfl, ?_⟩
      cases ev : valV R [Sum.inl (c : Int), Sum.inr z] with
      | none =>
        refine iteT ⟨_, rfl, q L _ (s1.trans sT) hL ?_⟩
        rw [sT _ _ e1, ← ga, ed]
        show some (HO.lst (nV (acc ++ [c]))) = some (HO.lst (nV (acc ++ goneF R c (z :: rs.drop (i + 1)))))
        rw [show goneF R c (z :: rs.drop (i + 1)) = [c] from by unfold goneF; rw [ev]]
      | some b0 =>
        obtain ⟨b, rfl, hb⟩ := hR _ _ ev
        refine iteF ?_
        refine ⟨_, rfl, .inl ⟨rfl, _, .inl (.inl (sT _ _ e1))⟩, _, rfl, _, rfl, 1, rfl, L, _, _, _, rfl, rfl, sT _ _ e1, hlast, _, rfl, (by show 2 ≤ sizeLine; decide), fun T2 hT2 => ?_⟩
        have sT2 := same_new (o := .tup [.int (c : Int), .str z]) hT2
        have g := DGet.t (k := [Sum.inl (c : Int), Sum.inr z]) (((s1.trans sT).trans sT2) _ _ hd) upd_same
        rw [ev] at g
        refine ⟨d, _, rfl, g, L, _, _, rfl, rfl, (sT.trans sT2) _ _ e1, ?_, ?_⟩
        · rw [nV_len, List.length_append]
          exact len_line (by show _ + 1 ≤ _; omega)
        · refine ⟨same_in ((s1.trans sT).trans sT2) hL, ⟨acc ++ [c], b, ?_, ?_, ?_, hb⟩, _, rfl⟩
          · rw [upd_same, nV_snoc]
          · rw [← ga, ed, List.append_assoc]
            congr 1
            show [c] ++ goneF R b (rs.drop (i + 1)) = goneF R c (z :: rs.drop (i + 1))
            rw [show goneF R c (z :: rs.drop (i + 1)) = c :: goneF R b (rs.drop (i + 1)) from by
              conv => lhs; unfold goneF
              rw [ev]
              rfl]
            rfl
          · rw [List.length_append, la]
            rfl
    · rintro σ H1 ⟨s1, ⟨acc, c, e1, ga, la, hc⟩, y4, rfl⟩
      rw [List.length_map, List.drop_of_length_le (Nat.le_refl _)] at ga
      refine ⟨_, rfl, q L H1 s1 hL ?_⟩
      rw [e1, ← ga]
      rfl

/-! ### the row -/
def PrAt (n : Nat) (H : Hp) (a : Addr) : Prop := ∃ (z : Str) (b : Nat), H a = some (.tup [.str z, .int (b : Int)]) ∧ Nm z ∧ b < n
def LsAt (p F0 : Addr) (n m : Nat) (H : Hp) (v : V) : Prop := ∃ (l : Addr) (as : List Addr), v = .ref l ∧ (l ≠ p ∧ l ≠ F0) ∧ H l = some (.lst (as.map V.ref)) ∧ as ≠ [] ∧ as.length ≤ m ∧ ∀ a ∈ as, PrAt n H a
theorem PrAt.same {n : Nat} {H H' : Hp} {a : Addr} (h : PrAt n H a) (s : Same H H') : PrAt n H' a := let ⟨z, b, e, q⟩ := h; ⟨z, b, s _ _ e, q⟩
theorem PrAt.keep {n : Nat} {H H' : Hp} {p a : Addr} (hp : Pot H p) (k : Keep [p] H H') (h : PrAt n H a) : PrAt n H' a := let ⟨z, b, e, q⟩ := h; ⟨z, b, tup_keep hp k e, q⟩
theorem PrAt.upd {n : Nat} {H : Hp} {a D : Addr} {kvs : List (Key × V)} {o : HO} (hD : H D = some (.dK kvs)) (h : PrAt n H a) : PrAt n (L2.upd H D o) a := by
  obtain ⟨z, b, e, q⟩ := h
  refine ⟨z, b, ?_, q⟩
  rw [upd_ne (fun y => by rw [y, hD] at e; cases e)]
  exact e
theorem PrAt.updL {n : Nat} {H : Hp} {a D : Addr} {xs : List V} {o : HO} (hD : H D = some (.lst xs)) (h : PrAt n H a) : PrAt n (L2.upd H D o) a := by
  obtain ⟨z, b, e, q⟩ := h
  refine ⟨z, b, ?_, q⟩
  rw [upd_ne (fun y => by rw [y, hD] at e; cases e)]
  exact e
theorem LsAt.same {p F0 : Addr} {n m : Nat} {H H' : Hp} {v : V} (h : LsAt p F0 n m H v) (s : Same H H') : LsAt p F0 n m H' v :=
  let ⟨l, as, e, hn, hl, ne, le, q⟩ := h; ⟨l, as, e, hn, s _ _ hl, ne, le, fun a ha => (q a ha).same s⟩
theorem LsAt.keep {p F0 : Addr} {n m : Nat} {H H' : Hp} {v : V} (hp : Pot H p) (k : Keep [p] H H') (h : LsAt p F0 n m H v) : LsAt p F0 n m H' v :=
  let ⟨l, as, e, hn, hl, ne, le, q⟩ := h; ⟨l, as, e, hn, Keep.at k hn.1 hl, ne, le, fun a ha => (q a ha).keep hp k⟩
theorem LsAt.upd {p F0 D : Addr} {n m : Nat} {H : Hp} {v : V} {kvs : List (Key × V)} {o : HO} (hD : H D = some (.dK kvs)) (h : LsAt p F0 n m H v) : LsAt p F0 n m (L2.upd H D o) v := by
  obtain ⟨l, as, e, hn, hl, ne, le, q⟩ := h
  refine ⟨l, as, e, hn, ?_, ne, le, fun a ha => (q a ha).upd hD⟩
  rw [upd_ne (fun y => by rw [y, hD] at hl; cases hl)]
  exact hl
theorem LsAt.updL {p F0 : Addr} {n m : Nat} {H : Hp} {v : V} {xs : List V} {o : HO} (hF : H F0 = some (.lst xs)) (h : LsAt p F0 n m H v) : LsAt p F0 n m (L2.upd H F0 o) v := by
  obtain ⟨l, as, e, hn, hl, ne, le, q⟩ := h
  refine ⟨l, as, e, hn, ?_, ne, le, fun a ha => (q a ha).updL hF⟩
  rw [upd_ne hn.2]
  exact hl
theorem LsAt.mono {p F0 : Addr} {n m m' : Nat} {H : Hp} {v : V} (h : LsAt p F0 n m H v) (l : m ≤ m') : LsAt p F0 n m' H v :=
  let ⟨a, as, e, hn, hl, ne, le, q⟩ := h; ⟨a, as, e, hn, hl, ne, Nat.le_trans le l, q⟩
def ByAt (p F0 : Addr) (n m : Nat) (H : Hp) (D : Addr) : Prop := ∃ kvs : List (Key × V), H D = some (.dK kvs) ∧ kvs.length ≤ m ∧ ∀ k v, valV kvs k = some v → LsAt p F0 n m H v
theorem ByAt.same {p F0 D : Addr} {n m : Nat} {H H' : Hp} (h : ByAt p F0 n m H D) (s : Same H H') : ByAt p F0 n m H' D := let ⟨kvs, e, l, q⟩ := h; ⟨kvs, s _ _ e, l, fun k v z => (q k v z).same s⟩
theorem ByAt.keep {p F0 D : Addr} {n m : Nat} {H H' : Hp} (ne : D ≠ p) (hp : Pot H p) (k : Keep [p] H H') (h : ByAt p F0 n m H D) : ByAt p F0 n m H' D := let ⟨kvs, e, l, q⟩ := h; ⟨kvs, Keep.at k ne e, l, fun _ v z => (q _ v z).keep hp k⟩
theorem ByAt.updL {p F0 D : Addr} {n m : Nat} {H : Hp} {xs : List V} {o : HO} (hF : H F0 = some (.lst xs)) (h : ByAt p F0 n m H D) : ByAt p F0 n m (L2.upd H F0 o) D := by
  obtain ⟨kvs, e, l, q⟩ := h
  refine ⟨kvs, ?_, l, fun k v z => (q k v z).updL hF⟩
  rw [upd_ne (fun y => by rw [y, hF] at e; cases e)]
  exact e
theorem kk (b : Bool) (r : Nat) : (1 : Int) + (r : Int) * (if b = true then 1 else 0) = ((1 + r * (if b = true then 1 else 0) : Nat) : Int) := by
  cases b <;> simp
theorem zz_nm : Nm "zz" := ⟨by decide, by decide, by decide⟩
theorem rep_one (k : Nat) (z : Str) : (List.replicate k [V.str z]).flatten = (List.replicate k z).map V.str := by
  induction k with
  | zero => rfl
  | succ k ih => rw [List.replicate_succ, List.flatten_cons, ih, List.replicate_succ]; rfl
theorem rep_all (k : Nat) (rs : List Str) : (List.replicate k (rs.map V.str)).flatten = ((List.replicate k rs).flatten).map V.str := by
  induction k with
  | zero => rfl
  | succ k ih => rw [List.replicate_succ, List.flatten_cons, ih, List.replicate_succ, List.flatten_cons, List.map_append]
theorem rep_mem {k : Nat} {rs : List Str} {z : Str} (h : z ∈ (List.replicate k rs).flatten) : z ∈ rs := by
  obtain ⟨l, hl, hz⟩ := List.mem_flatten.mp h
  rw [List.eq_of_mem_replicate hl] at hz
  exact hz
theorem min_nat (a b : Nat) : (if (b : Int) < (a : Int) then (b : Int) else (a : Int)) = ((min a b : Nat) : Int) := by
  split <;> omega
def spRow : Sp := fun vs H Q _ => ∃ (p l w' t : Addr) (n : Nat) (zs : List Str) (posts : List Post) (bs : List Nat), vs = [.ref p, .ref l, .ref w', .ref t] ∧ Pot H p ∧ 1 ≤ n ∧ n ≤ 40 ∧
  H l = some (.lst (zs.map V.str)) ∧ l ≠ p ∧ 1 ≤ zs.length ∧ zs.length ≤ 100 ∧ (∀ z ∈ zs, Nm z) ∧ WebAt H w' n posts ∧ (∀ e ∈ posts, PostOk n e) ∧ H t = some (.tup (nV bs)) ∧ posts.length = bs.length ∧ posts.length ≤ 10000 ∧ (∀ b ∈ bs, b < n) ∧
  ∀ u (rs : List Str) H', H' u = some (.tup (rs.map V.str)) → rs.length ≤ 400 → (∀ z ∈ rs, Nm z) → Keep [p] H H' → Pot H' p → Q (.ref u) H'
theorem ok_row (F : FnP K "_law_row" s_law_row f fd) (B : Bi mg) (c_law_of : Cl P w K mg base 2 "_law_of" ["_law_pot_here", "_law_some"] (spOf K)) (c_law_take : Cl P w K mg base 1 "_law_take" ["_law_pot_here", "_law_upto"] spTake) :
    FnOk P w K mg base CX0 3 f fd ["_law_pot_here", "_law_names_here", "_law_web_here", "_law_world_here"] spRow := by
  refine F.ok sc_law_row (fun vs H Q E h => ?_) (fun cdv A outer s H vs Q E hr h => ?_)
  · obtain ⟨p, l, w', t, n, zs, posts, bs, rfl, _⟩ := h
    rfl
  · obtain ⟨p, l, w', t, n, zs, posts, bs, rfl, hp, n1, n40, hl, hlp, z1, z100, hz, hw, hok, ht, hlen, hle, hb, q⟩ := h
    refine ⟨_, PSs.nox ((pss_cons (ps_par (i := 4) (j := 5) rfl sc_law_row.nd rfl rfl (by decide) rfl rfl (pa_cons (pe_cl c_law_take hr (by decide) (by rfl) (pa_cons (pv 0) (pa_cons pe_int pa_nil))) (pa_cons (pe_cl c_law_of hr (by decide) (by rfl) (pa_cons (pv 0) (pa_cons (pe_lst (pa_cons pe_int (pa_cons pe_int (pa_cons pe_int (pa_cons pe_int (pa_cons pe_int (pa_cons pe_int (pa_cons pe_int (pa_cons pe_int pa_nil))))))))) pa_nil))) pa_nil)) (by rfl))
      (pss_cons (ps_if (pt_cmpR op_eq (pv 4) pe_int (nomark _)) (pss_one (ps_ret (pe_callTy call_tuple_of (by rfl) B.tuple (by decide +kernel) (pa_cons (pe_lc (own := [("_law_k", 12)]) (g := gName 12) (tt := tYes) rfl sc_law_row.nd (pi_range1 (by rfl) B.range (pa_cons (pe_callB (call_min2 rfl) (by rfl) B.min (by decide +kernel) (pa_cons (pv 5) (pa_cons pe_int pa_nil))) pa_nil)) (blkOk_by (own := [("_law_k", 12)]) (N := ["_law_pot_here", "_law_names_here", "_law_web_here", "_law_world_here", "_law_way", "_law_size", "_law_by", "_law_here", "_law_found", "_law_post", "_law_arm", "_law_name", "_law_k"]) (sc := defScope s_law_row) (by decide +kernel)) (fun _ _ _ _ _ => (pg_name (i := 12) sc_law_row.nd rfl (Or.inl rfl))) (fun _ _ _ _ _ => pts_nil) (fun _ _ _ _ _ => (pe_cl c_law_of hr (by decide) (by rfl) (pa_cons (pv 0) (pa_cons (pe_op op_cat (pv 1) (pe_lst (pa_cons pe_str pa_nil))) pa_nil))))) pa_nil)))) pss_nil)
      (pss_cons (ps_if (pt_cmpR op_eq (pv 4) pe_int (nomark _)) (pss_one (ps_ret (pe_op op_mulT (pe_tup (pa_cons (pe_cl c_law_of hr (by decide) (by rfl) (pa_cons (pv 0) (pa_cons (pv 1) pa_nil))) pa_nil)) (pv 5)))) pss_nil)
      (pss_cons (ps_par3 (i := 6) (j := 7) (l := 8) rfl sc_law_row.nd rfl rfl rfl (by decide) (by decide) (by decide) rfl rfl rfl (pa_cons pe_dnewK (pa_cons (pe_cl c_law_take hr (by decide) (by rfl) (pa_cons (pv 0) (pa_cons (pe_ix ix_tupH (pv 2) pe_int (fun _ _ => rfl)) pa_nil))) (pa_cons (pe_lst pa_nil) pa_nil))) (by rfl))
      (pss_cons (ps_for PassesOwn.never rfl (pi_zipA (by rfl) B.zip (pa_cons (pe_ix ix_tupH (pv 2) pe_int (fun _ _ => rfl)) (pa_cons (pv 3) pa_nil))) (pg_tup rfl (pgs_cons (pg_name (i := 9) sc_law_row.nd rfl (Or.inl rfl)) (pgs_cons (pg_name (i := 10) sc_law_row.nd rfl (Or.inl rfl)) pgs_nil))) (pss_one (ps_asg (pe_op op_cat (pe_dget2 (hu_of hr) (pv 6) (pe_ix ix_tupH (pv 9) pe_int (fun _ _ => rfl)) (pe_lst pa_nil) ⟨rfl, rfl, rfl, rfl⟩) (pe_lst (pa_cons (pe_tup (pa_cons (pe_ix ix_tupH (pv 9) pe_int (fun _ _ => rfl)) (pa_cons (pv 10) pa_nil))) pa_nil))) (pg_sub (pv 6) (pe_ix ix_tupH (pv 9) pe_int (fun _ _ => rfl)) (set_dict (hu_of hr))))))
      (C8.pss_cut (ps_while PassesOwn.never ((pw_and (pt_cmpR op_lt (pe_callB call_len_seq (by rfl) B.len (by decide +kernel) (pa_cons (pv 8) pa_nil)) (pe_callB (call_min2 rfl) (by rfl) B.min (by decide +kernel) (pa_cons (pv 5) (pa_cons pe_int pa_nil))) (nomark _)) (pw_and1 (pt_cmp (pc_din (hu_of hr) (pv 7) (pv 6)))))).pt (pss_cons (ps_asg (pe_cl c_law_of hr (by decide) (by rfl) (pa_cons (pv 0) (pa_cons (pe_dget (hu_of hr) (pv 6) (pv 7) (fun _ _ => rfl)) pa_nil))) (pg_tup rfl (pgs_cons (pg_name (i := 11) sc_law_row.nd rfl (Or.inl rfl)) (pgs_cons (pg_name (i := 7) sc_law_row.nd rfl (Or.inl rfl)) pgs_nil))))
      (pss_one (ps_expr (pe_bm PySem.F.plainAttrs_list PySem.F.slot_list_append PySem.F.type_list_append mt_append (pv 8) (pa_cons (pv 11) pa_nil))))))
      (pss_one (ps_ret (pe_op op_mulT (pe_callTy call_tuple_of (by rfl) B.tuple (by decide +kernel) (pa_cons (pv 8) pa_nil)) (pe_op op_add pe_int (pe_op op_mul (pe_cl c_law_take hr (by decide) (by rfl) (pa_cons (pv 0) (pa_cons pe_int pa_nil))) (pe_callTy call_int1 (by rfl) B.int (by decide +kernel) (pa_cons (pe_cmpR op_eq (pv 4) pe_int (nomark _)) pa_nil)))))))))))))), ?_⟩
    obtain ⟨pt, as, hw1, hw2, hw3⟩ := id hw
    have lap := Paired.length hw3
    refine ⟨_, rfl, p, 4, rfl, hp, by decide, by decide, fun way H1 hway k1 hp1 => ⟨_, rfl, (by show 8 ≤ sizeLine; decide), fun L1 hL1 => ?_⟩⟩
    have sL1 := same_new (o := .lst [.int 0, .int 1, .int 2, .int 3, .int 5, .int 9, .int 20, .int 400]) hL1
    refine ⟨p, hp1.same sL1, .inl ⟨L1, _, rfl, hp1.ne hL1, upd_same, by decide, by decide, fun x H2 hx k2 hp2 => ?_⟩⟩
    obtain ⟨size, rfl, hsize⟩ : ∃ size : Nat, x = .int (size : Int) ∧ size ≤ 400 := by
      simp only [List.mem_cons, List.not_mem_nil, or_false] at hx
      rcases hx with z | z | z | z | z | z | z | z <;> rw [z]
      · exact ⟨0, rfl, by decide⟩
      · exact ⟨1, rfl, by decide⟩
      · exact ⟨2, rfl, by decide⟩
      · exact ⟨3, rfl, by decide⟩
      · exact ⟨5, rfl, by decide⟩
      · exact ⟨9, rfl, by decide⟩
      · exact ⟨20, rfl, by decide⟩
      · exact ⟨400, rfl, by decide⟩
    have k12 : Keep [p] H H2 := (k1.trans (Keep.of sL1)).trans k2
    have hl2 := Keep.at k12 hlp hl
    refine ⟨_, _, rfl, _, rfl, rfl, _, rfl, ite2 (fun e => ?_) (fun e => ?_)⟩
    · refine ⟨_, rfl, (size : Int), 60, rfl, ?_⟩
      rw [show (if (60 : Int) < (size : Int) then (60 : Int) else (size : Int)) = ((min size 60 : Nat) : Int) from min_nat size 60]
      refine ⟨_, rfl, by omega, by omega, fun D hD => lc_range (lo := 0) (n := min size 60) (fun i H' => ∃ rs : List Str, rs.length ≤ i ∧ (∀ z ∈ rs, Nm z) ∧ Keep [p] H2 H' ∧ Pot H' p ∧ H' D = some (.lst (rs.map V.str))) ?_ ?_ ?_⟩
      · exact ⟨[], Nat.zero_le _, fun _ h => (List.not_mem_nil h).elim, Keep.of (same_new hD), hp2.same (same_new hD), upd_same⟩
      · rintro i H3 hi ⟨rs, lr, hrs, k3, hp3, e3⟩
        have hDp : D ≠ p := hp2.ne hD
        have hl3 := Keep.at k3 hlp hl2
        refine ⟨rfl, _, rfl, _, rfl, (by show 1 ≤ sizeLine; decide), fun A1 hA1 => ?_⟩
        have sA := same_new (o := .lst [.str "zz"]) hA1
        refine ⟨l, A1, _, _, rfl, rfl, sA _ _ hl3, upd_same, ?_, fun C hC => ?_⟩
        · rw [List.length_map]
          exact line (by show _ + 1 ≤ _; omega)
        have sC := same_new (o := .lst (zs.map V.str ++ [.str "zz"])) hC
        have hpC := (hp3.same sA).same sC
        refine ⟨p, hpC, .inl ⟨C, _, rfl, (hp3.same sA).ne hC, upd_same, ?_, ?_, fun x H4 hx k4 hp4 => ?_⟩⟩
        · rw [List.length_append, List.length_map]
          show 1 ≤ _ + 1
          omega
        · rw [List.length_append, List.length_map]
          show _ + 1 < _
          omega
        obtain ⟨z, rfl, nz⟩ : ∃ z, x = .str z ∧ Nm z := by
          rcases List.mem_append.mp hx with y | y
          · obtain ⟨z, hzm, rfl⟩ := List.mem_map.mp y
            exact ⟨z, rfl, hz z hzm⟩
          · exact ⟨_, List.mem_singleton.mp y, zz_nm⟩
        have e4 := Keep.at k4 hDp ((sA.trans sC) _ _ e3)
        refine ⟨_, e4, ?_, rs ++ [z], ?_, ?_, ?_, hp4.upd hDp, ?_⟩
        · rw [List.length_map]
          exact len_line (by omega)
        · rw [List.length_append]
          show _ + 1 ≤ _
          omega
        · intro y hy
          rcases List.mem_append.mp hy with y1 | y1
          · exact hrs y y1
          · rw [List.mem_singleton.mp y1]
            exact nz
        · exact keep_new ((k3.trans (Keep.of (sA.trans sC))).trans k4) hD
        · rw [upd_same, List.map_append]
          rfl
      · rintro H3 ⟨rs, lr, hrs, k3, hp3, e3⟩
        refine ⟨D, _, rfl, .inl ⟨.inl (.inl e3), fun T hT => ?_⟩⟩
        have sT := same_new (o := .tup (rs.map V.str)) hT
        exact q T rs _ upd_same (by omega) hrs ((k12.trans k3).trans (Keep.of sT)) (hp3.same sT)
    refine ⟨_, rfl, rfl, _, rfl, ite2 (fun e1 => ?_) (fun e1 => ?_)⟩
    · refine ⟨_, rfl, _, rfl, p, hp2, .inl ⟨l, _, rfl, hlp, hl2, by rw [List.length_map]; exact z1, by rw [List.length_map]; omega, fun x H3 hx k3 hp3 => ?_⟩⟩
      obtain ⟨z, hzm, rfl⟩ := List.mem_map.mp hx
      refine ⟨(by show 1 ≤ sizeLine; decide), fun T hT => ?_⟩
      have sT := same_new (o := .tup [.str z]) hT
      refine ⟨_, rfl, T, size, _, rfl, rfl, upd_same, by omega, by show 1 ≤ _; decide, fun u H4 s4 e4 => ?_⟩
      rw [rep_one] at e4
      refine q u _ H4 e4 (by rw [List.length_replicate]; exact hsize) (fun y hy => ?_) ((k12.trans k3).trans (Keep.of (sT.trans s4))) ((hp3.same sT).same s4)
      rw [List.eq_of_mem_replicate hy]
      exact hz z hzm
    · refine fun D hD => ?_
      have sD := same_new (o := .dK []) hD
      have hDp : D ≠ p := hp2.ne hD
      refine ⟨_, rfl, _, rfl, _, _, _, _, rfl, rfl, sD _ _ (tup_keep hp k12 hw1), rfl, p, n, rfl, hp2.same sD, n1, by omega, fun here H3 hhere k3 hp3 => ⟨Nat.zero_le _, fun F0 hF => ?_⟩⟩
      have sF := same_new (o := .lst []) hF
      have hFp : F0 ≠ p := hp3.ne hF
      have k23 : Keep [p] H2 (upd H3 F0 (.lst [])) := ((Keep.of sD).trans k3).trans (Keep.of sF)
      have k13 : Keep [p] H (upd H3 F0 (.lst [])) := k12.trans k23
      have hF2 : H2 F0 = none := ((Keep.of (p := [p]) sD).trans k3).free (fun z => hFp (List.mem_singleton.mp z)) hF
      have hF0 : H F0 = none := k12.free (fun z => hFp (List.mem_singleton.mp z)) hF2
      have hD0 : H D = none := k12.free (fun z => hDp (List.mem_singleton.mp z)) hD
      have hD3 : (upd H3 F0 (.lst [])) D = some (.dK []) := sF _ _ (Keep.at k3 hDp upd_same)
      refine ⟨_, _, _, rfl, _, rfl, _, _, _, _, rfl, rfl, tup_keep hp k13 hw1, rfl, _, rfl, pt, t, as.map V.ref, nV bs, rfl, .inr ⟨.inl (.inl (tup_keep hp k13 hw2)), .inl (.inl (tup_keep hp k13 ht)), for_zipT (K := K) (xs := as.map V.ref) (ys := nV bs) (by rw [List.length_map, nV_len]; omega)
        (fun i σ H' => (Keep [p] H H' ∧ Pot H' p ∧ H' F0 = some (.lst []) ∧ ByAt p F0 n i H' D) ∧ ∃ y9 y10 y11 y12, σ = [some (.ref p), some (.ref l), some (.ref w'), some (.ref t), some (.int (way : Int)), some (.int (size : Int)), some (.ref D), some (.int (here : Int)), some (.ref F0), y9, y10, y11, y12])
        ?_ (fun i σ H' h => ⟨.inl (.inl (tup_keep hp h.1.1 hw2)), .inl (.inl (tup_keep hp h.1.1 ht))⟩) ?_ ?_⟩⟩
      · exact ⟨⟨k13, hp3.same sF, upd_same, [], hD3, Nat.zero_le _, fun k v z => by rw [show valV ([] : List (Key × V)) k = none from rfl] at z; cases z⟩, _, _, _, _, rfl⟩
      · rintro i x y T σ H4 hx hy ⟨⟨k4, hp4, eF, by4⟩, y9, y10, y11, y12, rfl⟩ hT
        rw [List.getElem?_map] at hx
        obtain ⟨a, ea, rfl⟩ := Option.map_eq_some_iff.mp hx
        obtain ⟨e9, ee, he⟩ := paired_get hw3 ea
        have hi : i < posts.length := (List.getElem?_eq_some_iff.mp ee).1
        have oke := hok e9 (List.mem_of_getElem? ee)
        obtain ⟨b', h1, h2⟩ := PostAt.keep hp k4 he
        have hy' : (bs.map fun b : Nat => V.int (b : Int))[i]? = some y := hy
        rw [List.getElem?_map] at hy'
        obtain ⟨b, eb, rfl⟩ := Option.map_eq_some_iff.mp hy'
        have hbn := hb b (List.mem_of_getElem? eb)
        have sT := same_new (o := .tup [.ref a, .int (b : Int)]) hT
        obtain ⟨kvs, eD, lk, qk⟩ := by4
        refine ⟨T, _, rfl, .inl (.inl upd_same), rfl, _, _, rfl, _, _, rfl, rfl, ?_⟩
        refine ⟨_, rfl, D, rfl, .inl ⟨kvs, .inl (sT _ _ eD)⟩, _, rfl, _, _, _, _, rfl, rfl, sT _ _ h1, rfl, Nat.zero_le _, fun Z hZ => ?_⟩
        have sZ := same_new (o := .lst []) hZ
        have s1 := sT.trans sZ
        refine ⟨_, DGet.k (k := Sum.inl (e9.1 : Int)) (s1 _ _ eD), ?_⟩
        obtain ⟨l0, as0, e0, hl0, la0, q0⟩ : ∃ (l0 : Addr) (as0 : List Addr), (valV kvs (Sum.inl (e9.1 : Int))).getD (.ref Z) = .ref l0 ∧ (upd (upd H4 T (.tup [.ref a, .int (b : Int)])) Z (.lst [])) l0 = some (.lst (as0.map V.ref)) ∧ as0.length ≤ i ∧ ∀ c ∈ as0, PrAt n (upd (upd H4 T (.tup [.ref a, .int (b : Int)])) Z (.lst [])) c := by
          cases ev : valV kvs (Sum.inl (e9.1 : Int)) with
          | none => exact ⟨Z, [], rfl, upd_same, Nat.zero_le _, fun _ h => (List.not_mem_nil h).elim⟩
          | some v =>
            obtain ⟨l0, as0, rfl, _, hl0, _, la0, q0⟩ := (qk _ _ ev).same s1
            exact ⟨l0, as0, rfl, hl0, la0, q0⟩
        rw [e0]
        refine ⟨_, rfl, _, _, _, _, rfl, rfl, s1 _ _ h1, rfl, _, rfl, (by show 2 ≤ sizeLine; decide), fun U hU => ⟨(by show 1 ≤ sizeLine; decide), fun V1 hV1 => ?_⟩⟩
        have sU := same_new (o := .tup [.str e9.2.1, .int (b : Int)]) hU
        have sV := same_new (o := .lst [.ref U]) hV1
        have s2 := sU.trans sV
        refine ⟨l0, V1, _, _, rfl, rfl, s2 _ _ hl0, upd_same, ?_, fun C hC => ?_⟩
        · rw [List.length_map]
          exact line (by show _ + 1 ≤ _; omega)
        have sC := same_new (o := .lst (as0.map V.ref ++ [.ref U])) hC
        have s3 := (s1.trans s2).trans sC
        refine ⟨_, rfl, _, rfl, _, _, _, _, rfl, rfl, s3 _ _ h1, rfl, D, _, rfl, DPut.k (k := Sum.inl (e9.1 : Int)) (s3 _ _ eD) (len_line (by omega)), ?_⟩
        have hpC := hp4.same s3
        have eDC := s3 _ _ eD
        have eFC := s3 _ _ eF
        have hCF : C ≠ F0 := fun z => by
          have := (s1.trans s2) _ _ eF
          rw [← z, hC] at this
          cases this
        refine ⟨⟨keep_new (k4.trans (Keep.of s3)) hD0, hpC.upd hDp, ?_, _, upd_same, ?_, fun k v hv => ?_⟩, _, _, _, _, rfl⟩
        · rw [upd_ne (fun z => by rw [z, eDC] at eFC; cases eFC)]
          exact eFC
        · exact Nat.le_trans (length_putK _ _ _) (by omega)
        · rw [valV_put] at hv
          split at hv
          · cases hv
            refine LsAt.upd eDC ⟨C, as0 ++ [U], rfl, ⟨((hp4.same s1).same s2).ne hC, hCF⟩, upd_same.trans ?_, by simp, ?_, fun c hc => ?_⟩
            · rw [List.map_append]
              rfl
            · rw [List.length_append]
              show _ + 1 ≤ _
              omega
            · rcases List.mem_append.mp hc with z | z
              · exact (q0 c z).same (s2.trans sC)
              · rw [List.mem_singleton.mp z]
                exact ⟨_, b, (sV.trans sC) _ _ upd_same, oke.nm, hbn⟩
          · exact (((qk k v hv).mono (Nat.le_succ i)).same s3).upd eDC
      · rintro σ H4 ⟨⟨k4, hp4, eF, by4⟩, y9, y10, y11, y12, rfl⟩
        rw [List.length_map, lap] at by4
        refine ⟨fun σ H' => ∃ (rs : List Str) (hr' : Nat), rs.length ≤ 40 ∧ (∀ z ∈ rs, Nm z) ∧ Keep [p] H H' ∧ Pot H' p ∧ H' F0 = some (.lst (rs.map V.str)) ∧
          ∃ y9 y10 y11 y12, σ = [some (.ref p), some (.ref l), some (.ref w'), some (.ref t), some (.int (way : Int)), some (.int (size : Int)), some (.ref D), some (.int (hr' : Int)), some (.ref F0), y9, y10, y11, y12], ?_, ?_⟩
        · refine ⟨fun m σ H' => ∃ (rs : List Str) (hr' : Nat), m = 40 - rs.length ∧ rs.length ≤ 40 ∧ (∀ z ∈ rs, Nm z) ∧ Keep [p] H H' ∧ Pot H' p ∧ H' F0 = some (.lst (rs.map V.str)) ∧ ByAt p F0 n posts.length H' D ∧
            ∃ y9 y10 y11 y12, σ = [some (.ref p), some (.ref l), some (.ref w'), some (.ref t), some (.int (way : Int)), some (.int (size : Int)), some (.ref D), some (.int (hr' : Int)), some (.ref F0), y9, y10, y11, y12], ⟨40, [], here, rfl, by decide, fun _ h => (List.not_mem_nil h).elim, k4, hp4, eF, by4, _, _, _, _, rfl⟩, ?_⟩
          rintro m σ H5 ⟨rs, hr', rfl, lr, hrs, k5, hp5, eF5, by5, z9, z10, z11, z12, rfl⟩
          obtain ⟨kvs, eD, lk, qk⟩ := id by5
          refine ⟨_, rfl, F0, _, rfl, .inl (.inl (.inl eF5)), _, rfl, _, _, rfl, _, _, rfl, rfl, _, rfl, ite2 (fun e => ?_) (fun e => ?_)⟩
          · refine ⟨_, rfl, _, rfl, D, _, rfl, DGet.k (k := Sum.inl (hr' : Int)) eD, _, rfl, ?_⟩
            cases ev : valV kvs (Sum.inl (hr' : Int)) with
            | none => exact iteF ⟨rs, hr', lr, hrs, k5, hp5, eF5, _, _, _, _, rfl⟩
            | some v =>
              refine iteT ⟨_, fun _ _ h => h, ?_⟩
              have e' := of_decide_eq_true e
              have l40 : rs.length < 40 := by
                rw [List.length_map] at e'
                have : (if (40 : Int) < (size : Int) then (40 : Int) else (size : Int)) ≤ 40 := by split <;> omega
                omega
              obtain ⟨l0, as0, rfl, hn0, hl0, ne0, la0, q0⟩ := qk _ _ ev
              have g := DGet.k (k := Sum.inl (hr' : Int)) eD
              rw [ev] at g
              refine ⟨_, rfl, _, rfl, _, rfl, D, _, rfl, g, p, hp5, .inl ⟨l0, _, rfl, hn0.1, hl0, ?_, ?_, fun x H6 hx k6 hp6 => ?_⟩⟩
              · rw [List.length_map]
                exact Nat.one_le_iff_ne_zero.mpr fun z => ne0 (List.length_eq_zero_iff.mp z)
              · rw [List.length_map]
                omega
              obtain ⟨c, hc, rfl⟩ := List.mem_map.mp hx
              obtain ⟨z, b, ez, nz, hbn⟩ := (q0 c hc).keep hp5 k6
              refine ⟨c, _, rfl, .inl (.inl ez), rfl, _, _, rfl, _, _, rfl, rfl, ?_⟩
              have eF6 := Keep.at k6 hFp eF5
              refine ⟨_, rfl, .inl ⟨rfl, _, .inl (.inl eF6)⟩, _, rfl, F0, _, _, rfl, rfl, eF6, ?_, ?_⟩
              · rw [List.length_map]
                exact len_line (by omega)
              · refine ⟨40 - (rs.length + 1), by omega, rs ++ [z], b, ?_, ?_, ?_, keep_new (k5.trans k6) hF0, hp6.upd hFp, ?_, (by5.keep hDp hp5 k6).updL eF6, _, _, _, _, rfl⟩
                · rw [List.length_append]
                  rfl
                · rw [List.length_append]
                  show _ + 1 ≤ _
                  omega
                · intro y hy
                  rcases List.mem_append.mp hy with y1 | y1
                  · exact hrs y y1
                  · rw [List.mem_singleton.mp y1]
                    exact nz
                · rw [upd_same, List.map_append]
                  rfl
          · exact iteF ⟨rs, hr', lr, hrs, k5, hp5, eF5, _, _, _, _, rfl⟩
        · rintro σ H5 ⟨rs, hr', lr, hrs, k5, hp5, eF5, z9, z10, z11, z12, rfl⟩
          refine ⟨_, rfl, F0, _, rfl, .inl ⟨.inl (.inl eF5), fun T hT => ?_⟩⟩
          have sT := same_new (o := .tup (rs.map V.str)) hT
          refine ⟨_, rfl, p, 3, rfl, hp5.same sT, by decide, by decide, fun r H6 hr6 k6 hp6 => ?_⟩
          have eT6 := tup_keep (hp5.same sT) k6 (upd_same (H := H5) (o := HO.tup (rs.map V.str)))
          refine ⟨_, rfl, rfl, .inr ⟨_, rfl, _, _, rfl, rfl, .inl ⟨by omega, by omega⟩, _, _, rfl, rfl, T, _, _, rfl, congrArg V.int (kk _ r), eT6, ?_, ?_, fun u H7 s7 e7 => ?_⟩⟩
          · split <;> omega
          · rw [List.length_map]
            omega
          · rw [rep_all] at e7
            refine q u _ H7 e7 ?_ (fun z hz => hrs z (rep_mem hz)) (((k5.trans (Keep.of sT)).trans k6).trans (Keep.of s7)) (hp6.same s7)
            rw [lm_len_rep_flat]
            refine Nat.le_trans (Nat.mul_le_mul (?_ : _ ≤ 3) lr) (by decide)
            split <;> omega
end
end K23

namespace K23
open PySem PySem.Spec PyProof.Rows L2 Gk RZ
/-! ### what is shown -/
structure Sh (d : PyData) (k n : Nat) : Prop where
  ok : d.showable = true
  deep : d.depth ≤ k
  size : d.shown.length ≤ n
  clean : d.hasDict = false
theorem Sh.shows {d : PyData} {k n : Nat} (h : Sh d k n) (hk : k ≤ 30) (hn : n ≤ 16000000) : Shows d := ⟨h.ok, Nat.le_trans h.deep hk, Nat.le_trans h.size hn, .inl h.clean⟩
theorem Sh.mono {d : PyData} {k n k' n' : Nat} (h : Sh d k n) (hk : k ≤ k') (hn : n ≤ n') : Sh d k' n' := ⟨h.ok, Nat.le_trans h.deep hk, Nat.le_trans h.size hn, h.clean⟩
theorem tup_sh {ds : List PyData} {k n m : Nat} (h : ∀ d ∈ ds, Sh d k n) (hl : ds.length ≤ m) : Sh (.tuple ds) (k + 1) (m * (n + 2) + 3) := by
  refine ⟨all_sh fun d hd => (h d hd).ok, ?_, ?_, all_nd fun d hd => (h d hd).clean⟩
  · have := all_dp fun d hd => (h d hd).deep
    simp only [PyData.depth]
    omega
  · have := shown_tuple_le fun d hd => (h d hd).size
    have := Nat.mul_le_mul_right (n + 2) hl
    omega
theorem lst_sh {ds : List PyData} {k n m : Nat} (h : ∀ d ∈ ds, Sh d k n) (hl : ds.length ≤ m) : Sh (.list ds) (k + 1) (m * (n + 2) + 3) := by
  refine ⟨all_sh fun d hd => (h d hd).ok, ?_, ?_, all_nd fun d hd => (h d hd).clean⟩
  · have := all_dp fun d hd => (h d hd).deep
    simp only [PyData.depth]
    omega
  · have := shown_list_le fun d hd => (h d hd).size
    have := Nat.mul_le_mul_right (n + 2) hl
    omega
theorem small_ints : ∀ b : Fin 41, (PyData.int ((b.val : Nat) : Int)).showable = true ∧ (PyData.int ((b.val : Nat) : Int)).depth ≤ 0 ∧ (PyData.int ((b.val : Nat) : Int)).shown.length ≤ 2 ∧ (PyData.int ((b.val : Nat) : Int)).hasDict = false := by
  decide +kernel
theorem int_sh {b : Nat} (h : b < 41) : Sh (.int (b : Int)) 0 2 := let ⟨h1, h2, h3, h4⟩ := small_ints ⟨b, h⟩; ⟨h1, h2, h3, h4⟩
theorem str_sh {z : Str} (h : Nm z) : Sh (.str z) 0 62 := ⟨rfl, Nat.le_refl _, shown_z h.tx, rfl⟩
def natsD (bs : List Nat) : PyData := .tuple (bs.map fun b : Nat => PyData.int (b : Int))
theorem nats_sh {bs : List Nat} {m : Nat} (h : ∀ b ∈ bs, b < 41) (hl : bs.length ≤ m) : Sh (natsD bs) 1 (m * 4 + 3) :=
  tup_sh (fun d hd => by obtain ⟨b, hb, rfl⟩ := List.mem_map.mp hd; exact int_sh (h b hb)) (by rw [List.length_map]; exact hl)
def postD (e : Post) : PyData := .tuple [.int (e.1 : Int), .str e.2.1, natsD e.2.2]
def webD (n : Nat) (posts : List Post) : PyData := .tuple [.int (n : Int), .tuple (posts.map postD)]
def rowD (rs : List Str) : PyData := .tuple (rs.map PyData.str)
def keptD (n : Nat) (posts : List Post) (bs : List Nat) (rs : List Str) : PyData := .tuple [webD n posts, natsD bs, rowD rs]
theorem post_sh {n : Nat} {e : Post} (hn : n ≤ 40) (h : PostOk n e) : Sh (postD e) 2 498 := by
  refine tup_sh (k := 1) (n := 163) (m := 3) (fun d hd => ?_) (by exact Nat.le_refl 3)
  simp only [List.mem_cons, List.not_mem_nil, or_false] at hd
  rcases hd with rfl | rfl | rfl
  · exact (int_sh (by have := h.at_; omega)).mono (by decide) (by decide)
  · exact (str_sh h.nm).mono (by decide) (by decide)
  · exact (nats_sh (m := 40) (fun b hb => by have := h.arms b hb; omega) h.few).mono (by decide) (by decide)
theorem web_sh {n : Nat} {posts : List Post} (hn : n ≤ 40) (h : ∀ e ∈ posts, PostOk n e) (hl : posts.length ≤ 1000) : Sh (webD n posts) 4 1000013 := by
  refine tup_sh (k := 3) (n := 500003) (m := 2) (fun d hd => ?_) (by exact Nat.le_refl 2)
  simp only [List.mem_cons, List.not_mem_nil, or_false] at hd
  rcases hd with rfl | rfl
  · exact (int_sh (by omega)).mono (by decide) (by decide)
  · exact (tup_sh (k := 2) (n := 498) (m := 1000) (fun d hd => by obtain ⟨e, he, rfl⟩ := List.mem_map.mp hd; exact post_sh hn (h e he)) (by rw [List.length_map]; exact hl)).mono (by decide) (by decide)
theorem kept_sh {n : Nat} {posts : List Post} {bs : List Nat} {rs : List Str} (hn : n ≤ 40) (h : ∀ e ∈ posts, PostOk n e) (hl : posts.length ≤ 1000) (hb : ∀ b ∈ bs, b < n) (lb : bs.length ≤ 1000) (hr : ∀ z ∈ rs, Nm z) (lr : rs.length ≤ 400) : Shows (keptD n posts bs rs) := by
  refine (tup_sh (k := 4) (n := 1000013) (m := 3) (fun d hd => ?_) (by exact Nat.le_refl 3)).shows (by decide) (by decide)
  simp only [List.mem_cons, List.not_mem_nil, or_false] at hd
  rcases hd with rfl | rfl | rfl
  · exact web_sh hn h hl
  · exact (nats_sh (m := 1000) (fun b x => by have := hb b x; omega) lb).mono (by decide) (by decide)
  · exact (tup_sh (k := 0) (n := 62) (m := 400) (fun d hd => by obtain ⟨z, hz, rfl⟩ := List.mem_map.mp hd; exact str_sh (hr z hz)) (by rw [List.length_map]; exact lr)).mono (by decide) (by decide)
theorem dxa_nats {N : List Addr} {H : Hp} : ∀ bs : List Nat, DxA N H (nV bs) (bs.map fun b : Nat => PyData.int (b : Int))
  | [] => .nil
  | b :: bs => .cons (.int _) (dxa_nats bs)
theorem dx_nats {N : List Addr} {H : Hp} {a : Addr} {bs : List Nat} (h : H a = some (.tup (nV bs))) (hl : bs.length ≤ 100000) : Dx N H (.ref a) (natsD bs) := .tup h (by rw [nV_len]; exact hl) (dxa_nats bs)
theorem dx_post {N : List Addr} {H : Hp} {n : Nat} {a : Addr} {e : Post} (h : PostAt H a e) (ok : PostOk n e) : Dx N H (.ref a) (postD e) := by
  obtain ⟨b, h1, h2⟩ := h
  have := ok.few
  have := ok.nm.2.1
  exact .tup h1 (by show 3 ≤ _; decide) (.cons (.int _) (.cons (.str _ (by omega)) (.cons (dx_nats h2 (by omega)) .nil)))
theorem dxa_posts {N : List Addr} {H : Hp} {n : Nat} : ∀ {as : List Addr} {posts : List Post}, Paired (PostAt H) as posts → (∀ e ∈ posts, PostOk n e) → DxA N H (as.map V.ref) (posts.map postD)
  | _, _, .nil, _ => .nil
  | _, _, .cons h t, ok => .cons (dx_post h (ok _ (List.mem_cons_self ..))) (dxa_posts t fun e he => ok e (List.mem_cons_of_mem _ he))
theorem dx_web {N : List Addr} {H : Hp} {n : Nat} {w : Addr} {posts : List Post} (h : WebAt H w n posts) (ok : ∀ e ∈ posts, PostOk n e) (hl : posts.length ≤ 1000) : Dx N H (.ref w) (webD n posts) := by
  obtain ⟨t, as, h1, h2, h3⟩ := h
  have := Paired.length h3
  exact .tup h1 (by show 2 ≤ _; decide) (.cons (.int _) (.cons (.tup h2 (by rw [List.length_map]; omega) (dxa_posts h3 ok)) .nil))
theorem dx_row {N : List Addr} {H : Hp} {a : Addr} {rs : List Str} (h : H a = some (.tup (rs.map V.str))) (hr : ∀ z ∈ rs, Nm z) (lr : rs.length ≤ 400) : Dx N H (.ref a) (rowD rs) :=
  .tup h (by rw [List.length_map]; omega) (DxA.strs rs fun z hz => by have := (hr z hz).2.1; omega)
theorem dx_kept {N : List Addr} {H : Hp} {n : Nat} {w t r T : Addr} {posts : List Post} {bs : List Nat} {rs : List Str} (hw : WebAt H w n posts) (ok : ∀ e ∈ posts, PostOk n e) (hl : posts.length ≤ 1000) (ht : H t = some (.tup (nV bs))) (lb : bs.length ≤ 1000)
    (h : H r = some (.tup (rs.map V.str))) (hr : ∀ z ∈ rs, Nm z) (lr : rs.length ≤ 400) (hT : H T = some (.tup [.ref w, .ref t, .ref r])) : Dx N H (.ref T) (keptD n posts bs rs) :=
  .tup hT (by show 3 ≤ _; decide) (.cons (dx_web hw ok hl) (.cons (dx_nats ht (by omega)) (.cons (dx_row h hr lr) .nil)))
/-! ### what is come to -/
theorem gone_lt {R : List (List Key × V)} {n : Nat} (hR : ROk R n) : ∀ (rs : List Str) (s : Nat), s < n → ∀ x ∈ goneF R s rs, x < n
  | [], s, hs, x, hx => by
    rw [List.mem_singleton.mp (show x ∈ [s] from hx)]
    exact hs
  | z :: r, s, hs, x, hx => by
    unfold goneF at hx
    split at hx
    · rename_i b hv
      obtain ⟨c, e, hc⟩ := hR _ _ hv
      cases e
      rcases List.mem_cons.mp hx with y | y
      · rw [y]; exact hs
      · exact gone_lt hR r _ hc x y
    · rw [List.mem_singleton.mp hx]
      exact hs
theorem last_mem (R : List (List Key × V)) (s : Nat) (rs : List Str) : lastN (goneF R s rs) ∈ goneF R s rs := by
  obtain ⟨l, e⟩ := goneF_cons R s rs
  rw [e]
  unfold lastN
  rw [List.getLastD_eq_getLast?, List.getLast?_eq_getLast (by simp)]
  exact List.getLast_mem _
theorem in_range {c n : Nat} (h : c < n) : inV (.int (c : Int)) (nV (List.range n)) = true := by
  unfold inV nV
  rw [List.any_map, List.any_eq_true]
  exact ⟨c, List.mem_range.mpr h, by simp [eqV]⟩
def fullB (R : List (List Key × V)) (rs : List Str) (s : Nat) : Bool := decide (((goneF R s rs).length : Int) = (rs.length : Int) + 1)
def aimB (R : List (List Key × V)) (rs : List Str) : Option (List Nat) → Nat → Bool
  | none, _ => true
  | some l, s => inV (.int (lastN (goneF R s rs) : Int)) (nV l)
def wholeF (R : List (List Key × V)) (rs : List Str) (n : Nat) : List Nat := (List.range n).filter (fullB R rs)
def dueF (R : List (List Key × V)) (rs : List Str) (gs : Option (List Nat)) (n : Nat) : List Nat := (wholeF R rs n).filter (aimB R rs gs)
theorem due_eq {R : List (List Key × V)} {n : Nat} (hR : ROk R n) (rs : List Str) (gs : Option (List Nat)) : startsF R rs (endsOf n gs) n = dueF R rs gs n := by
  unfold startsF dueF wholeF
  rw [List.filter_filter]
  apply List.filter_congr
  intro s hs
  have hs' := List.mem_range.mp hs
  unfold stOk fullB
  rw [Bool.and_comm]
  congr 1
  cases gs with
  | none =>
    show inV _ (nV (List.range n)) = true
    exact in_range (gone_lt hR rs s hs' _ (last_mem R s rs))
  | some l => rfl
theorem whole_eq {R : List (List Key × V)} {n : Nat} (hR : ROk R n) (rs : List Str) : startsF R rs (endsOf n none) n = wholeF R rs n := by
  rw [due_eq hR]
  unfold dueF
  rw [List.filter_eq_self]
  intro _ _
  rfl
theorem none_eq (R : List (List Key × V)) (rs : List Str) (n : Nat) : startsF R rs (endsOf n (some [])) n = [] := by
  unfold startsF
  rw [List.filter_eq_nil_iff]
  intro s _
  unfold stOk
  rw [show inV (.int (lastN (goneF R s rs) : Int)) (nV (endsOf n (some []))) = false from rfl, Bool.and_false]
  decide
theorem whole_lt {R : List (List Key × V)} {rs : List Str} {n : Nat} : ∀ s ∈ wholeF R rs n, s < n := fun s hs => List.mem_range.mp (List.mem_filter.mp hs).1
theorem due_lt {R : List (List Key × V)} {rs : List Str} {gs : Option (List Nat)} {n : Nat} : ∀ s ∈ dueF R rs gs n, s < n := fun s hs => whole_lt s (List.mem_filter.mp hs).1
theorem whole_len (R : List (List Key × V)) (rs : List Str) (n : Nat) : (wholeF R rs n).length ≤ n := by
  have := List.length_filter_le (fullB R rs) (List.range n)
  rw [List.length_range] at this
  exact this
theorem due_len (R : List (List Key × V)) (rs : List Str) (gs : Option (List Nat)) (n : Nat) : (dueF R rs gs n).length ≤ n :=
  Nat.le_trans (List.length_filter_le _ _) (whole_len R rs n)
theorem merge_eq (es : List (List Key × Addr × V)) (posts : List Post) (bs : List Nat) (h : es.map (fun e => (e.1, e.2.2)) = (posts.zip bs).map (fun eb => (keyOf eb.1, V.int (eb.2 : Int)))) : mergeT es = rightsOf posts bs := by
  have h1 : mergeT es = (es.map (fun e => (e.1, e.2.2))).foldl (fun acc e => putK acc e.1 e.2) [] := by
    unfold mergeT
    rw [List.foldl_map]
  have h2 : rightsOf posts bs = ((posts.zip bs).map (fun eb => (keyOf eb.1, V.int (eb.2 : Int)))).foldl (fun acc e => putK acc e.1 e.2) [] := by
    unfold rightsOf
    rw [List.foldl_map]
  rw [h1, h2, h]
end K23

namespace K23
open PySem PySem.Spec PyProof.Rows L2 Gk RZ
abbrev s_law_right : Stmt := topS 17
theorem sc_law_right : FnScope ["_law_pot_here", "_law_web_here", "_law_world_here", "_law_row_here", "_law_aims", "_law_kept", "_law_arms", "_law_crossing", "_law_come", "_law_whole", "_law_due", "_law_told", "_law_post", "_law_arm"] ["_law_pot_here", "_law_web_here", "_law_world_here", "_law_row_here"] (defScope s_law_right) := ⟨rfl, rfl, rfl, by decide +kernel, rfl, by decide +kernel, by decide +kernel⟩

section
variable {P : Program} {w : World} {K : PySem.W.Frag} {mg : Str → Option Value} {base : Heap} {f : Addr} {fd : FuncData}
/-- the goals, told once -/
def spGoals2 : Sp := fun vs H Q _ => ∃ (p : Addr) (n : Nat), vs = [.ref p, .int (n : Int)] ∧ Pot H p ∧ n ≤ 40 ∧
  ∀ g gs H', GAt H' g gs → Keep [p] H H' → Pot H' p → Q g H'
theorem goals2 {ps : List Str} (F : FnOk P w K mg base CX0 2 f fd ps spGoals) : FnOk P w K mg base CX0 2 f fd ps spGoals2 :=
  F.imp fun vs H Q E h => by
    obtain ⟨p, n, e, hp, hn, q⟩ := h
    exact ⟨p, n, e, hp, hn, fun H' k hp' => q _ _ H' (.inl ⟨rfl, rfl⟩) k hp', fun t gs H' ht _ _ k hp' => q _ _ H' (.inr ⟨t, gs, rfl, ht, rfl⟩) k hp'⟩
theorem GAt.same {H H' : Hp} {g : V} {gs : Option (List Nat)} (h : GAt H g gs) (s : Same H H') : GAt H' g gs := by
  rcases h with z | ⟨a, l, z, y, x⟩
  · exact .inl z
  · exact .inr ⟨a, l, z, s _ _ y, x⟩
def spRight : Sp := fun vs H Q _ => ∃ (p w' t r : Addr) (n : Nat) (posts : List Post) (bs : List Nat) (rs : List Str), vs = [.ref p, .ref w', .ref t, .ref r] ∧ Pot H p ∧ 1 ≤ n ∧ n ≤ 40 ∧ WebAt H w' n posts ∧ (∀ e ∈ posts, PostOk n e) ∧ posts.length ≤ 1000 ∧
  H t = some (.tup (nV bs)) ∧ posts.length = bs.length ∧ (∀ b ∈ bs, b < n) ∧ H r = some (.tup (rs.map V.str)) ∧ rs.length ≤ 400 ∧ (∀ z ∈ rs, Nm z) ∧ ∀ H', Keep [p] H H' → Pot H' p → Q (.bl true) H'
/-- what is come to from the first so many crossings -/
def ComeAt (R : List (List Key × V)) (rs : List Str) (H : Hp) (ls : List Addr) (i : Nat) : Prop := ls.length = i ∧ ∀ c l, ls[c]? = some l → H l = some (.lst (nV (goneF R c rs)))
theorem ComeAt.same {R : List (List Key × V)} {rs : List Str} {H H' : Hp} {ls : List Addr} {i : Nat} (h : ComeAt R rs H ls i) (s : Same H H') : ComeAt R rs H' ls i := ⟨h.1, fun c l e => s _ _ (h.2 c l e)⟩
theorem pairT_same {H H' : Hp} {a : Addr} {e : List Key × Addr × V} (h : PairT H a e) (s : Same H H') : PairT H' a e := ⟨s _ _ h.1, s _ _ h.2⟩
theorem pairT_upd {H : Hp} {l a : Addr} {e : List Key × Addr × V} {xs : List V} {o : HO} (hl : H l = some (.lst xs)) (h : PairT H a e) : PairT (L2.upd H l o) a e := by
  obtain ⟨h1, h2⟩ := h
  refine ⟨?_, ?_⟩
  · rw [upd_ne (fun e => by rw [e, hl] at h1; cases h1)]
    exact h1
  · rw [upd_ne (fun e => by rw [e, hl] at h2; cases h2)]
    exact h2
theorem zip_snoc {posts : List Post} {bs : List Nat} {i : Nat} {e : Post} {b : Nat} (he : posts[i]? = some e) (hb : bs[i]? = some b) : (posts.zip bs).take (i + 1) = (posts.zip bs).take i ++ [(e, b)] := by
  rw [List.take_add_one]
  have ez : (posts.zip bs)[i]? = some (e, b) := by
    rw [List.getElem?_zip_eq_some]
    exact ⟨he, hb⟩
  rw [ez]
  rfl
theorem take_filter {p : Nat → Bool} {l : List Nat} {i c : Nat} (h : l[i]? = some c) : (l.take (i + 1)).filter p = (l.take i).filter p ++ (if p c = true then [c] else []) := by
  rw [List.take_add_one, h, List.filter_append]
  congr 1
  by_cases y : p c = true
  · rw [if_pos y]
    exact List.filter_cons_of_pos y
  · rw [if_neg y]
    exact List.filter_cons_of_neg y
def toldD (R : List (List Key × V)) (rs : List Str) (gs : Option (List Nat)) (n : Nat) : PyData := .list [natsD (dueF R rs gs n), natsD (wholeF R rs n), natsD (wholeF R rs n)]
theorem told_sh {R : List (List Key × V)} {rs : List Str} {gs : Option (List Nat)} {n : Nat} (hn : n ≤ 40) : Shows (toldD R rs gs n) := by
  refine (lst_sh (k := 1) (n := 163) (m := 3) (fun d hd => ?_) (by exact Nat.le_refl 3)).shows (by decide) (by decide)
  simp only [List.mem_cons, List.not_mem_nil, or_false] at hd
  have a1 := due_len R rs gs n
  have a2 := whole_len R rs n
  rcases hd with rfl | rfl | rfl
  · exact nats_sh (m := 40) (fun b hb => by have := due_lt b hb; omega) (by omega)
  · exact nats_sh (m := 40) (fun b hb => by have := whole_lt b hb; omega) (by omega)
  · exact nats_sh (m := 40) (fun b hb => by have := whole_lt b hb; omega) (by omega)
theorem dx_told {R : List (List Key × V)} {rs : List Str} {gs : Option (List Nat)} {n : Nat} {H : Hp} {L a b c : Addr} (hn : n ≤ 40) (hL : H L = some (.lst [.ref a, .ref b, .ref c])) (ha : H a = some (.tup (nV (dueF R rs gs n)))) (hb : H b = some (.tup (nV (wholeF R rs n)))) (hc : H c = some (.tup (nV (wholeF R rs n)))) :
    Dx [] H (.ref L) (toldD R rs gs n) := by
  have a1 := due_len R rs gs n
  have a2 := whole_len R rs n
  exact .lst hL List.not_mem_nil (by show 3 ≤ _; decide) (.cons (dx_nats ha (by omega)) (.cons (dx_nats hb (by omega)) (.cons (dx_nats hc (by omega)) .nil)))
theorem ok_right (F : FnP K "_law_right" s_law_right f fd) (B : Bi mg) (c_law_goals : Cl P w K mg base 2 "_law_goals" ["_law_pot_here", "_law_n"] spGoals2) (c_law_gone : Cl P w K mg base 1 "_law_gone" ["_law_arms", "_law_start", "_law_row_here"] spLGone)
    (c_gone : Cl P w K mg base 2 "gone" ["web", "world", "start", "row"] spGone) (d_starts : ClD P w K mg base 2 "starts" ["web", "world", "row", "goals"] spStarts [.non])
    (k_starts : ClK P w K mg base 2 "starts" ["web", "world", "row", "goals"] spStarts 3 ["goals"] (fun vs zs => vs ++ zs)) :
    FnG P w K mg base CX0 3 f fd ["_law_pot_here", "_law_web_here", "_law_world_here", "_law_row_here"] spRight := by
  refine okGD F sc_law_right (fun vs H Q E h => ?_) (fun cdv A outer s H vs Q E hg hr h => ?_)
  · obtain ⟨p, w', t, r, n, posts, bs, rs, rfl, _⟩ := h
    rfl
  · obtain ⟨p, w', t, r, n, posts, bs, rs, rfl, hp, n1, n40, hw, hok, hle, ht, hlen, hb, hrs, hrl, hnm, q⟩ := h
    refine ⟨_, PSs.nox ((pss_cons (ps_asg (pe_tup (pa_cons (pe_cl c_law_goals hr (by decide) (by rfl) (pa_cons (pv 0) (pa_cons (pe_ix ix_tupH (pv 1) pe_int (fun _ _ => rfl)) pa_nil))) (pa_cons (pe_callB (call_reprD [] hg hr) (by rfl) B.repr (by decide +kernel) (pa_cons (pe_tup (pa_cons (pv 1) (pa_cons (pv 2) (pa_cons (pv 3) pa_nil)))) pa_nil)) pa_nil))) (pg_tup rfl (pgs_cons (pg_name (i := 4) sc_law_right.nd rfl (Or.inr rfl)) (pgs_cons (pg_name (i := 5) sc_law_right.nd rfl (Or.inl rfl)) pgs_nil))))
      (pss_cons (ps_set (i := 6) sc_law_right.nd rfl (Or.inr rfl) (pe_callTy (call_dictT rfl (hu5_of hr)) (by rfl) B.dict (by decide +kernel) (pa_cons (pe_lc (own := [("_law_post", 12), ("_law_arm", 13)]) (g := gTup K 2 (gCons (gName 12) (gCons (gName 13) gNil))) (tt := tYes) rfl sc_law_right.nd (pi_zipA (by rfl) B.zip (pa_cons (pe_ix ix_tupH (pv 1) pe_int (fun _ _ => rfl)) (pa_cons (pv 2) pa_nil))) (blkOk_by (own := [("_law_post", 12), ("_law_arm", 13)]) (N := ["_law_pot_here", "_law_web_here", "_law_world_here", "_law_row_here", "_law_aims", "_law_kept", "_law_arms", "_law_crossing", "_law_come", "_law_whole", "_law_due", "_law_told", "_law_post", "_law_arm"]) (sc := defScope s_law_right) (by decide +kernel)) (fun _ _ _ _ _ => (pg_tup rfl (pgs_cons (pg_name (i := 12) sc_law_right.nd rfl (Or.inl rfl)) (pgs_cons (pg_name (i := 13) sc_law_right.nd rfl (Or.inl rfl)) pgs_nil)))) (fun _ _ _ _ _ => pts_nil) (fun _ _ _ _ _ => (pe_tup (pa_cons (pe_tup (pa_cons (pe_ix ix_tupH (pv 12) pe_int (fun _ _ => rfl)) (pa_cons (pe_ix ix_tupH (pv 12) pe_int (fun _ _ => rfl)) pa_nil))) (pa_cons (pv 13) pa_nil))))) pa_nil)))
      (pss_cons (ps_set (i := 8) sc_law_right.nd rfl (Or.inr rfl) (pe_lc (own := [("_law_crossing", 7)]) (g := gName 7) (tt := tYes) rfl sc_law_right.nd (pi_range1 (by rfl) B.range (pa_cons (pe_ix ix_tupH (pv 1) pe_int (fun _ _ => rfl)) pa_nil)) (blkOk_by (own := [("_law_crossing", 7)]) (N := ["_law_pot_here", "_law_web_here", "_law_world_here", "_law_row_here", "_law_aims", "_law_kept", "_law_arms", "_law_crossing", "_law_come", "_law_whole", "_law_due", "_law_told", "_law_post", "_law_arm"]) (sc := defScope s_law_right) (by decide +kernel)) (fun _ _ _ _ _ => (pg_name (i := 7) sc_law_right.nd rfl (Or.inl rfl))) (fun _ _ _ _ _ => pts_nil) (fun _ _ _ _ _ => (pe_cl c_law_gone hr (by decide) (by rfl) (pa_cons (pv 6) (pa_cons (pv 7) (pa_cons (pv 3) pa_nil)))))))
      (pss_cons (ps_for PassesOwn.never rfl (pi_range1 (by rfl) B.range (pa_cons (pe_ix ix_tupH (pv 1) pe_int (fun _ _ => rfl)) pa_nil)) (pg_name (i := 7) sc_law_right.nd rfl (Or.inl rfl)) (pss_one (ps_if (pt_cmpR op_ne (pe_callB (call_reprD [] hg hr) (by rfl) B.repr (by decide +kernel) (pa_cons (pe_cl c_gone hr (by decide) (by rfl) (pa_cons (pv 1) (pa_cons (pv 2) (pa_cons (pv 7) (pa_cons (pv 3) pa_nil))))) pa_nil)) (pe_callB (call_reprD [] hg hr) (by rfl) B.repr (by decide +kernel) (pa_cons (pe_callTy call_tuple_of (by rfl) B.tuple (by decide +kernel) (pa_cons (pe_ix ix_lstH (pv 8) (pv 7) (fun _ _ => rfl)) pa_nil)) pa_nil)) (nomark _)) (pss_one (ps_ret pe_bl)) pss_nil)))
      (pss_cons (ps_setLc (i := 9) (own := [("_law_crossing", 7)]) (g := gName 7) (by rfl) sc_law_right.nd rfl rfl (sw_true rfl rfl rfl (by decide +kernel)) (pi_range1 (by rfl) B.range (pa_cons (pe_ix ix_tupH (pv 1) pe_int (fun _ _ => rfl)) pa_nil)) (blkOk_by (own := [("_law_crossing", 7)]) (N := ["_law_pot_here", "_law_web_here", "_law_world_here", "_law_row_here", "_law_aims", "_law_kept", "_law_arms", "_law_crossing", "_law_come", "_law_whole", "_law_due", "_law_told", "_law_post", "_law_arm"]) (sc := defScope s_law_right) (by decide +kernel)) (fun _ _ _ _ _ => (pg_name (i := 7) sc_law_right.nd rfl (Or.inl rfl))) (fun _ _ _ _ _ => (pts_one (pt_cmpR op_eq (pe_callB len_H (by rfl) B.len (by decide +kernel) (pa_cons (pe_ix ix_lstH (pv 8) (pv 7) (fun _ _ => rfl)) pa_nil)) (pe_op op_add (pe_callB len_H (by rfl) B.len (by decide +kernel) (pa_cons (pv 3) pa_nil)) pe_int) (nomark _)))) (fun _ _ _ _ _ => (pv 7)))
      (pss_cons (ps_setLc (i := 10) (own := [("_law_crossing", 7)]) (g := gName 7) (by rfl) sc_law_right.nd rfl rfl (sw_true rfl rfl rfl (by decide +kernel)) (pi_list (pv 9)) (blkOk_by (own := [("_law_crossing", 7)]) (N := ["_law_pot_here", "_law_web_here", "_law_world_here", "_law_row_here", "_law_aims", "_law_kept", "_law_arms", "_law_crossing", "_law_come", "_law_whole", "_law_due", "_law_told", "_law_post", "_law_arm"]) (sc := defScope s_law_right) (by decide +kernel)) (fun _ _ _ _ _ => (pg_name (i := 7) sc_law_right.nd rfl (Or.inl rfl))) (fun _ _ _ _ _ => (pts_one ((pw_or (pt_cmp (pc_isN (pv 4))) (pw_or1 (pt_cmpR in_H (pe_ix ix_lstH (pe_ix ix_lstH (pv 8) (pv 7) (fun _ _ => rfl)) (pe_un un_neg pe_int) (fun _ _ => rfl)) (pv 4) rfl)))).pt)) (fun _ _ _ _ _ => (pv 7)))
      (pss_cons (ps_set (i := 11) sc_law_right.nd rfl (Or.inl rfl) (pe_lst (pa_cons (pe_clKN k_starts hr (by decide) (by rfl) (pa_cons (pv 1) (pa_cons (pv 2) (pa_cons (pv 3) pa_nil))) (pk_cons (pv 4) pk_nil)) (pa_cons (pe_clD d_starts hr (by decide) (by rfl) (pa_cons (pv 1) (pa_cons (pv 2) (pa_cons (pv 3) pa_nil)))) (pa_cons (pe_clKN k_starts hr (by decide) (by rfl) (pa_cons (pv 1) (pa_cons (pv 2) (pa_cons (pv 3) pa_nil))) (pk_cons pe_non pk_nil)) pa_nil)))))
      (pss_cons (ps_if (pt_cmpR op_ne (pe_callB (call_reprD [] hg hr) (by rfl) B.repr (by decide +kernel) (pa_cons (pv 11) pa_nil)) (pe_callB (call_reprD [] hg hr) (by rfl) B.repr (by decide +kernel) (pa_cons (pe_lst (pa_cons (pe_callTy call_tuple_of (by rfl) B.tuple (by decide +kernel) (pa_cons (pv 10) pa_nil)) (pa_cons (pe_callTy call_tuple_of (by rfl) B.tuple (by decide +kernel) (pa_cons (pv 9) pa_nil)) (pa_cons (pe_callTy call_tuple_of (by rfl) B.tuple (by decide +kernel) (pa_cons (pv 9) pa_nil)) pa_nil)))) pa_nil)) (nomark _)) (pss_one (ps_ret pe_bl)) pss_nil)
      (pss_one (ps_ret (pe_and (pe_cmpR op_eq (pe_callB (call_reprD [] hg hr) (by rfl) B.repr (by decide +kernel) (pa_cons (pe_clKN k_starts hr (by decide) (by rfl) (pa_cons (pv 1) (pa_cons (pv 2) (pa_cons (pv 3) pa_nil))) (pk_cons (pe_tup pa_nil) pk_nil)) pa_nil)) pe_str (nomark _)) (pe_one (pe_cmpR op_eq (pe_callB (call_reprD [] hg hr) (by rfl) B.repr (by decide +kernel) (pa_cons (pe_tup (pa_cons (pv 1) (pa_cons (pv 2) (pa_cons (pv 3) pa_nil)))) pa_nil)) (pv 5) (nomark _))))))))))))))), ?_⟩
    obtain ⟨pt0, as0, hw1, _, _⟩ := id hw
    have hR : ROk (rightsOf posts bs) n := rok_of hb
    refine ⟨_, rfl, _, rfl, _, _, _, _, rfl, rfl, hw1, rfl, p, n, rfl, hp, n40, fun g gs H1 hg1 k1 hp1 => ?_⟩
    have hwK := hw.keep hp k1
    have htK := tup_keep hp k1 ht
    have hrK := tup_keep hp k1 hrs
    refine ⟨_, rfl, _, rfl, _, rfl, (by show 3 ≤ sizeLine; decide), fun T hT => ?_⟩
    have sT := same_new (o := .tup [.ref w', .ref t, .ref r]) hT
    refine ⟨_, keptD n posts bs rs, rfl, dx_kept (hwK.same sT) hok hle (sT _ _ htK) (by omega) (sT _ _ hrK) hnm hrl upd_same, kept_sh n40 hok hle hb (by omega) hnm hrl, (by show 2 ≤ sizeLine; decide), fun U hU => ?_⟩
    have sU := same_new (o := .tup [g, .str (keptD n posts bs rs).shown]) hU
    refine ⟨U, _, rfl, .inl (.inl upd_same), rfl, _, _, rfl, _, _, rfl, rfl, ?_⟩
    have s1 := sT.trans sU
    obtain ⟨pt, as, hw1, hw2, hw3⟩ := id hwK
    have lap := Paired.length hw3
    refine ⟨_, rfl, _, _, _, _, rfl, rfl, s1 _ _ hw1, rfl, _, rfl, pt, t, as.map V.ref, nV bs, rfl, .inr ⟨.inl (.inl (s1 _ _ hw2)), .inl (.inl (s1 _ _ htK)), fun D hD => lc_it (walk_zipT (K := K) (xs := as.map V.ref) (ys := nV bs) (by rw [List.length_map, nV_len]; omega))
      (fun i H' => Same H1 H' ∧ ∃ ps es, H' D = some (.lst (ps.map V.ref)) ∧ Paired (PairT H') ps es ∧ es.map (fun e => (e.1, e.2.2)) = ((posts.zip bs).take i).map (fun eb => (keyOf eb.1, V.int (eb.2 : Int)))) ?_ (fun i H' _ h => ⟨.inl (.inl (h.1 _ _ hw2)), .inl (.inl (h.1 _ _ htK))⟩) ?_ ?_⟩⟩
    · exact ⟨s1.trans (same_new hD), [], [], upd_same, .nil, by simp⟩
    · rintro i v H3 H4 hi ⟨s3, ps, es, e3, hp3, em⟩ ⟨T', x, y, rfl, hT', rfl, hx, hy⟩
      have hD1 : H1 D = none := by
        match z : H1 D with
        | none => rfl
        | some o => rw [s1 _ _ z] at hD; cases hD
      rw [List.length_map] at hi
      simp only [List.getElem?_map] at hx
      obtain ⟨a, ea, rfl⟩ := Option.map_eq_some_iff.mp hx
      obtain ⟨e, ee, he⟩ := paired_get hw3 ea
      obtain ⟨b', h1, h2⟩ := he.same s3
      have hy' : (bs.map fun b : Nat => V.int (b : Int))[i]? = some y := hy
      rw [List.getElem?_map] at hy'
      obtain ⟨b, eb, rfl⟩ := Option.map_eq_some_iff.mp hy'
      have sT' := same_new (o := .tup [.ref a, .int (b : Int)]) hT'
      refine ⟨T', _, rfl, .inl (.inl upd_same), rfl, _, _, rfl, _, _, rfl, rfl, rfl, _, rfl, _, _, _, _, rfl, rfl, sT' _ _ h1, rfl, _, rfl, _, _, _, _, rfl, rfl, sT' _ _ h1, rfl, (by show 2 ≤ sizeLine; decide), fun A1 hA1 => ?_⟩
      have sA := same_new (o := .tup [.int (e.1 : Int), .str e.2.1]) hA1
      refine ⟨_, rfl, (by show 2 ≤ sizeLine; decide), fun B1 hB1 => ?_⟩
      have sB := same_new (o := .tup [.ref A1, .int (b : Int)]) hB1
      have s4 := (sT'.trans sA).trans sB
      have e4 := s4 _ _ e3
      have lps := Paired.length hp3
      have les : es.length ≤ i := by
        have := congrArg List.length em
        rw [List.length_map, List.length_map, List.length_take] at this
        omega
      refine ⟨_, e4, ?_, same_in (s3.trans s4) hD1, ps ++ [B1], es ++ [(keyOf e, A1, .int (b : Int))], ?_, ?_, ?_⟩
      · rw [List.length_map]
        exact len_line (by omega)
      · rw [upd_same, List.map_append]
        rfl
      · refine Paired.snoc (Paired.mapP hp3 fun a x h => pairT_upd e4 (pairT_same h s4)) (pairT_upd e4 ⟨upd_same, sB _ _ upd_same⟩)
      · rw [zip_snoc ee eb, List.map_append, List.map_append, em]
        rfl
    rintro H2 ⟨s2, ps, es, e2, hp2, em⟩
    rw [List.length_map, List.take_of_length_le (by rw [List.length_zip]; omega)] at em
    refine ⟨D, ps, es, rfl, e2, hp2, fun d hd => ?_⟩
    rw [merge_eq es posts bs em]
    have s3 := s2.trans (same_new (o := .dT (rightsOf posts bs)) hd)
    have e3 : (upd H2 d (.dT (rightsOf posts bs))) d = some (.dT (rightsOf posts bs)) := upd_same
    generalize (upd H2 d (.dT (rightsOf posts bs))) = H3 at s3 e3
    -- what the law comes to
    refine ⟨_, rfl, _, _, _, _, rfl, rfl, s3 _ _ hw1, rfl, _, rfl, by omega, by omega, fun D2 hD2 => lc_range (lo := 0) (n := n) (fun i H' => Same H3 H' ∧ ∃ ls : List Addr, H' D2 = some (.lst (ls.map V.ref)) ∧ ComeAt (rightsOf posts bs) rs H' ls i ∧ D2 ∉ ls) ?_ ?_ ?_⟩
    · exact ⟨same_new hD2, [], upd_same, ⟨rfl, fun c l z => by simp at z⟩, List.not_mem_nil⟩
    · rintro i H4 hi ⟨s4, ls, e4, hc, hn⟩
      rw [show ((0 : Int) + (i : Int)) = (i : Int) from Int.zero_add _]
      refine ⟨rfl, _, rfl, _, rfl, _, rfl, d, r, _, i, n, rs, rfl, s4 _ _ e3, hR, hi, (s3.trans s4) _ _ hrK, by omega, fun u H5 s5 nu e5 => ⟨_, s5 _ _ e4, ?_, same_in (s4.trans s5) hD2, ls ++ [u], ?_, ⟨?_, ?_⟩, ?_⟩⟩
      · rw [List.length_map, hc.1]
        exact len_line (by omega)
      · rw [upd_same, List.map_append]
        rfl
      · rw [List.length_append, hc.1]
        rfl
      · intro c l z
        by_cases hci : c < i
        · rw [List.getElem?_append_left (by rw [hc.1]; exact hci)] at z
          rw [upd_ne (fun y => hn (by rw [← y]; exact List.mem_of_getElem? z))]
          exact s5 _ _ (hc.2 c l z)
        · have ec : c = i := by
            have := (List.getElem?_eq_some_iff.mp z).1
            rw [List.length_append, hc.1] at this
            have : c < i + 1 := this
            omega
          subst ec
          rw [List.getElem?_append_right (by rw [hc.1]; exact Nat.le_refl _), hc.1, Nat.sub_self] at z
          cases (show some u = some l from z)
          rw [upd_ne (fun y => by rw [y, e4] at nu; cases nu)]
          exact e5
      · intro hm
        rcases List.mem_append.mp hm with y | y
        · exact hn y
        · rw [List.mem_singleton.mp y] at e4
          rw [nu] at e4
          cases e4
    rintro H4 ⟨s4, ls, e4, hc, _⟩
    have come : ∀ {H' : Hp} (c : Nat), c < n → Same H4 H' → ∃ l, atI (ls.map V.ref) (c : Int) = some (.ref l) ∧ H' l = some (.lst (nV (goneF (rightsOf posts bs) c rs))) := fun c hcn sx => by
      have hcl : c < ls.length := by rw [hc.1]; exact hcn
      refine ⟨ls[c], atI_nat (j := c) ?_, sx _ _ (hc.2 c _ (List.getElem?_eq_getElem hcl))⟩
      rw [List.getElem?_map, List.getElem?_eq_getElem hcl]
      rfl
    have s34 := s3.trans s4
    -- the program comes to the same
    refine ⟨_, rfl, _, _, _, _, rfl, rfl, s34 _ _ hw1, rfl, _, rfl, by omega, by omega, for_range (lo := 0) (n := n) (fun i σ H' => Same H4 H' ∧ ∃ y7, σ = [some (.ref p), some (.ref w'), some (.ref t), some (.ref r), some g, some (.str (keptD n posts bs rs).shown), some (.ref d), y7, some (.ref D2), none, none, none, none, none]) ?_ ?_ ?_⟩
    · exact ⟨Same.refl H4, _, rfl⟩
    · rintro i σ H5 hi ⟨s5, y7, rfl⟩
      rw [show ((0 : Int) + (i : Int)) = (i : Int) from Int.zero_add _]
      have s35 := s34.trans s5
      have ls401 := goneF_len (rightsOf posts bs) rs i
      have lt41 : ∀ x ∈ goneF (rightsOf posts bs) i rs, x < 41 := fun x hx => by have := gone_lt hR rs i hi x hx; omega
      have shw : Shows (natsD (goneF (rightsOf posts bs) i rs)) := (nats_sh (m := 401) lt41 (by omega)).shows (by decide) (by decide)
      refine ⟨_, rfl, _, rfl, _, rfl, _, rfl, w', t, r, i, n, posts, bs, rs, rfl, hwK.same s35, s35 _ _ htK, hlen, by omega, hb, hi, s35 _ _ hrK, by omega, fun u H6 s6 e6 => ?_⟩
      refine ⟨_, _, rfl, dx_nats e6 (by omega), shw, ?_⟩
      obtain ⟨l, al, el⟩ := come i hi (s5.trans s6)
      refine ⟨_, rfl, _, rfl, D2, _, _, _, rfl, rfl, (s5.trans s6) _ _ e4, al, l, _, rfl, .inl ⟨.inl (.inl el), fun T2 hT2 => ?_⟩⟩
      have sT2 := same_new (o := .tup (nV (goneF (rightsOf posts bs) i rs))) hT2
      refine ⟨_, _, rfl, dx_nats upd_same (by omega), shw, rfl, _, rfl, ite2 (fun e => ?_) (fun e => ?_)⟩
      · rw [decide_eq_true rfl] at e
        cases e
      · exact ⟨(s5.trans s6).trans sT2, _, rfl⟩
    rintro σ H5 ⟨s5, y7, rfl⟩
    have s35 := s34.trans s5
    -- all names gone
    refine ⟨_, rfl, _, _, _, _, rfl, rfl, s35 _ _ hw1, rfl, _, rfl, by omega, by omega, fun D3 hD3 => lc_range (lo := 0) (n := n) (fun i H' => Same H5 H' ∧ H' D3 = some (.lst (nV ((List.range i).filter (fullB (rightsOf posts bs) rs))))) ?_ ?_ ?_⟩
    · exact ⟨same_new hD3, upd_same⟩
    · rintro i H6 hi ⟨s6, e6⟩
      rw [show ((0 : Int) + (i : Int)) = (i : Int) from Int.zero_add _]
      obtain ⟨l, al, el⟩ := come i hi (s5.trans s6)
      have er : (rs.map V.str).length = rs.length := List.length_map ..
      refine ⟨rfl, _, rfl, _, rfl, D2, _, _, _, rfl, rfl, (s5.trans s6) _ _ e4, al, l, _, rfl, .inl el, _, rfl, r, _, rfl, .inr ((s35.trans s6) _ _ hrK), _, _, rfl, rfl, rfl, _, rfl, ite2 (fun e => ?_) (fun e => ?_)⟩
      · have e' := V.int.inj (of_decide_eq_true e)
        refine ⟨_, rfl, _, e6, ?_, same_in s6 hD3, ?_⟩
        · rw [nV_len]
          have := List.length_filter_le (fullB (rightsOf posts bs) rs) (List.range i)
          rw [List.length_range] at this
          exact len_line (by omega)
        · rw [upd_same, range_filter, if_pos, nV_snoc]
          unfold fullB
          exact decide_eq_true (by rw [← nV_len, ← er]; exact e')
      · refine ⟨s6, ?_⟩
        rw [range_filter, if_neg, List.append_nil]
        · exact e6
        · unfold fullB
          intro z
          exact e (decide_eq_true (by rw [nV_len, er]; exact congrArg V.int (of_decide_eq_true z)))
    rintro H6 ⟨s6, e6⟩
    have s36 := s35.trans s6
    have s46 := s5.trans s6
    change H6 D3 = some (.lst (nV (wholeF (rightsOf posts bs) rs n))) at e6
    have wl := whole_len (rightsOf posts bs) rs n
    -- into the goals
    refine ⟨_, rfl, D3, rfl, ⟨_, .inl (.inl e6)⟩, fun D4 hD4 => lc_list (K := K) (xs := nV (wholeF (rightsOf posts bs) rs n)) (fun i H' => Same H6 H' ∧ H' D4 = some (.lst (nV (((wholeF (rightsOf posts bs) rs n).take i).filter (aimB (rightsOf posts bs) rs gs))))) ?_ (fun i H' _ h => .inl (.inl (h.1 _ _ e6))) ?_ ?_⟩
    · exact ⟨same_new hD4, upd_same⟩
    · rintro i x H7 hx ⟨s7, e7⟩
      have hx' : ((wholeF (rightsOf posts bs) rs n).map fun b : Nat => V.int (b : Int))[i]? = some x := hx
      rw [List.getElem?_map] at hx'
      obtain ⟨c, ec, rfl⟩ := Option.map_eq_some_iff.mp hx'
      have hcn := whole_lt c (List.mem_of_getElem? ec)
      obtain ⟨l, al, el⟩ := come c hcn (s46.trans s7)
      have hil : i < (wholeF (rightsOf posts bs) rs n).length := (List.getElem?_eq_some_iff.mp ec).1
      have yes : aimB (rightsOf posts bs) rs gs c = true → ∃ acc, H7 D4 = some (.lst acc) ∧ acc.length < sizeLine ∧ Same H6 (upd H7 D4 (.lst (acc ++ [.int (c : Int)]))) ∧ (upd H7 D4 (.lst (acc ++ [.int (c : Int)]))) D4 = some (.lst (nV (((wholeF (rightsOf posts bs) rs n).take (i + 1)).filter (aimB (rightsOf posts bs) rs gs)))) := fun z => by
        refine ⟨_, e7, ?_, same_in s7 hD4, ?_⟩
        · rw [nV_len]
          have := List.length_filter_le (aimB (rightsOf posts bs) rs gs) ((wholeF (rightsOf posts bs) rs n).take i)
          rw [List.length_take] at this
          exact len_line (by omega)
        · rw [upd_same, take_filter ec, if_pos z, nV_snoc]
      have no : aimB (rightsOf posts bs) rs gs c = false → Same H6 H7 ∧ H7 D4 = some (.lst (nV (((wholeF (rightsOf posts bs) rs n).take (i + 1)).filter (aimB (rightsOf posts bs) rs gs)))) := fun z => by
        refine ⟨s7, ?_⟩
        rw [take_filter ec, if_neg (by rw [z]; decide), List.append_nil]
        exact e7
      refine ⟨rfl, ?_⟩
      have hg7 := hg1.same (s36.trans s7)
      rcases hg7 with ⟨rfl, rfl⟩ | ⟨t2, gl, rfl, ht2, rfl⟩
      · exact ⟨_, rfl, true, rfl, iteT (iteT ⟨_, rfl, yes rfl⟩)⟩
      · refine ⟨_, rfl, false, rfl, iteF ⟨_, rfl, _, rfl, D2, _, _, _, rfl, rfl, (s46.trans s7) _ _ e4, al, 1, rfl, l, _, _, _, rfl, rfl, el, last_at _ _ _, _, rfl, t2, _, rfl, .inr ht2, rfl, flat_nV _, _, rfl, ite2 (fun y => ?_) (fun y => ?_)⟩⟩
        · exact ⟨_, rfl, yes y⟩
        · exact no (Bool.eq_false_iff.mpr y)
    rintro H7 ⟨s7, e7⟩
    rw [nV_len, List.take_of_length_le (Nat.le_refl _)] at e7
    change H7 D4 = some (.lst (nV (dueF (rightsOf posts bs) rs gs n))) at e7
    have s37 := s36.trans s7
    have e3w := s7 _ _ e6
    -- what the program tells
    refine ⟨_, rfl, _, rfl, _, rfl, _, rfl, rfl, rfl, w', t, r, n, posts, bs, rs, g, gs, rfl, hwK.same s37, n40, s37 _ _ htK, hlen, by omega, hb, s37 _ _ hrK, by omega, hg1.same s37, fun a1 H8 s8 e8 => ?_⟩
    have s38 := s37.trans s8
    refine ⟨_, rfl, _, rfl, _, rfl, w', t, r, n, posts, bs, rs, .non, none, rfl, hwK.same s38, n40, s38 _ _ htK, hlen, by omega, hb, s38 _ _ hrK, by omega, .inl ⟨rfl, rfl⟩, fun a2 H9 s9 e9 => ?_⟩
    have s39 := s38.trans s9
    refine ⟨_, rfl, _, rfl, _, rfl, rfl, rfl, w', t, r, n, posts, bs, rs, .non, none, rfl, hwK.same s39, n40, s39 _ _ htK, hlen, by omega, hb, s39 _ _ hrK, by omega, .inl ⟨rfl, rfl⟩, fun a3 Ha sa ea => ?_⟩
    rw [due_eq hR] at e8
    rw [whole_eq hR] at e9 ea
    have s3a := s39.trans sa
    refine ⟨(by show 3 ≤ sizeLine; decide), fun L hL => ?_⟩
    have sL := same_new (o := .lst [.ref a1, .ref a2, .ref a3]) hL
    have s8L := (s9.trans sa).trans sL
    refine ⟨_, rfl, _, _, rfl, dx_told n40 upd_same (s8L _ _ e8) ((sa.trans sL) _ _ e9) (sL _ _ ea), told_sh n40, ?_⟩
    have s7L := s8.trans s8L
    refine ⟨_, rfl, D4, _, rfl, .inl ⟨.inl (.inl (s7L _ _ e7)), fun T1 hT1 => ?_⟩⟩
    have t1 := same_new (o := .tup (nV (dueF (rightsOf posts bs) rs gs n))) hT1
    refine ⟨_, rfl, D3, _, rfl, .inl ⟨.inl (.inl ((s7L.trans t1) _ _ e3w)), fun T2 hT2 => ?_⟩⟩
    have t2 := same_new (o := .tup (nV (wholeF (rightsOf posts bs) rs n))) hT2
    refine ⟨_, rfl, D3, _, rfl, .inl ⟨.inl (.inl ((s7L.trans (t1.trans t2)) _ _ e3w)), fun T3 hT3 => ?_⟩⟩
    have t3 := same_new (o := .tup (nV (wholeF (rightsOf posts bs) rs n))) hT3
    refine ⟨(by show 3 ≤ sizeLine; decide), fun L2 hL2 => ?_⟩
    have t4 := same_new (o := .lst [.ref T1, .ref T2, .ref T3]) hL2
    refine ⟨_, _, rfl, dx_told n40 upd_same ((t2.trans (t3.trans t4)) _ _ upd_same) ((t3.trans t4) _ _ upd_same) (t4 _ _ upd_same), told_sh n40, rfl, _, rfl, ite2 (fun e => ?_) (fun e => ?_)⟩
    · rw [decide_eq_true rfl] at e
      cases e
    have s3b := s37.trans (s7L.trans ((t1.trans t2).trans (t3.trans t4)))
    refine ⟨_, rfl, _, rfl, _, rfl, Nat.zero_le _, fun T4 hT4 => ?_⟩
    have t5 := same_new (o := .tup []) hT4
    have s3c := s3b.trans t5
    refine ⟨rfl, rfl, w', t, r, n, posts, bs, rs, .ref T4, some [], rfl, hwK.same s3c, n40, s3c _ _ htK, hlen, by omega, hb, s3c _ _ hrK, by omega, .inr ⟨T4, [], rfl, upd_same, rfl⟩, fun a4 Hb sb eb => ?_⟩
    rw [none_eq] at eb
    have s3d := s3c.trans sb
    refine ⟨_, _, rfl, dx_nats eb (by decide), (nats_sh (bs := []) (m := 0) (fun _ h => (List.not_mem_nil h).elim) (Nat.le_refl _)).shows (by decide) (by decide), rfl, true, rfl, iteT ?_⟩
    refine ⟨_, rfl, _, rfl, _, rfl, (by show 3 ≤ sizeLine; decide), fun T5 hT5 => ?_⟩
    have t6 := same_new (o := .tup [.ref w', .ref t, .ref r]) hT5
    have s3e := s3d.trans t6
    refine ⟨_, keptD n posts bs rs, rfl, dx_kept (hwK.same s3e) hok hle (s3e _ _ htK) (by omega) (s3e _ _ hrK) hnm hrl upd_same, kept_sh n40 hok hle hb (by omega) hnm hrl, _, rfl, rfl, ?_⟩
    rw [decide_eq_true rfl]
    exact q _ (k1.trans (Keep.of s3e)) (hp1.same s3e)
end
end K23

namespace K23
open PySem PySem.Spec PyProof.Rows L2 Gk RZ
abbrev s_law : Stmt := topS 18
theorem sc_law : FnScope ["_law_script", "_law_k", "_law_pot_here", "_law_n", "_law_names_here", "_law_web_here", "_law_world_here", "_law_turn"] ["_law_script"] (defScope s_law) := ⟨rfl, rfl, rfl, by decide +kernel, rfl, by decide +kernel, by decide +kernel⟩

theorem rng3 (m : Nat) : ∃ j : Nat, (if (if (m : Int) < 3 then (m : Int) else 3) > 1 then (if (m : Int) < 3 then (m : Int) else 3) else (1 : Int)) = (j : Int) ∧ j ≤ 3 := by
  by_cases h : (m : Int) < 3
  · simp only [if_pos h]
    split
    · exact ⟨m, rfl, by omega⟩
    · exact ⟨1, rfl, by decide⟩
  · simp only [if_neg h]
    exact ⟨3, rfl, by decide⟩
theorem same_keep {H H1 H2 : Hp} {p : Addr} (s : Same H H1) (n : H p = none) (k : Keep [p] H1 H2) : Same H H2 := fun b o e =>
  k b o (fun z => by rw [List.mem_singleton.mp z, n] at e; cases e) (s b o e)
theorem same_free {H H1 : Hp} {p : Addr} (s : Same H H1) (n : H1 p = none) : H p = none := by
  match z : H p with
  | none => rfl
  | some o => rw [s _ _ z] at n; cases n
theorem arms_lt {n : Nat} : ∀ {posts : List Post} {bs : List Nat}, Paired Arm posts bs → (∀ e ∈ posts, PostOk n e) → ∀ b ∈ bs, b < n
  | _, _, .nil, _, _, h => (List.not_mem_nil h).elim
  | _, _, .cons h t, ok, b, hb => by
    rcases List.mem_cons.mp hb with y | y
    · rw [y]
      exact (ok _ (List.mem_cons_self ..)).arms _ h
    · exact arms_lt t (fun e he => ok e (List.mem_cons_of_mem _ he)) b y
section
variable {P : Program} {w : World} {K : PySem.W.Frag} {mg : Str → Option Value} {base : Heap} {f : Addr} {fd : FuncData}
def spLaw (K : PySem.W.Frag) : Sp := fun vs H Q _ => ∃ (a : Addr) (ns : List Int), vs = [.ref a] ∧ SqL K H a (ns.map V.int) ∧ ns.length ≤ 63 ∧ ∀ H', Q (.bl true) H'
theorem ok_law (F : FnP K "law" s_law f fd) (B : Bi mg) (c_law_pot : Cl P w K mg base 1 "_law_pot" ["_law_script", "_law_k"] (spPot K)) (c_law_of : Cl P w K mg base 2 "_law_of" ["_law_pot_here", "_law_some"] (spOf K))
    (c_law_take : Cl P w K mg base 1 "_law_take" ["_law_pot_here", "_law_upto"] spTake) (c_law_names : Cl P w K mg base 3 "_law_names" ["_law_pot_here", "_law_many"] spNames)
    (c_law_web : Cl P w K mg base 2 "_law_web" ["_law_pot_here", "_law_n", "_law_names_here", "_law_most"] spWeb) (c_law_world : Cl P w K mg base 3 "_law_world" ["_law_pot_here", "_law_web_here"] spWorld)
    (c_law_row : Cl P w K mg base 3 "_law_row" ["_law_pot_here", "_law_names_here", "_law_web_here", "_law_world_here"] spRow)
    (c_law_right : ClG P w K mg base 3 "_law_right" ["_law_pot_here", "_law_web_here", "_law_world_here", "_law_row_here"] spRight) :
    FnG P w K mg base CX0 4 f fd ["_law_script"] (spLaw K) := by
  refine okGD F sc_law (fun vs H Q E h => ?_) (fun cdv A outer s H vs Q E hg hr h => ?_)
  · obtain ⟨a, ns, rfl, _⟩ := h
    rfl
  · obtain ⟨a, ns, rfl, hS, hl, q⟩ := h
    refine ⟨_, PSs.nox ((pss_cons (ps_for PassesOwn.never rfl (pi_range1 (by rfl) B.range (pa_cons (pe_callB (call_max2 rfl) (by rfl) B.max (by decide +kernel) (pa_cons pe_int (pa_cons (pe_callB (call_min2 rfl) (by rfl) B.min (by decide +kernel) (pa_cons pe_int (pa_cons (pe_callB call_len_seq (by rfl) B.len (by decide +kernel) (pa_cons (pv 0) pa_nil)) pa_nil))) pa_nil))) pa_nil)) (pg_name (i := 1) sc_law.nd rfl (Or.inl rfl)) (pss_cons (ps_set (i := 2) sc_law.nd rfl (Or.inl rfl) (pe_cl c_law_pot hr (by decide) (by rfl) (pa_cons (pv 0) (pa_cons (pv 1) pa_nil))))
      (pss_cons (ps_par (i := 3) (j := 4) rfl sc_law.nd rfl rfl (by decide) rfl rfl (pa_cons (pe_cl c_law_of hr (by decide) (by rfl) (pa_cons (pv 2) (pa_cons (pe_lst (pa_cons pe_int (pa_cons pe_int (pa_cons pe_int (pa_cons pe_int (pa_cons pe_int (pa_cons pe_int (pa_cons pe_int pa_nil)))))))) pa_nil))) (pa_cons (pe_cl c_law_names hr (by decide) (by rfl) (pa_cons (pv 2) (pa_cons (pe_op op_add pe_int (pe_cl c_law_take hr (by decide) (by rfl) (pa_cons (pv 2) (pa_cons pe_int pa_nil)))) pa_nil))) pa_nil)) (by rfl))
      (pss_cons (ps_set (i := 5) sc_law.nd rfl (Or.inl rfl) (pe_cl c_law_web hr (by decide) (by rfl) (pa_cons (pv 2) (pa_cons (pv 3) (pa_cons (pv 4) (pa_cons (pe_op op_add pe_int (pe_cl c_law_take hr (by decide) (by rfl) (pa_cons (pv 2) (pa_cons pe_int pa_nil)))) pa_nil))))))
      (pss_cons (ps_set (i := 6) sc_law.nd rfl (Or.inl rfl) (pe_cl c_law_world hr (by decide) (by rfl) (pa_cons (pv 2) (pa_cons (pv 5) pa_nil))))
      (pss_one (ps_for PassesOwn.never rfl (pi_range1 (by rfl) B.range (pa_cons pe_int pa_nil)) (pg_name (i := 7) sc_law.nd rfl (Or.inl rfl)) (pss_one (ps_if (pt_not (pt_val (pe_clG c_law_right hg hr (by decide) (by rfl) (pa_cons (pv 2) (pa_cons (pv 5) (pa_cons (pv 6) (pa_cons (pe_cl c_law_row hr (by decide) (by rfl) (pa_cons (pv 2) (pa_cons (pv 4) (pa_cons (pv 5) (pa_cons (pv 6) pa_nil))))) pa_nil))))))) (pss_one (ps_ret pe_bl)) pss_nil)))))))))
      (pss_one (ps_ret pe_bl)))), ?_⟩
    refine ⟨_, rfl, _, _, rfl, .inl hS, _, _, rfl, _, _, rfl, ?_⟩
    obtain ⟨j, ej, j3⟩ := rng3 (ns.map V.int).length
    refine ⟨_, congrArg (fun z => [V.int z]) ej, by omega, by omega, for_range (lo := 0) (n := j) (fun i σ H' => Same H H' ∧ ∃ y1 y2 y3 y4 y5 y6 y7 : Option V, σ = [some (.ref a), y1, y2, y3, y4, y5, y6, y7]) ?_ ?_ ?_⟩
    · exact ⟨Same.refl H, none, none, none, none, none, none, none, rfl⟩
    · rintro i σ H1 hi ⟨s1, y1, y2, y3, y4, y5, y6, y7, rfl⟩
      rw [show ((0 : Int) + (i : Int)) = (i : Int) from Int.zero_add _]
      -- the pot
      refine ⟨_, rfl, _, rfl, a, ns, i, rfl, s1.seq hS, hl, by omega, fun p H2 np s2 hp2 => ?_⟩
      have npH : H p = none := same_free s1 np
      -- how many crossings
      refine ⟨_, rfl, (by show 7 ≤ sizeLine; decide), fun L1 hL1 => ?_⟩
      have sL1 := same_new (o := .lst [.int 1, .int 2, .int 3, .int 4, .int 6, .int 9, .int 40]) hL1
      refine ⟨p, hp2.same sL1, .inl ⟨L1, _, rfl, hp2.ne hL1, upd_same, by decide, by decide, fun x H3 hx k3 hp3 => ?_⟩⟩
      obtain ⟨n, rfl, n1, n40⟩ : ∃ n : Nat, x = .int (n : Int) ∧ 1 ≤ n ∧ n ≤ 40 := by
        simp only [List.mem_cons, List.not_mem_nil, or_false] at hx
        rcases hx with z | z | z | z | z | z | z <;> rw [z]
        · exact ⟨1, rfl, by decide, by decide⟩
        · exact ⟨2, rfl, by decide, by decide⟩
        · exact ⟨3, rfl, by decide, by decide⟩
        · exact ⟨4, rfl, by decide, by decide⟩
        · exact ⟨6, rfl, by decide, by decide⟩
        · exact ⟨9, rfl, by decide, by decide⟩
        · exact ⟨40, rfl, by decide, by decide⟩
      have k23 : Keep [p] H2 H3 := (Keep.of sL1).trans k3
      -- the names
      refine ⟨_, rfl, _, rfl, p, 3, rfl, hp3, by decide, by decide, fun d H4 hd k4 hp4 => ⟨_, _, rfl, rfl, p, 1 + d, rfl, hp4, by omega, fun l zs H5 lz hz hlp _ hl5 k5 hp5 => ?_⟩⟩
      refine ⟨_, _, rfl, ?_⟩
      -- the web
      refine ⟨_, rfl, _, rfl, _, rfl, _, rfl, p, 3, rfl, hp5, by decide, by decide, fun d2 H6 hd2 k6 hp6 => ⟨_, _, rfl, rfl, p, l, n, 1 + d2, zs, rfl, hp6, n1, n40, by omega, Keep.at k6 hlp hl5, hlp, by omega, hz, fun w' posts H7 hw7 hok hpl k7 hp7 => ?_⟩⟩
      have p120 : posts.length ≤ 120 := Nat.le_trans hpl (Nat.le_trans (Nat.mul_le_mul n40 (show zs.length ≤ 3 by omega)) (by decide))
      have hl7 := Keep.at k7 hlp (Keep.at k6 hlp hl5)
      -- the world
      refine ⟨_, rfl, _, rfl, p, w', n, posts, rfl, hp7, hw7, hok, by omega, fun t bs H8 ht8 hpr k8 hp8 => ?_⟩
      have hbl := Paired.length hpr
      have hb := arms_lt hpr hok
      have kA : Keep [p] H2 H8 := ((((k23.trans k4).trans k5).trans k6).trans k7).trans k8
      have hw8 := hw7.keep hp7 k8
      have hl8 := Keep.at k8 hlp hl7
      refine ⟨4, rfl, by decide, by decide, for_range (lo := 0) (n := 4) (fun m σ H' => Keep [p] H8 H' ∧ Pot H' p ∧ ∃ y7 : Option V, σ = [some (.ref a), some (.int (i : Int)), some (.ref p), some (.int (n : Int)), some (.ref l), some (.ref w'), some (.ref t), y7]) ?_ ?_ ?_⟩
      · exact ⟨Keep.refl _ _, hp8, _, rfl⟩
      · rintro m σ H9 hm ⟨k9, hp9, y7, rfl⟩
        refine ⟨_, rfl, _, rfl, _, rfl, _, rfl, _, rfl, _, rfl, _, rfl, p, l, w', t, n, zs, posts, bs, rfl, hp9, n1, n40, Keep.at k9 hlp hl8, hlp, by omega, by omega, hz, hw8.keep hp8 k9, hok, tup_keep hp8 k9 ht8, hbl, by omega, hb, fun u rs Ha eu hrl hnm ka hpa => ?_⟩
        refine ⟨p, w', t, u, n, posts, bs, rs, rfl, hpa, n1, n40, (hw8.keep hp8 k9).keep hp9 ka, hok, by omega, tup_keep hp9 ka (tup_keep hp8 k9 ht8), hbl, hb, eu, hrl, hnm, fun Hb kb hpb => ?_⟩
        exact ⟨true, rfl, iteF ⟨(k9.trans ka).trans kb, hpb, _, rfl⟩⟩
      · rintro σ H9 ⟨k9, hp9, y7, rfl⟩
        exact ⟨same_keep (s1.trans s2) npH (kA.trans k9), _, _, _, _, _, _, _, rfl⟩
    · rintro σ H1 ⟨s1, y1, y2, y3, y4, y5, y6, y7, rfl⟩
      exact q H1
end
end K23

namespace K23
open PySem PySem.Spec PyProof.Rows L2 Gk
abbrev dd (x : Str) (i : Nat) : He.DefD := ⟨(x, none), x, x, defArgs (topS i), defBody (topS i), defScope (topS i), [], []⟩
abbrev ddk (x : Str) (i : Nat) (k : List (Str × He.Dv)) : He.DefD := ⟨(x, none), x, x, defArgs (topS i), defBody (topS i), defScope (topS i), [], k⟩
def fn : List He.DefD := [dd "goal_crossings" 1, dd "right_arms" 3, dd "gone_by" 4, dd "gone" 5, ddk "starts" 6 [("goals", .non)], dd "_law_pot" 8, dd "_law_take" 9, dd "_law_of" 10, dd "_law_names" 11, dd "_law_web" 12, dd "_law_world" 13, dd "_law_goals" 14, dd "_law_gone" 15, dd "_law_row" 16, dd "_law_right" 17, dd "law" 18]
def fa : List He.Fa := biFa ++ [.glo "goal_crossings", .glo "right_arms", .glo "gone_by", .glo "gone", .glo "starts", .glo "_law_pot", .glo "_law_take", .glo "_law_of", .glo "_law_names", .glo "_law_web", .glo "_law_world", .glo "_law_goals", .glo "_law_gone", .glo "_law_row", .glo "_law_right", .glo "law"]
abbrev R : PySem.W.OpenRow := PySem.W.OpenLaw.row PySem.Challenge.rw_woundwalks_k23_rows_gone
abbrev hk : PySem.W.Hook := Gk.hookS 4 fa fn
def ob (s : PySem.W.SharedT) : He.AlD × Bool := Gk.obsS 4 fa fn (HandSHeadRun.getT s)
theorem ob_eq (s : PySem.W.SharedT) : ob s = hk.obs s.abs := Gk.obsS_eq (HandSHeadRun.getT_eq s)
def loose : List Str := ["goal_crossings", "right_arms", "gone_by", "gone", "starts", "_law_pot", "_law_take", "_law_of", "_law_names", "_law_web", "_law_world", "_law_goals", "_law_gone", "_law_row", "_law_right"]
theorem run (w : World) : HandSHeadRun.RunEq R (PySem.W.view R.prog [18]) hk ob 3000 loose w := by
  intro os
  kernel_rfl
section
variable {P : Program} {w : World} {K : PySem.W.Frag} {mg : Str → Option Value} {h : Heap} {f : Addr}
theorem con_int {x : Str} {i : Int} (X : K.In h) (G : h.Ns mainGlobals mg) (c : (He.Fa.int x i).ok K = true) : Con mg x (.int i) :=
  let ⟨t, e⟩ := He.int_ok X G c
  ⟨_, e, t, rfl⟩
theorem con_str {x z : Str} (X : K.In h) (G : h.Ns mainGlobals mg) (c : (He.Fa.str x z).ok K = true) : Con mg x (.str z) :=
  let ⟨t, e⟩ := He.str_ok X G c
  ⟨_, e, t, rfl⟩
theorem facts (X : K.In h) (G : h.Ns mainGlobals mg) (hfa : mg ("law" : Str) = some (.ref f)) (c : He.SaysD fa fn K) (dg : dig K = true) :
    ∃ fd : FuncData, (∀ (s : Shared) (v : Value), BindsTo s fd ⟨[v], []⟩ [("_law_script", v)]) ∧
      ∀ base : Heap, K.In base → base.Ns mainGlobals mg → FnG P w K mg base CX0 4 f fd ["_law_script"] (spLaw K) := by
  obtain ⟨d0, F0⟩ := c.def_ 0 (d := dd "goal_crossings" 1) rfl
  obtain ⟨d1, F1⟩ := c.def_ 1 (d := dd "right_arms" 3) rfl
  obtain ⟨d2, F2⟩ := c.def_ 2 (d := dd "gone_by" 4) rfl
  obtain ⟨d3, F3⟩ := c.def_ 3 (d := dd "gone" 5) rfl
  obtain ⟨d4, F4⟩ := c.def_ 4 (d := ddk "starts" 6 [("goals", .non)]) rfl
  obtain ⟨d5, F5⟩ := c.def_ 5 (d := dd "_law_pot" 8) rfl
  obtain ⟨d6, F6⟩ := c.def_ 6 (d := dd "_law_take" 9) rfl
  obtain ⟨d7, F7⟩ := c.def_ 7 (d := dd "_law_of" 10) rfl
  obtain ⟨d8, F8⟩ := c.def_ 8 (d := dd "_law_names" 11) rfl
  obtain ⟨d9, F9⟩ := c.def_ 9 (d := dd "_law_web" 12) rfl
  obtain ⟨d10, F10⟩ := c.def_ 10 (d := dd "_law_world" 13) rfl
  obtain ⟨d11, F11⟩ := c.def_ 11 (d := dd "_law_goals" 14) rfl
  obtain ⟨d12, F12⟩ := c.def_ 12 (d := dd "_law_gone" 15) rfl
  obtain ⟨d13, F13⟩ := c.def_ 13 (d := dd "_law_row" 16) rfl
  obtain ⟨d14, F14⟩ := c.def_ 14 (d := dd "_law_right" 17) rfl
  obtain ⟨d15, F15⟩ := c.def_ 15 (d := dd "law" 18) rfl
  have B : Bi mg := bi_of X G fun i g hi => c.fact i (f := g) (by
    show (biFa ++ _)[i]? = some g
    rw [List.getElem?_append_left (List.getElem?_eq_some_iff.mp hi).1]
    exact hi)
  have g0 := He.glo_ok X G (c.fact 23 (f := .glo "goal_crossings") rfl)
  have g1 := He.glo_ok X G (c.fact 24 (f := .glo "right_arms") rfl)
  have g2 := He.glo_ok X G (c.fact 25 (f := .glo "gone_by") rfl)
  have g3 := He.glo_ok X G (c.fact 26 (f := .glo "gone") rfl)
  have g4 := He.glo_ok X G (c.fact 27 (f := .glo "starts") rfl)
  have g5 := He.glo_ok X G (c.fact 28 (f := .glo "_law_pot") rfl)
  have g6 := He.glo_ok X G (c.fact 29 (f := .glo "_law_take") rfl)
  have g7 := He.glo_ok X G (c.fact 30 (f := .glo "_law_of") rfl)
  have g8 := He.glo_ok X G (c.fact 31 (f := .glo "_law_names") rfl)
  have g9 := He.glo_ok X G (c.fact 32 (f := .glo "_law_web") rfl)
  have g10 := He.glo_ok X G (c.fact 33 (f := .glo "_law_world") rfl)
  have g11 := He.glo_ok X G (c.fact 34 (f := .glo "_law_goals") rfl)
  have g12 := He.glo_ok X G (c.fact 35 (f := .glo "_law_gone") rfl)
  have g13 := He.glo_ok X G (c.fact 36 (f := .glo "_law_row") rfl)
  have g14 := He.glo_ok X G (c.fact 37 (f := .glo "_law_right") rfl)
  have e := hfa.symm.trans (He.glo_ok X G (c.fact 38 (f := .glo "law") rfl))
  cases e
  have b15 := FunD.bindsA (ps := ["_law_script"]) F15 fun _ _ _ _ _ _ us hl => match us, hl with | [_], _ => rfl
  refine ⟨d15, fun s v => b15 s [v] rfl, fun base _ _ => ?_⟩
  have hd := He.eqO_ok dg
  have b0 := F0.bindsN (ps := ["web", "goals"]) fun _ _ _ _ _ _ us hl => match us, hl with | [_, _], _ => rfl
  have b1 := F1.bindsN (ps := ["web", "world"]) fun _ _ _ _ _ _ us hl => match us, hl with | [_, _], _ => rfl
  have b2 := F2.bindsN (ps := ["right", "start", "row"]) fun _ _ _ _ _ _ us hl => match us, hl with | [_, _, _], _ => rfl
  have b3 := F3.bindsN (ps := ["web", "world", "start", "row"]) fun _ _ _ _ _ _ us hl => match us, hl with | [_, _, _, _], _ => rfl
  have k4 : KBn K d4 ["web", "world", "row", "goals"] 3 ["goals"] (fun us ws => us ++ ws) (fun vs zs => vs ++ zs) := kbn_mk F4 (fun r1 r2 => r1.append r2) fun _ _ _ _ _ _ us ws h1 h2 => match us, ws, h1, h2 with | [_, _, _], [_], _, _ => rfl
  obtain ⟨ds4, rv4, bd4⟩ := F4.binds0 (ps := ["web", "world", "row", "goals"]) 3 (by intro z; cases z) rfl fun D _ _ _ _ _ us ks h1 h2 => match us, ks, h1, h2 with | [_, _, _], [_], _, _ => ⟨_, _, _, _, _, _, rfl, rfl, rfl⟩
  have b5 := F5.bindsN (ps := ["_law_script", "_law_k"]) fun _ _ _ _ _ _ us hl => match us, hl with | [_, _], _ => rfl
  have b6 := F6.bindsN (ps := ["_law_pot_here", "_law_upto"]) fun _ _ _ _ _ _ us hl => match us, hl with | [_, _], _ => rfl
  have b7 := F7.bindsN (ps := ["_law_pot_here", "_law_some"]) fun _ _ _ _ _ _ us hl => match us, hl with | [_, _], _ => rfl
  have b8 := F8.bindsN (ps := ["_law_pot_here", "_law_many"]) fun _ _ _ _ _ _ us hl => match us, hl with | [_, _], _ => rfl
  have b9 := F9.bindsN (ps := ["_law_pot_here", "_law_n", "_law_names_here", "_law_most"]) fun _ _ _ _ _ _ us hl => match us, hl with | [_, _, _, _], _ => rfl
  have b10 := F10.bindsN (ps := ["_law_pot_here", "_law_web_here"]) fun _ _ _ _ _ _ us hl => match us, hl with | [_, _], _ => rfl
  have b11 := F11.bindsN (ps := ["_law_pot_here", "_law_n"]) fun _ _ _ _ _ _ us hl => match us, hl with | [_, _], _ => rfl
  have b12 := F12.bindsN (ps := ["_law_arms", "_law_start", "_law_row_here"]) fun _ _ _ _ _ _ us hl => match us, hl with | [_, _, _], _ => rfl
  have b13 := F13.bindsN (ps := ["_law_pot_here", "_law_names_here", "_law_web_here", "_law_world_here"]) fun _ _ _ _ _ _ us hl => match us, hl with | [_, _, _, _], _ => rfl
  have b14 := F14.bindsN (ps := ["_law_pot_here", "_law_web_here", "_law_world_here", "_law_row_here"]) fun _ _ _ _ _ _ us hl => match us, hl with | [_, _, _, _], _ => rfl
  have o0 : FnOk P w K mg base CX0 1 _ d0 ["web", "goals"] spEnds := ok_ends F0 B
  have o1 : FnOk P w K mg base CX0 1 _ d1 ["web", "world"] spArms := ok_arms F1 B
  have o2 : FnOk P w K mg base CX0 1 _ d2 ["right", "start", "row"] spGoneBy := ok_goneBy F2 B
  have o3 : FnOk P w K mg base CX0 2 _ d3 ["web", "world", "start", "row"] spGone := ok_gone F3 B ⟨_, _, o1, g1, F1.kp, b1⟩ ⟨_, _, o2, g2, F2.kp, b2⟩
  have o4 : FnOk P w K mg base CX0 2 _ d4 ["web", "world", "row", "goals"] spStarts := ok_starts F4 B ⟨_, _, o1, g1, F1.kp, b1⟩ ⟨_, _, o2, g2, F2.kp, b2⟩ ⟨_, _, o0, g0, F0.kp, b0⟩
  have o5 : FnOk P w K mg base CX0 1 _ d5 ["_law_script", "_law_k"] (spPot K) := ok_pot F5 B hd
  have o6 : FnOk P w K mg base CX0 1 _ d6 ["_law_pot_here", "_law_upto"] spTake := ok_take F6
  have o7 : FnOk P w K mg base CX0 2 _ d7 ["_law_pot_here", "_law_some"] (spOf K) := ok_of F7 B ⟨_, _, o6, g6, F6.kp, b6⟩
  have o8 : FnOk P w K mg base CX0 3 _ d8 ["_law_pot_here", "_law_many"] spNames := ok_names F8 B ⟨_, _, o7, g7, F7.kp, b7⟩ ⟨_, _, o6, g6, F6.kp, b6⟩
  have o9 : FnOk P w K mg base CX0 2 _ d9 ["_law_pot_here", "_law_n", "_law_names_here", "_law_most"] spWeb := ok_web F9 B ⟨_, _, o6, g6, F6.kp, b6⟩
  have o10 : FnOk P w K mg base CX0 3 _ d10 ["_law_pot_here", "_law_web_here"] spWorld := ok_world F10 B ⟨_, _, o7, g7, F7.kp, b7⟩
  have o11 : FnOk P w K mg base CX0 2 _ d11 ["_law_pot_here", "_law_n"] spGoals2 := goals2 (ok_goals F11 B ⟨_, _, o6, g6, F6.kp, b6⟩)
  have o12 : FnOk P w K mg base CX0 1 _ d12 ["_law_arms", "_law_start", "_law_row_here"] spLGone := ok_lgone F12 B
  have o13 : FnOk P w K mg base CX0 3 _ d13 ["_law_pot_here", "_law_names_here", "_law_web_here", "_law_world_here"] spRow := ok_row F13 B ⟨_, _, o7, g7, F7.kp, b7⟩ ⟨_, _, o6, g6, F6.kp, b6⟩
  have o14 : FnG P w K mg base CX0 3 _ d14 ["_law_pot_here", "_law_web_here", "_law_world_here", "_law_row_here"] spRight := ok_right F14 B ⟨_, _, o11, g11, F11.kp, b11⟩ ⟨_, _, o12, g12, F12.kp, b12⟩ ⟨_, _, o3, g3, F3.kp, b3⟩ ⟨_, _, _, o4, g4, F4.kp, rv4, bd4⟩ ⟨_, _, _, o4, g4, F4.kp, k4⟩
  exact ok_law F15 B ⟨_, _, o5, g5, F5.kp, b5⟩ ⟨_, _, o7, g7, F7.kp, b7⟩ ⟨_, _, o6, g6, F6.kp, b6⟩ ⟨_, _, o8, g8, F8.kp, b8⟩ ⟨_, _, o9, g9, F9.kp, b9⟩ ⟨_, _, o10, g10, F10.kp, b10⟩ ⟨_, _, o13, g13, F13.kp, b13⟩ ⟨_, _, o14, g14, F14.kp, b14⟩
end
end K23
open PySem PySem.W PySem.Calls PyProof.Rows
theorem PySem.Challenge.cw_woundwalks_k23_rows_gone_holds : PySem.Challenge.rw_woundwalks_k23_rows_gone.Holds := by
  w_on; o_law
  refine HandSHeadRun.head_any (r := OpenLaw.row PySem.Challenge.rw_woundwalks_k23_rows_gone) (q := view (OpenLaw.row PySem.Challenge.rw_woundwalks_k23_rows_gone).prog [18]) (H := K23.hk) (ob := K23.ob) (M := 3000) (loose := K23.loose) (d := HandSHeadRun.topDef (OpenLaw.row PySem.Challenge.rw_woundwalks_k23_rows_gone).prog 18) (kwd := []) K23.ob_eq
    (by kernel_rfl) (fun s => by kernel_rfl) K23.run (by kernel_rfl) (by kernel_rfl) (by kernel_rfl) (by rfl) (by first | assumption | decide +kernel) (by decide +kernel) ⟨rfl, rfl, rfl, rfl, rfl, by decide +kernel⟩ ?hw ?hc
  case hw => w_witness2
  case hc =>
    refine Gk.walkG (l := PySem.Challenge.rw_woundwalks_k23_rows_gone) (n := 63) (k := 4) (x := "_law_script") (CX := L2.CX0) rfl (by decide) (by kernel_rfl) ⟨rfl, by decide, by decide⟩ ?F (fun _ _ _ _ z => z)
    intro w mg fa h Y G hmg0
    obtain ⟨K, KX, c, dg⟩ := Y
    have hmg : mg ("law" : PySem.Str) = some (.ref fa) := by
      have e : (HandSHeadRun.topDef (OpenLaw.row PySem.Challenge.rw_woundwalks_k23_rows_gone).prog 18).name = ("law" : PySem.Str) := by kernel_rfl
      rw [← e]
      exact hmg0
    obtain ⟨fd, hb, hF⟩ := K23.facts (P := (PySem.Challenge.rw_woundwalks_k23_rows_gone).prog) (w := w) KX G hmg c dg
    exact ⟨K, fd, K23.spLaw K, KX, hb, fun H a ns hl _ hS => ⟨a, ns, rfl, hS, hl, fun _ => rfl⟩, hF⟩
