import PyProof.Rows.All
import Wide.All
import OpenK.AllK
import Wide.FinOn
import HandS.ForMost
import HandS.HeadEnd
import KE.KIntText
import HandS.Wide
import HandS.IsInst
import HandS.TupAny
import HandS.Codes
import HandS.Defaults
import HandS.HeadHook2
import HandS.Head2
import HandS.DictComp
import KE.KDictPairs
import PyProof.ListStr
import HandS.SortInts
import HandS.Zip
import HandS.TupMul
import HandS.Conv
import HandS.Deep
import HandS.Records
import HandS.NoneIn
import HandS.TupLen
import KE.SortData
import HandS.More
import HandS.Style
import HandS.Rev
import KE.DataCmp
import KE.GoesEnum
import HandS.Walk
import HandS.HeadHook3
import PySem.Challenge.RW_woundwalks_k50_asks_and_worlds
set_option Elab.async false
set_option linter.all false
set_option maxRecDepth 100000
set_option maxHeartbeats 0
/-! a def that shows things (repr): its promise holds where no showing runs around it -/
namespace Gk
open PySem PySem.Spec PyProof.Rows L2

structure FnG (P : Program) (w : World) (K : PySem.W.Frag) (mg : Str → Option Value) (base : Heap)
    (CX : CXT) (k : Nat) (f : Addr) (fd : FuncData) (ps : List Str) (sp : Sp) : Prop where
  ar : ∀ vs H Q E, sp vs H Q E → vs.length = ps.length
  go : ∀ (A : Around) (outer : List Env) (s : Shared) (H : Hp) (args : Args) (us : List Value)
    (vs : List V) (Q : VK) (E : XK), A.guards = some [] → Room k A →
    Env0 P w K mg base A outer s H → BindsTo s fd args (ps.zip us) → Vals vs us → sp vs H Q E →
    codeAny (model P w) A (.call (.ref f) args) (CR CX outer P w H s Q E) s

section
variable {P : Program} {w : World} {K : PySem.W.Frag} {mg : Str → Option Value} {base : Heap} {CX : CXT}

theorem FnG.of {k : Nat} {f : Addr} {fd : FuncData} {ps : List Str} {sp : Sp}
    (F : FnOk P w K mg base CX k f fd ps sp) : FnG P w K mg base CX k f fd ps sp :=
  ⟨F.len, fun A outer s H args us vs Q E _ hr => F.run A outer s H args us vs Q E hr⟩

theorem fnG_body {k : Nat} {f : Addr} {name qual : Str} {params : Arguments} {body : List Stmt}
    {scope : Scope} {dV kV doc pm cdv ct oc : Value} {an od : Option Addr}
    {osl : Array (Option Value)} {N ps : List Str} {sp : Sp}
    (lk : K.lookup f = some ⟨oc, od, .func (PySem.W.fnOf name qual params body scope dV kV doc pm an cdv ct), osl⟩)
    (hcd : PySem.W.codeIn K cdv qual = true) (S : FnScope N ps scope)
    (ar : ∀ vs H Q E, sp vs H Q E → vs.length = ps.length)
    (hb : ∀ (A : Around) (outer : List Env) (s : Shared) (H : Hp) (vs : List V) (Q : VK) (E : XK),
      A.guards = some [] → Room k (A.deeper (envOfC qual scope s.heap.objs.size f cdv)) → sp vs H Q E →
      ∃ t, PSs (cxOf CX P w K mg base N qual scope f cdv A outer s H E) body t ∧
        t { nx := fun _ H' => Q .non H', rt := Q } (start N vs) H) :
    FnG P w K mg base CX (k + 1) f (PySem.W.fnOf name qual params body scope dV kV doc pm an cdv ct) ps sp := by
  constructor
  · exact ar
  intro A outer s H args us vs Q E hg room env bnd rel wish
  have kin : K.In s.heap := env.mod.kin.keeps (fun b o q => (env.bs b o q).1)
  have nol : s.heap.NoLimit := env.mod.nolimit.keeps (fun b o q => (env.bs b o q).1)
  apply codeAny_call_function room.depth (kin _ _ lk) rfl S.co S.gen rfl (PySem.W.codeRec_of kin hcd)
  apply bnd
  apply wpAny_newFunctionEnv_cells S.kind
  · rintro ⟨n, v⟩ hy
    cases S.par n (List.of_mem_zip hy).1 with
    | inl q => exact Or.inl q
    | inr q => exact Or.inr ⟨q, PySem.W.cellsFrom_some _ _ _ (Or.inl q)⟩
  rintro _ rfl s1 inn
  refine And.intro (nol.keeps inn.toInCall.keep) (codeAny_func ?_)
  obtain ⟨t, run, want⟩ := hb A outer s H vs Q E hg (room.deeper _) wish
  have inv := inv_start (CX := CX) (E := E) S room.hd env (ar _ _ _ _ wish) rel inn
  apply wpAny_mono (run.run [] s1 _ H _ inv want)
  · intro fl s' out
    cases fl with
    | ret u => obtain ⟨v, _, H', J, rv, q⟩ := out; exact ⟨v, H', J.os, J.bare, J.base, J.hok, rv, q⟩
    | next => obtain ⟨_, H', J, q⟩ := out; exact ⟨V.non, H', J.os, J.bare, J.base, J.hok, rfl, q⟩
    | brk => obtain ⟨_, _, _, q⟩ := out; exact q.elim
    | cont => obtain ⟨_, _, _, q⟩ := out; exact q.elim
  · exact fun _ _ q => q

theorem okG {x qual : Str} {st : Stmt} {f : Addr} {fd : FuncData} {N ps : List Str} {k : Nat} {sp : Sp}
    (F : Fun K x qual st f fd) (S : FnScope N ps (defScope st))
    (ar : ∀ vs H Q E, sp vs H Q E → vs.length = ps.length)
    (hb : ∀ (cdv : Value) (A : Around) (outer : List Env) (s : Shared) (H : Hp) (vs : List V) (Q : VK) (E : XK),
      A.guards = some [] → Room k (A.deeper (envOfC qual (defScope st) s.heap.objs.size f cdv)) → sp vs H Q E →
      ∃ t, PSs (cxOf CX0 P w K mg base N qual (defScope st) f cdv A outer s H E).nox (defBody st) t ∧
        t { nx := fun _ H' => Q .non H', rt := Q } (start N vs) H) :
    FnG P w K mg base CX0 (k + 1) f fd ps sp := by
  obtain ⟨_, _, _, _, _, _, cdv, _, _, rfl, lk, hcd⟩ := F.ex
  apply fnG_body lk hcd S ar
  intro A outer s H vs Q E hg hr hsp
  obtain ⟨t, h1, h2⟩ := hb cdv A outer s H vs Q E hg hr hsp
  exact ⟨t, h1.nox, h2⟩
end

section
variable {X : Cx} {CX : CXT} {k : Nat} {f : Addr} {fd : FuncData} {ps : List Str} {sp : Sp} {E : XK}

theorem runG {pins : List (Addr × Obj)} {σ : L2.St} {H : Hp} {s : Shared} {Q : VK} {us ds : List Value}
    {vs dvs : List V} (F : FnG X.prog X.w X.K X.mg X.base CX k f fd ps sp) (hg : X.A.guards = some [])
    (hr : Room k X.A) (hb : Binds X.K fd ps ds) (hd : Vals dvs ds) (hx : Passes CX X E)
    (I : L2.Inv X pins σ H s) (r : Vals vs us) (h : sp (vs ++ dvs) H Q E) :
    wpAny (model X.prog X.w) X.A (call (.ref f) us) (EP X pins σ Q) X.xe s := by
  have rel := r.append hd
  have hl : (us ++ ds).length = ps.length := rel.length.symm.trans (F.ar _ _ _ _ h)
  apply wpAny_call
  apply codeAny_mono (F.go X.A X.stack s H ⟨us, []⟩ _ _ Q E hg hr I.env0 (hb s us I.kIn hl) rel h)
  intro out s' q
  rcases out with e | fl
  · exact hx pins σ H s e s' I q
  · cases fl <;> first | exact I.after q | exact q.elim

/-- f(e, ..) of such a def -/
theorem pe_callG {x : Str} {p pos : Pos} {e : Expr} {es : List Expr} {t : TA} {ds : List Value} {dvs : List V}
    (F : FnG X.prog X.w X.K X.mg X.base CX k f fd ps sp) (hg : X.A.guards = some []) (hr : Room k X.A)
    (gl : Gl X x) (hm : X.mg x = some (.ref f)) (hk : PySem.W.keepIn X.K (.ref f) = true)
    (hb : Binds X.K fd ps ds) (hd : Vals dvs ds) (hx : Passes CX X E) (ha : PA X (e :: es) t)
    (hdb : (x == ("__debug__" : Str)) = false := by decide)
    (he : starEach (e :: es) X.env = (false, eval e X.env) :: starEach es X.env := by rfl)
    (hpl : (backTo pos (starEach es X.env)).any (·.1) = false := by rfl) :
    PE X (.Call (.Name x p) (e :: es) [] pos) (tCall sp dvs E t) := by
  constructor
  intro pins s σ H Q I h
  apply wpAny_Call_Name_kw
  apply ld_glob I gl hm _ hdb
  apply PySem.W.callWith_K (h₀ := X.base) I.ok.mod.kin hk _ he hpl
  apply thn (ha.run pos pins s σ H _ I h)
  rintro us s1 ⟨vs, H1, I1, r, q⟩
  exact ⟨I1.kIn, runG F hg hr hb hd hx I1 r q⟩
end

/-! ### the end of a law -/
theorem lawG {P : Program} {w : World} {K : PySem.W.Frag} {mg mb : Str → Option Value} {CX : CXT} {k : Nat}
    {fa a : Addr} {fd : FuncData} {x : Str} {sp : Sp} {s₁ : Shared} {vs : List Value} {ns : List Int}
    (KX : K.In s₁.heap) (hns : s₁.heap.Ns mainGlobals mg) (hb : s₁.heap.Ns builtinsNs mb)
    (hbb : ∀ x : Str, x ≠ "__name__" → mb x = bootBuiltins x) (hlim : s₁.heap.NoLimit) (hg : s₁.gens = #[])
    (ha : s₁.heap.get? a = some { cls := .type "list", data := .seq vs.toArray }) (hi : IntsAre vs ns)
    (hl : ns.length ≤ sizeLine) (hr : Room k callerA)
    (F : ∀ base : Heap, K.In base → base.Ns mainGlobals mg → FnG P w K mg base CX k fa fd [x] sp)
    (hbind : ∀ (s : Shared) (u : Value), BindsTo s fd ⟨[u], []⟩ [(x, u)])
    (hsp : ∀ H : Hp, Only H → SqL K H a (ns.map V.int) → sp [.ref a] H (fun v _ => v = .bl true) fun _ _ _ => False)
    (hCX : ∀ H e s', CX [] H s₁ (fun _ _ _ => False) e s' → False) :
    codeAny (model P w) callerA (.call (.ref fa) ⟨[.ref a], []⟩) (fun r s' => r = .ok (.ret (.bool true)) ∧
      OldK s₁.heap s'.heap ∧ s'.os = s₁.os ∧ AllBare s'.gens) s₁ := by
  have main : ∀ H : Hp, Only H → SqL K H a (ns.map V.int) → HOk P w H s₁.heap →
      (∀ b u, H b = some u → b = a ∧ K.lookup a = none) →
      codeAny (model P w) callerA (.call (.ref fa) ⟨[.ref a], []⟩) (fun r s' => r = .ok (.ret (.bool true)) ∧
        OldK s₁.heap s'.heap ∧ s'.os = s₁.os ∧ AllBare s'.gens) s₁ := by
    intro H only seq hok here
    have free : ∀ b o, s₁.heap.get? b = some o → (∀ z n, o.data ≠ .seq z n) → H b = none := by
      intro b o e nd
      match q : H b with
      | none => rfl
      | some u =>
        obtain ⟨rfl, _⟩ := here b u q
        cases e.symm.trans ha
        exact (nd _ _ rfl).elim
    have nsK : ∀ {b : Addr} {m : Str → Option Value}, s₁.heap.Ns b m → (hidT s₁.heap H).Ns b m := by
      rintro b m ⟨o, es, ep, e, d, r⟩
      exact ⟨o, es, ep, hidT_get e (free b o e (fun z n z' => by rw [d] at z'; cases z')), d, r⟩
    have kin : K.In (hidT s₁.heap H) := by
      intro b o e
      apply hidT_get (KX b o e)
      match q : H b with
      | none => rfl
      | some u =>
        obtain ⟨rfl, z⟩ := here b u q
        cases z.symm.trans e
    have lim : (hidT s₁.heap H).NoLimit := by
      obtain ⟨mc, h1, h2⟩ := hlim
      exact ⟨mc, nsK h1, h2⟩
    have env : Env0 P w K mg (hidT s₁.heap H) callerA [] s₁ H := {
      frames := rfl
      mod := ⟨kin, nsK hns, ⟨mb, nsK hb, hbb⟩, lim⟩
      bs := fun b o e => of_hidT e
      bsz := Nat.le_of_eq (hidT_size _ _)
      funs := trivial
      frf := fun b z => absurd (show b ∈ ([] : List Addr) from z) List.not_mem_nil
      hok := hok
      bare := .of_eq hg }
    have call := (F _ kin (nsK hns)).go callerA [] s₁ H ⟨[.ref a], []⟩ [.ref a] [.ref a] _ _ rfl hr env
      (hbind s₁ (.ref a)) (.cons rfl .nil) (hsp H only seq)
    apply codeAny_mono call
    intro r s' out
    match r, out with
    | .error e, out => exact (hCX H e s' out).elim
    | .ok .next, out => exact False.elim out
    | .ok .brk, out => exact False.elim out
    | .ok .cont, out => exact False.elim out
    | .ok (.ret u), out =>
      obtain ⟨v, H', os, bare, un, hok', rv, rfl⟩ := out
      cases (show u = Value.bool true from rv)
      refine ⟨rfl, OldK.of_keep ?_, os, bare⟩
      intro b o e
      cases only b with
      | inl n => exact un.keep b o e n (fun z => absurd (show b ∈ ([] : List Addr) from z) List.not_mem_nil) List.not_mem_nil
      | inr n =>
        obtain ⟨ob, xs, z⟩ := n
        have e1 := (hok b _ z).1
        have e2 := (hok' b _ (un.frzs b ob _ z)).1
        rw [e2, ← e1, e]
  match hk : K.lookup a with
  | some o =>
    cases (KX a o hk).symm.trans ha
    apply main (fun _ => none) (fun _ => Or.inl rfl)
    · refine Or.inr ⟨_, vs.toArray, _, hk, rfl, rfl, rfl, ?_, ?_⟩
      · rw [List.size_toArray, hi.length]; exact hl
      · simpa using vals_ints hi
    · intro b u z
      exact absurd (show (none : Option HO) = some u from z) nofun
    · intro b u z
      exact absurd (show (none : Option HO) = some u from z) nofun
  | none =>
    apply main (upd (fun _ => none) a (.frz { cls := .type "list", data := .seq vs.toArray } (.lst (ns.map V.int))))
    · intro b
      by_cases e : b = a
      · subst e; exact Or.inr ⟨_, _, upd_same⟩
      · exact Or.inl (upd_ne e)
    · exact Or.inl (Or.inr ⟨_, upd_same⟩)
    · intro b u z
      by_cases e : b = a
      · subst e
        cases upd_same.symm.trans z
        refine ⟨ha, ?_, vs, _, vals_ints hi, ha⟩
        rw [List.length_map]; exact hl
      · cases (upd_ne (H := fun _ => none) e).symm.trans z
    · intro b u z
      by_cases e : b = a
      · exact ⟨e, hk⟩
      · cases (upd_ne (H := fun _ => none) e).symm.trans z

theorem walkG {l : PySem.W.OpenLaw} {n k : Nat} {q : Program} {loose : List Str}
    {XP : (Str → Option Value) → Heap → Prop} {YP : World → Heap → Prop} {d : DefRec} {CX : CXT} {x : Str}
    (hn : l.most = some n) (hn2 : n ≤ sizeLine) (hdf : d.params.defaults = []) (hr : Room k callerA)
    (F : ∀ (w : World) (mg : Str → Option Value) (fa : Addr) (h : Heap), YP w h → h.Ns mainGlobals mg →
      mg d.name = some (.ref fa) →
      ∃ (K : PySem.W.Frag) (fd : FuncData) (sp : Sp), K.In h ∧
        (∀ (s : Shared) (u : Value), BindsTo s fd ⟨[u], []⟩ [(x, u)]) ∧
        (∀ (H : Hp) (a : Addr) (ns : List Int), ns.length ≤ n → Only H → SqL K H a (ns.map V.int) →
          sp [.ref a] H (fun v _ => v = .bl true) fun _ _ _ => False) ∧
        ∀ base : Heap, K.In base → base.Ns mainGlobals mg → FnG l.prog w K mg base CX k fa fd [x] sp)
    (hCX : ∀ (H : Hp) (s : Shared) (e : Value) (s' : Shared), CX [] H s (fun _ _ _ => False) e s' → False) :
    PySem.W.WalkO q loose XP YP l.row.toRowW d [] (fun f vs => PySem.call f vs) := by
  apply Att.attach_call hn hdf
  intro w s₀ s₁ mg mb fa o pm cd doc a vs ns G Y _ _ _ hmg hobj hints hlen hgens
  obtain ⟨K, fd, sp, KX, hb, hsp, hF⟩ := F w mg fa _ Y G.T.g hmg
  exact lawG KX G.T.g G.T.b G.T.builtins G.T.nolimit hgens hobj hints (Nat.le_trans hlen hn2) hr hF hb
    (fun H hO hS => hsp H a ns hlen hO hS) (fun H e s' => hCX H s₁ e s')
end Gk

namespace Gk
open PySem PySem.Spec PyProof.Rows

open PySem.NumText PySem.W
/-- '1' and nine hundred noughts -/
def bigC : List Nat := 49 :: List.replicate 900 48
def bigS : PySem.Str := ⟨bigC.toArray⟩

theorem noughts : ∀ (n : Nat) (p : Array Nat),
    (List.replicate n 48).foldlM (step 10) (p, true) = some ((p.toList ++ List.replicate n 0).toArray, true)
  | 0, p => by simp
  | n + 1, p => by
    have e : step 10 (p, true) 48 = some (p.push 0, true) := rfl
    rw [List.replicate_succ, List.foldlM_cons, e]
    show (List.replicate n 48).foldlM (step 10) (p.push 0, true) = _
    rw [noughts n (p.push 0), List.replicate_succ]
    simp
theorem zeros_while {p : Nat → Bool} (h : p 48 = false) (n : Nat) : (List.replicate (n + 1) 48).dropWhile p = List.replicate (n + 1) 48 := by
  rw [List.replicate_succ, List.dropWhile_cons, h]
  rfl
theorem big_rev : bigC.reverse = List.replicate 900 48 ++ [49] := by
  unfold bigC
  rw [List.reverse_cons, List.reverse_replicate]
theorem big_sign : sign (bigC.dropWhile blank) = (false, bigC) := rfl
theorem big_core : core bigC = bigC := by
  unfold core
  rw [big_sign]
  show (List.dropWhile blank bigC.reverse).reverse = bigC
  have e : List.dropWhile blank bigC.reverse = bigC.reverse := by
    rw [big_rev, show 900 = 899 + 1 from rfl, List.replicate_succ, List.cons_append]
    rfl
  rw [e, List.reverse_reverse]
theorem big_neg : (sign (bigC.dropWhile blank)).1 = false := by rw [big_sign]
theorem ascii : ∀ n : Nat, (List.replicate n 48).all (· < 128) = true
  | 0 => rfl
  | n + 1 => by rw [List.replicate_succ, List.all_cons, ascii n]; rfl
theorem big_text : numTextOf bigS = bigC := by
  have h : bigS.cps.all (· < 128) = true := by
    unfold bigS bigC
    rw [← Array.all_toList]
    show (49 :: List.replicate 900 48).all _ = true
    rw [List.all_cons, ascii 900]
    rfl
  exact if_pos h
theorem all_on : ∀ n : Nat, (List.replicate n 48).takeWhile (· != 0) = List.replicate n 48
  | 0 => rfl
  | n + 1 => by
    rw [List.replicate_succ, List.takeWhile_cons]
    show 48 :: List.takeWhile _ (List.replicate n 48) = _
    rw [all_on n]
theorem big_seen : numSeenOf bigS = bigC := by
  show (numTextOf bigS).takeWhile (· != 0) = bigC
  rw [big_text]
  unfold bigC
  rw [List.takeWhile_cons]
  show 49 :: List.takeWhile _ (List.replicate 900 48) = _
  rw [all_on]
theorem big_len : bigC.length = 901 := by unfold bigC; rw [List.length_cons, List.length_replicate]
theorem digits_n (n : Nat) : digits? 10 (49 :: List.replicate n 48) = some ((1 :: List.replicate n 0).toArray) := by
  unfold digits?
  have e : step 10 (#[], false) 49 = some (#[1], true) := rfl
  rw [List.foldlM_cons, e]
  have e2 : (some (#[1], true) >>= fun s' => List.foldlM (step 10) s' (List.replicate n 48)) = List.foldlM (step 10) (#[1], true) (List.replicate n 48) := rfl
  rw [e2, noughts]
  rfl
theorem big_digits : digits? 10 bigC = some ((1 :: List.replicate 900 0).toArray) := digits_n 900
theorem grows : ∀ (n : Nat) (a : Nat), 0 < a → 0 < (List.replicate n 0).foldl (fun acc d => acc * 10 + d) a
  | 0, a, h => h
  | n + 1, a, h => by
    rw [List.replicate_succ, List.foldl_cons]
    exact grows n _ (by omega)
theorem big_worth : ∃ n, 0 < n ∧ PySem.intText? bigS = some n := by
  refine ⟨worth false ((1 :: List.replicate 900 0).toArray), ?_, ?_⟩
  · unfold worth
    have h := grows 900 (0 * 10 + 1) (by decide)
    simp only [List.foldl_toArray, List.foldl_cons]
    simp only [Bool.false_eq_true, if_false]
    exact Int.ofNat_lt.mpr h
  · unfold PySem.intText?
    rw [big_seen, big_text, big_core, big_digits, big_neg]
    rw [if_pos (by rw [big_len]; decide)]
    show (if (1 :: List.replicate 900 0).toArray.size ≤ 4300 then _ else _) = _
    rw [if_pos (by rw [List.size_toArray, List.length_cons, List.length_replicate]; decide)]
theorem big_long : ¬ ((numSeenOf bigS).length ≤ 640) := by rw [big_seen, big_len]; decide

theorem digits_wp {M : Model} {A : Around} {E : Value → Shared → Prop} {s : Shared} {Q : Nat → Shared → Prop}
    (hn : s.heap.NoDigits) (h : Q 4300 s) : wpAny M A Builtin.intMaxStrDigits Q E s := by
  obtain ⟨mc, hns, hnone⟩ := hn
  unfold Builtin.intMaxStrDigits
  apply wpAny_bind (wpAny_nsGet hns _)
  rw [hnone]
  exact wpAny_pure h

theorem big_from {M : Model} {A : Around} {E : Value → Shared → Prop} {s : Shared} {Q : Value → Shared → Prop} {v : Value} {text : List Nat} {n : Int}
    (hl : ¬ ((text.takeWhile (· != 0)).length ≤ 640))
    (hr : (int_private% "readNumeral") 4300 10 (text.takeWhile (· != 0)) = (int_private% "Numeral.value") n)
    (ha : ((text.takeWhile (· != 0)).length == text.length) = true)
    (hn : s.heap.NoDigits) (h : Q (.int n s.toks) { s with toks := s.toks + 1 }) :
    wpAny M A ((int_private% "intFromText") v text 10) Q E s := by
  obtain ⟨hp, g, d, tk, os⟩ := s
  repeat (any_goals (first
    | assumption
    | (with_reducible refine wpAny_ite_false (decide_eq_false hl) ?_)
    | (with_reducible refine wpAny_ite_true (decide_eq_true ha) ?_)
    | (with_reducible refine digits_wp hn ?_)
    | wp_step))
  all_goals (try rw [hr])
  all_goals (try dsimp only)
  repeat (any_goals (first
    | assumption
    | (with_reducible refine wpAny_ite_true (decide_eq_true ha) ?_)
    | wp_step))

set_option maxHeartbeats 4000000 in
theorem big_new {u : Tok} {n : Int} (hn : PySem.intText? bigS = some n) :
    Meets (Builtin.«int.__new__» ⟨[.type "int", .str bigS u], []⟩)
      (fun _ R s => s.heap.NoDigits ∧ R (.ok (.ret (.int n s.toks))) { s with toks := s.toks + 1 }) := by
  intro prog w A R s h
  obtain ⟨hd, h⟩ := h
  have hk : (int_private% "readNumeral") 4300 10 (numSeenOf bigS) = (int_private% "Numeral.value") n ∧ ((numSeenOf bigS).length == (numTextOf bigS).length) = true := by
    rcases read4300 bigS (by show bigC.toArray.size ≤ _; rw [List.size_toArray, big_len, sizeLine_eq]; decide) with ⟨m, h1, h2, h3⟩ | ⟨h1, _⟩
    · rw [hn] at h1
      injection h1 with h1
      subst h1
      exact ⟨h3, h2⟩
    · rw [hn] at h1
      cases h1
  have hl := big_long
  have f1 := F.conv_sub_int
  have f2 := F.madeHere_int
  have f3 := KIN.str_int
  have f4 := KIN.str_idx
  have f5 := KIN.str_trunc
  have f6 : typeOf (.str bigS u) = pure (.type "str") := rfl
  generalize bigS = x at *
  obtain ⟨hp, g, d, tk, os⟩ := s
  clear hn
  have hk2 := KIN.Hid.mk hk
  have hl2 := KIN.Hid.mk hl
  clear hk hl
  repeat (any_goals (first
    | assumption
    | ((with_reducible show wpAny _ _ ((int_private% "intFromText") _ _ _) _ _ _); refine big_from hl2.out hk2.out.1 hk2.out.2 hd ?_)
    | wp_step))
theorem call_big {prog : Program} {w : World} {A : Around} {E : Value → Shared → Prop} {s : Shared} {Q : Value → Shared → Prop} {t : Tok} {n : Int}
    (hn : PySem.intText? bigS = some n) (hd : s.heap.NoDigits) (h : Q (.int n s.toks) { s with toks := s.toks + 1 }) :
    wpAny (model prog w) A (call (.type "int") [.str bigS t]) Q E s :=
  call_int_1 (big_new hn) ⟨hd, typeIs_int _ _ _, h⟩
end Gk

namespace Gk
open PySem PySem.Spec PyProof.Rows L2

/-! ### data in the abstract heap: what is shown by repr; its lists stand at none of p -/
mutual
inductive Dx (p : List Addr) (H : Hp) : V → PyData → Prop
  | non : Dx p H .non .none
  | bl (b : Bool) : Dx p H (.bl b) (.bool b)
  | int (i : Int) : Dx p H (.int i) (.int i)
  | str (x : Str) : x.length ≤ 100000 → Dx p H (.str x) (.str x)
  | lst {a : Addr} {xs : List V} {ds : List PyData} : H a = some (.lst xs) → a ∉ p → xs.length ≤ 100000 → DxA p H xs ds → Dx p H (.ref a) (.list ds)
  | tup {a : Addr} {xs : List V} {ds : List PyData} : H a = some (.tup xs) → xs.length ≤ 100000 → DxA p H xs ds → Dx p H (.ref a) (.tuple ds)
  | dic0 {a : Addr} : H a = some (.dK []) → Dx p H (.ref a) (.dict [])
  | dic1 {a : Addr} {x : Str} {i : Int} : H a = some (.dK [(Sum.inr x, .int i)]) → Dx p H (.ref a) (.dict [(.str x, .int i)])
inductive DxA (p : List Addr) (H : Hp) : List V → List PyData → Prop
  | nil : DxA p H [] []
  | cons {v : V} {vs : List V} {d : PyData} {ds : List PyData} : Dx p H v d → DxA p H vs ds → DxA p H (v :: vs) (d :: ds)
end

/-- all that stood elsewhere than at p is as it was -/
def Keep (p : List Addr) (H H' : Hp) : Prop := ∀ b o, b ∉ p → H b = some o → H' b = some o
theorem Keep.refl (p : List Addr) (H : Hp) : Keep p H H := fun _ _ _ h => h
theorem Keep.trans {p : List Addr} {H H1 H2 : Hp} (a : Keep p H H1) (b : Keep p H1 H2) : Keep p H H2 := fun c o n h => b c o n (a c o n h)
theorem Keep.of {p : List Addr} {H H' : Hp} (s : Same H H') : Keep p H H' := fun b o _ h => s b o h
theorem Keep.free {p : List Addr} {H H' : Hp} (k : Keep p H H') {b : Addr} (n : b ∉ p) (h : H' b = none) : H b = none := by
  match q : H b with
  | none => rfl
  | some o => rw [k b o n q] at h; cases h
theorem same_new {H : Hp} {p : Addr} {o : HO} (h : H p = none) : Same H (upd H p o) := fun b x e => by
  rw [upd_ne (ne_of_none e h)]
  exact e
theorem keep_at {H : Hp} {p : Addr} {o : HO} {N : List Addr} (h : p ∈ N) : Keep N H (upd H p o) := fun b x n e => by
  rw [upd_ne (show b ≠ p from fun z => n (by rw [z]; exact h))]
  exact e
theorem Keep.sub {H H' : Hp} {N M : List Addr} (k : Keep N H H') (h : ∀ a ∈ N, a ∈ M) : Keep M H H' := fun b x n e => k b x (fun z => n (h b z)) e
/-- at each of these stands a list -/
def Lists (p : List Addr) (H : Hp) : Prop := ∀ a ∈ p, ∃ xs, H a = some (.lst xs)
theorem Lists.not {p : List Addr} {H : Hp} {a : Addr} {o : HO} (l : Lists p H) (h : H a = some o) (n : ∀ xs, o ≠ .lst xs) : a ∉ p := fun m => by
  obtain ⟨xs, e⟩ := l a m
  rw [h] at e
  exact n xs (Option.some.inj e)

mutual
theorem Dx.keep {p : List Addr} {H H' : Hp} (hp : Lists p H) (k : Keep p H H') : ∀ {v : V} {d : PyData}, Dx p H v d → Dx p H' v d
  | _, _, .non => .non
  | _, _, .bl b => .bl b
  | _, _, .int i => .int i
  | _, _, .str x h => .str x h
  | _, _, .lst h n l a => .lst (k _ _ n h) n l (DxA.keep hp k a)
  | _, _, .tup h l a => .tup (k _ _ (hp.not h (fun _ => nofun)) h) l (DxA.keep hp k a)
  | _, _, .dic0 h => .dic0 (k _ _ (hp.not h (fun _ => nofun)) h)
  | _, _, .dic1 h => .dic1 (k _ _ (hp.not h (fun _ => nofun)) h)
theorem DxA.keep {p : List Addr} {H H' : Hp} (hp : Lists p H) (k : Keep p H H') : ∀ {vs : List V} {ds : List PyData}, DxA p H vs ds → DxA p H' vs ds
  | _, _, .nil => .nil
  | _, _, .cons h t => .cons (Dx.keep hp k h) (DxA.keep hp k t)
end
mutual
theorem Dx.same {p : List Addr} {H H' : Hp} (k : Same H H') : ∀ {v : V} {d : PyData}, Dx p H v d → Dx p H' v d
  | _, _, .non => .non
  | _, _, .bl b => .bl b
  | _, _, .int i => .int i
  | _, _, .str x h => .str x h
  | _, _, .lst h n l a => .lst (k _ _ h) n l (DxA.same k a)
  | _, _, .tup h l a => .tup (k _ _ h) l (DxA.same k a)
  | _, _, .dic0 h => .dic0 (k _ _ h)
  | _, _, .dic1 h => .dic1 (k _ _ h)
theorem DxA.same {p : List Addr} {H H' : Hp} (k : Same H H') : ∀ {vs : List V} {ds : List PyData}, DxA p H vs ds → DxA p H' vs ds
  | _, _, .nil => .nil
  | _, _, .cons h t => .cons (Dx.same k h) (DxA.same k t)
end
theorem DxA.length {p : List Addr} {H : Hp} : ∀ {vs : List V} {ds : List PyData}, DxA p H vs ds → vs.length = ds.length
  | _, _, .nil => rfl
  | _, _, .cons _ t => congrArg Nat.succ (DxA.length t)
theorem DxA.append {p : List Addr} {H : Hp} : ∀ {vs ws : List V} {ds es : List PyData}, DxA p H vs ds → DxA p H ws es → DxA p H (vs ++ ws) (ds ++ es)
  | _, _, _, _, .nil, s => s
  | _, _, _, _, .cons h t, s => .cons h (DxA.append t s)
theorem DxA.take {p : List Addr} {H : Hp} : ∀ {vs : List V} {ds : List PyData} (n : Nat), DxA p H vs ds → DxA p H (vs.take n) (ds.take n)
  | _, _, 0, _ => .nil
  | _, _, _ + 1, .nil => .nil
  | _, _, n + 1, .cons h t => .cons h (DxA.take n t)
theorem DxA.drop {p : List Addr} {H : Hp} : ∀ {vs : List V} {ds : List PyData} (n : Nat), DxA p H vs ds → DxA p H (vs.drop n) (ds.drop n)
  | _, _, 0, s => s
  | _, _, _ + 1, .nil => .nil
  | _, _, n + 1, .cons _ t => DxA.drop n t
theorem DxA.get {p : List Addr} {H : Hp} : ∀ {vs : List V} {ds : List PyData} {i : Nat} {v : V}, DxA p H vs ds → vs[i]? = some v → ∃ d, ds[i]? = some d ∧ Dx p H v d
  | _, _, _, _, .nil, e => by simp at e
  | _, _, 0, _, .cons h _, e => by simp at e; subst e; exact ⟨_, rfl, h⟩
  | _, _, i + 1, v, .cons _ t, e => by
    obtain ⟨d, e1, e2⟩ := DxA.get (i := i) (v := v) t (by simpa using e)
    exact ⟨d, by simpa using e1, e2⟩
theorem DxA.strs {p : List Addr} {H : Hp} : ∀ xs : List Str, (∀ x ∈ xs, x.length ≤ 100000) → DxA p H (xs.map V.str) (xs.map PyData.str)
  | [], _ => .nil
  | x :: xs, h => .cons (.str x (h x (List.mem_cons_self ..))) (DxA.strs xs fun y hy => h y (List.mem_cons_of_mem _ hy))

mutual
theorem Dx.new {p : List Addr} {H H' : Hp} {L : Addr} (hL : H L = none) (k : Same H H') : ∀ {v : V} {d : PyData}, Dx p H v d → Dx (L :: p) H' v d
  | _, _, .non => .non
  | _, _, .bl b => .bl b
  | _, _, .int i => .int i
  | _, _, .str x h => .str x h
  | _, _, .lst h n l a => .lst (k _ _ h) (fun z => (List.mem_cons.mp z).elim (fun e => by rw [e, hL] at h; cases h) n) l (DxA.new hL k a)
  | _, _, .tup h l a => .tup (k _ _ h) l (DxA.new hL k a)
  | _, _, .dic0 h => .dic0 (k _ _ h)
  | _, _, .dic1 h => .dic1 (k _ _ h)
theorem DxA.new {p : List Addr} {H H' : Hp} {L : Addr} (hL : H L = none) (k : Same H H') : ∀ {vs : List V} {ds : List PyData}, DxA p H vs ds → DxA (L :: p) H' vs ds
  | _, _, .nil => .nil
  | _, _, .cons h t => .cons (Dx.new hL k h) (DxA.new hL k t)
end
/-! no list stands in it -/
mutual
def listless : PyData → Bool
  | .list _ => false
  | .tuple xs => listlessA xs
  | _ => true
def listlessA : List PyData → Bool
  | [] => true
  | x :: xs => listless x && listlessA xs
end
section
variable {X : Cx} {pins : List (Addr × Obj)} {σ : L2.St} {H : Hp} {s : Shared}
mutual
theorem Dx.reads (I : L2.Inv X pins σ H s) {p : List Addr} : ∀ (d : PyData) (v : V) (u : Value), Dx p H v d → RelV v u → ∃ as, Reads s.heap u d as ∧ (listless d = true → sysModules ∉ as)
  | .none, _, _, h, r => by
    cases h; cases r
    exact ⟨_, Reads.none, fun _ => List.not_mem_nil⟩
  | .bool b, _, _, h, r => by
    cases h; cases r
    exact ⟨_, Reads.bool b, fun _ => List.not_mem_nil⟩
  | .int i, _, _, h, r => by
    cases h
    obtain ⟨t, rfl⟩ := r
    exact ⟨_, Reads.int i t, fun _ => List.not_mem_nil⟩
  | .str x, _, _, h, r => by
    cases h
    obtain ⟨t, rfl⟩ := r
    exact ⟨_, Reads.str x t, fun _ => List.not_mem_nil⟩
  | .list ds, _, _, h, r => by
    cases h with
    | lst hs _ _ ha =>
      cases r
      obtain ⟨_, its, n, rv, e⟩ := I.hok _ _ hs
      obtain ⟨as, hr, _⟩ := DxA.readsA I ds _ its ha rv
      exact ⟨_, Reads.list e rfl rfl (by simpa using hr), fun z => by cases z⟩
  | .tuple ds, _, _, h, r => by
    cases h with
    | tup hs _ ha =>
      cases r
      obtain ⟨_, its, rv, o, ho, hc, n, hd⟩ := I.hok _ _ hs
      obtain ⟨as, hr, hl⟩ := DxA.readsA I ds _ its ha rv
      exact ⟨_, Reads.tuple ho hc hd (by simpa using hr), fun z => hl z⟩
  | .dict kvs, _, _, h, r => by
    cases h with
    | dic0 hs =>
      cases r
      obtain ⟨_, hy, vs, rv, o, es, ep, ho, hx, hd, _, pr, _⟩ := I.hok _ _ hs
      cases rv
      have e0 : es.toList = [] := by
        generalize es.toList = l at pr
        cases pr
        rfl
      refine ⟨_, Reads.dict (as := []) (bs := []) ho hx.1 hd (by rw [e0]; exact .nil) (by rw [e0]; exact .nil), fun _ z => ?_⟩
      rcases List.mem_cons.mp z with q | q
      · rw [← q] at hy; simp at hy
      · exact List.not_mem_nil q
    | dic1 hs =>
      cases r
      obtain ⟨_, hy, vs, rv, o, es, ep, ho, hx, hd, _, pr, _⟩ := I.hok _ _ hs
      match vs, rv with
      | [(ke, ve)], .cons r1 .nil =>
        have h1 : Sum.inr _ = ke := r1.1
        obtain ⟨t, h2⟩ : ∃ t, ve = Value.int _ t := r1.2
        subst h1
        subst h2
        generalize hl : es.toList = l at pr
        cases pr with
        | cons k1 k2 k3 =>
          cases k3
          rename_i en
          obtain ⟨t2, e2⟩ := Value.isStrOf_shape (show Value.isStrOf _ en.key = true from k1)
          refine ⟨_, Reads.dict (as := []) (bs := []) ho hx.1 hd (by rw [hl]; exact .cons (as := []) (by dsimp only; rw [e2]; exact .str _ _) .nil) (by rw [hl]; exact .cons (as := []) (by dsimp only; rw [k2]; exact .int _ _) .nil), fun _ z => ?_⟩
          rcases List.mem_cons.mp z with q | q
          · rw [← q] at hy; simp at hy
          · exact List.not_mem_nil q
termination_by d => sizeOf d
theorem DxA.readsA (I : L2.Inv X pins σ H s) {p : List Addr} : ∀ (ds : List PyData) (vs : List V) (us : List Value), DxA p H vs ds → Vals vs us → ∃ as, ReadsAll s.heap us ds as ∧ (listlessA ds = true → sysModules ∉ as)
  | [], _, _, h, r => by
    cases h; cases r
    exact ⟨_, ReadsAll.nil, fun _ => List.not_mem_nil⟩
  | d :: ds, _, _, h, r => by
    cases h with
    | cons h1 h2 =>
      cases r with
      | cons r1 r2 =>
        obtain ⟨as, q1, l1⟩ := Dx.reads I d _ _ h1 r1
        obtain ⟨bs, q2, l2⟩ := DxA.readsA I ds _ _ h2 r2
        refine ⟨_, ReadsAll.cons q1 q2, fun z => ?_⟩
        have z' : (listless d && listlessA ds) = true := by simpa [listlessA] using z
        rw [Bool.and_eq_true] at z'
        intro hm
        rcases List.mem_append.mp hm with q | q
        · exact l1 z'.1 q
        · exact l2 z'.2 q
termination_by ds => sizeOf ds
end
end

/-! ### repr -/
theorem textFrom_le : ∀ (ts : List Str) (k : Nat) (acc : Str), (textFrom k acc ts).length ≤ acc.length + piled ts
  | [], _, acc => Nat.le_add_right _ _
  | t :: r, k, acc => by
    have ih := textFrom_le r (k + 1) (acc ++ (if k > 0 then ", " else "" : String) ++ t)
    have e : (acc ++ (if k > 0 then ", " else "" : String) ++ t).length ≤ acc.length + 2 + t.length := by
      rw [strLen_append, strLen_append]
      have z : (Str.ofString (if k > 0 then ", " else "" : String)).length ≤ 2 := by split <;> decide
      omega
    rw [piled_cons]
    show (textFrom (k + 1) _ r).length ≤ _
    omega
theorem listText_le (ts : List Str) : (listText ts).length ≤ piled ts + 2 := by
  have h := textFrom_le ts 0 "["
  unfold listText
  rw [strLen_append]
  have e1 : (Str.ofString "]").length = 1 := by decide
  have e2 : (Str.ofString "[").length = 1 := by decide
  omega
theorem join_le (ts : List Str) : (Str.join ", " ts).length ≤ piled ts := by
  match ts with
  | [] => exact Nat.zero_le _
  | t :: r =>
    have h := join_length_add (t :: r) (by simp)
    omega
theorem tupleText_le (ts : List Str) : (tupleText ts).length ≤ piled ts + 3 := by
  have h := join_le ts
  unfold tupleText
  rw [strLen_append, strLen_append]
  have e1 : (Str.ofString "(").length = 1 := by decide
  have e2 : (Str.ofString (if ts.length == 1 then ",)" else ")" : String)).length ≤ 2 := by split <;> decide
  omega
theorem piled_le {n : Nat} : ∀ (ds : List PyData), (∀ d ∈ ds, d.shown.length ≤ n) → piled (PyData.shownAll ds) ≤ ds.length * (n + 2)
  | [], _ => by simp [PyData.shownAll, piled_nil]
  | d :: ds, h => by
    have ih := piled_le ds fun e he => h e (List.mem_cons_of_mem _ he)
    have h1 := h d (List.mem_cons_self ..)
    simp only [PyData.shownAll]
    rw [piled_cons, List.length_cons, Nat.succ_mul]
    omega
theorem shown_list_le {n : Nat} {ds : List PyData} (h : ∀ d ∈ ds, d.shown.length ≤ n) : (PyData.list ds).shown.length ≤ ds.length * (n + 2) + 2 := by
  have h1 := piled_le ds h
  have h2 := listText_le (PyData.shownAll ds)
  simp only [PyData.shown]
  omega
theorem shown_tuple_le {n : Nat} {ds : List PyData} (h : ∀ d ∈ ds, d.shown.length ≤ n) : (PyData.tuple ds).shown.length ≤ ds.length * (n + 2) + 3 := by
  have h1 := piled_le ds h
  have h2 := tupleText_le (PyData.shownAll ds)
  simp only [PyData.shown]
  omega

/-- what can be shown -/
structure Shows (d : PyData) : Prop where
  ok : d.showable = true
  deep : d.depth ≤ 30
  size : d.shown.length ≤ 16000000
  clean : d.hasDict = false ∨ listless d = true

theorem big_line : (16000000 : Nat) ≤ sizeLine := by rw [sizeLine_eq]; decide

section
variable {X : Cx}
def rRepr (p : List Addr) : List V → Hp → VK → Prop := fun xs H Q => ∃ v d, xs = [v] ∧ Dx p H v d ∧ Shows d ∧ Q (.str d.shown) H
theorem call_reprD {k : Nat} (p : List Addr) (hg : X.A.guards = some []) (hr : Room k X.A) : CallR X (.builtin "repr") (rRepr p) := by
  intro pins s σ H xs us Q I r h
  obtain ⟨v, d, rfl, hd, hs, q⟩ := h
  obtain ⟨u, rfl, ru⟩ := vals1 r
  have hz : d.shown.length ≤ sizeLine := Nat.le_trans hs.size big_line
  have hu : X.A.units + (d.depth + 1) < cLine := by
    have h1 := hr.un
    have h2 := hs.deep
    omega
  obtain ⟨as, hr, hl⟩ := Dx.reads I d v u hd ru
  have heap : ∀ a, u = .ref a → wpAny (model X.prog X.w) X.A (call (.builtin "repr") [u]) (EP X pins σ Q) X.xe s := by
    rintro a rfl
    refine repr_of_reads' hr hs.ok (fun z => ?_) hg hu (fun _ _ e => e) (fun h' t tk hk => ?_) hz
    · rcases hs.clean with c | c
      · rw [c] at z; cases z
      · exact hl c
    · exact ⟨.str _, H, I.kept (t' := tk) hk, ⟨t, rfl⟩, q⟩
  cases hd with
  | non => cases ru; exact PySem.P.repr_of_none ⟨.str _, H, I.tok _, ⟨_, rfl⟩, q⟩
  | bl b => cases ru; exact PySem.P.repr_of_bool ⟨.str _, H, I.tok _, ⟨_, by simp only [PyData.shown]; split <;> rfl⟩, q⟩
  | int i =>
    obtain ⟨t, rfl⟩ := ru
    exact PySem.P.repr_of_int (by simpa [PyData.showable] using hs.ok) ⟨.str _, H, I.tok _, ⟨_, rfl⟩, q⟩
  | str x _ =>
    obtain ⟨t, rfl⟩ := ru
    exact PySem.P.repr_of_str ⟨.str _, H, I.tok _, ⟨_, rfl⟩, q⟩ hz
  | lst _ _ _ _ => exact heap _ ru
  | tup _ _ _ => exact heap _ ru
  | dic0 _ => exact heap _ ru
  | dic1 _ => exact heap _ ru

/-! ### a text, so many times -/
def repS (z : Str) (n : Nat) : Str := ⟨(List.replicate n z.cps.toList).flatten.toArray⟩
theorem foldl_cat (z : Array Nat) : ∀ (n : Nat) (acc : Array Nat), (List.replicate n z).foldl (· ++ ·) acc = (acc.toList ++ (List.replicate n z.toList).flatten).toArray
  | 0, acc => by simp
  | n + 1, acc => by
    rw [List.replicate_succ, List.foldl_cons, foldl_cat z n, List.replicate_succ, List.flatten_cons]
    simp
theorem repS_zero (z : Str) : repS z 0 = Str.empty := rfl
theorem repS_one (z : Str) : repS z 1 = z := by
  unfold repS
  obtain ⟨⟨l⟩⟩ := z
  simp
theorem repS_empty {z : Str} (h : z.length = 0) (n : Nat) : repS z n = z := by
  obtain ⟨⟨l⟩⟩ := z
  have e : l = [] := List.length_eq_zero_iff.mp h
  subst e
  unfold repS
  simp
theorem repS_fold (z : Str) (n : Nat) : (⟨(List.replicate n z.cps).foldl (· ++ ·) #[]⟩ : Str) = repS z n := by
  unfold repS
  rw [foldl_cat]
  simp
theorem repS_length (z : Str) (n : Nat) : (repS z n).length = n * z.length := by
  show (List.replicate n z.cps.toList).flatten.toArray.size = n * z.cps.size
  rw [List.size_toArray, List.length_flatten, List.map_replicate, List.sum_replicate_nat, Array.length_toList]
theorem op_mulStr : OpR X (binaryOp .Mult) (fun x y H Q => ∃ (z : Str) (k : Nat), x = .str z ∧ y = .int (k : Int) ∧ z.length * k ≤ 10000000 ∧ k ≤ 10000000 ∧ z.length ≤ 10000000 ∧ Q (.str (repS z k)) H) := by
  intro pins s σ H x y v u Q I rx ry h
  obtain ⟨z, k, rfl, rfl, hz, hk, hl, q⟩ := h
  obtain ⟨t, rfl⟩ := rx
  obtain ⟨t', rfl⟩ := ry
  refine PySem.P.mul_str ?_ (fun h1 h2 => ?_) (fun h1 h2 => ?_) ?_
  · rw [decide_eq_false (by omega), decide_eq_false (by omega)]; rfl
  · have : (1 : Int) ≤ k := by omega
    have h3 : (10000000 : Int) ≤ (2 ^ 63 - 1) / (k : Int) := by
      apply (Int.le_ediv_iff_mul_le (by omega)).mpr
      omega
    omega
  · show decide (z.length * ((k : Int).toNat) > sizeLine) = false
    have := big_line
    exact decide_eq_false (by rw [show ((k : Int).toNat) = k from rfl]; omega)
  · by_cases h0 : k = 0
    · subst h0
      rw [if_pos (by decide)]
      exact ⟨by decide, .str _, H, I.tok _, ⟨_, rfl⟩, by rw [repS_zero] at q; exact q⟩
    · rw [if_neg (by omega)]
      by_cases h1 : ((k : Int) == 1 || z.length == 0) = true
      · rw [if_pos h1]
        have e : repS z k = z := by
          rw [Bool.or_eq_true, beq_iff_eq, beq_iff_eq] at h1
          rcases h1 with h1 | h1
          · have : k = 1 := by omega
            rw [this, repS_one]
          · exact repS_empty h1 k
        rw [e] at q
        exact ⟨.str _, H, I, ⟨_, rfl⟩, q⟩
      · rw [if_neg h1]
        rw [show ((k : Int).toNat) = k from rfl, repS_fold]
        refine ⟨?_, .str _, H, I.tok _, ⟨_, rfl⟩, q⟩
        have := big_line
        rw [repS_length, Nat.mul_comm]
        omega

/-! ### int of the long text -/
theorem noDigits_of {K : PySem.W.Frag} {h : Heap} (X : K.In h) (L : h.NoLimit)
    (e : PySem.W.nsIn K cStatics "sys.int_max_str_digits" = some none) : h.NoDigits := by
  obtain ⟨mc, G, _⟩ := L
  refine ⟨mc, G, ?_⟩
  obtain ⟨o, es, ep, ho, hd, _, hf⟩ := G
  rw [← hf]
  unfold PySem.W.nsIn at e
  cases q : K.lookup cStatics with
  | none => rw [q] at e; cases e
  | some ob =>
    have z := X _ _ q
    rw [ho] at z
    cases z
    obtain ⟨c1, c2, c3, c4⟩ := o
    cases (show c3 = _ from hd)
    rw [q] at e
    dsimp only at e
    unfold nsFind findBy
    rw [← Array.find?_toList]
    cases f : es.toList.find? (fun x => x.key.isStr "sys.int_max_str_digits") with
    | none => rfl
    | some en => rw [f] at e; cases e
theorem call_bigInt (hd : PySem.W.nsIn X.K cStatics "sys.int_max_str_digits" = some none) :
    CallR X (.type "int") (fun xs H Q => xs = [.str bigS] ∧ ∀ n : Int, 0 < n → Q (.int n) H) := by
  intro pins s σ H xs us Q I r h
  obtain ⟨rfl, q⟩ := h
  obtain ⟨u, rfl, t, rfl⟩ := vals1 r
  obtain ⟨n, h0, hn⟩ := big_worth
  exact call_big hn (noDigits_of I.kIn I.nolimit hd) ⟨.int n, H, I.tok _, ⟨_, rfl⟩, q n h0⟩

/-! ### calls with keywords alone -/
variable {CX : CXT} {k n : Nat} {f : Addr} {fd : FuncData} {ps ks : List Str} {sp : Sp} {E : XK} {x : Str} {p pos : Pos}
  {kws : List Keyword} {tk : TA} {g : List Value → List Value → List Value} {gV : List V → List V → List V}
theorem pe_callN0 (F : FnOk X.prog X.w X.K X.mg X.base CX k f fd ps sp) (hr : Room k X.A) (hg : Gl X x)
    (hm : X.mg x = some (.ref f)) (hk : PySem.W.keepIn X.K (.ref f) = true) (hb : KBn X.K fd ps 0 ks g gV)
    (hx : Passes CX X E) (hkw : PK X kws tk)
    (hall : (backToKw pos (keywordEach kws X.env)).all (·.1.isSome) = true := by rfl)
    (hks : (backToKw pos (keywordEach kws X.env)).filterMap (·.1) = ks := by rfl)
    (hdb : (x == ("__debug__" : Str)) = false := by decide)
    (hpl : (backToKw pos (keywordEach kws X.env)).any (·.1.isNone) = false := by rfl) :
    PE X (.Call (.Name x p) [] kws pos) (tCallN 0 ks.length sp gV E tNil tk) := by
  constructor
  intro pins s σ H Q I h
  apply wpAny_Call_Name_kw
  apply ld_glob I hg hm _ hdb
  apply PySem.W.callWith_KW0 (h₀ := X.base) I.ok.mod.kin hk hall _ hpl
  apply thn (hkw.run pos pins s σ H _ I h)
  rintro ws s2 ⟨zs, H2, I2, rz, l1, l2, q2⟩
  refine ⟨I2.kIn, ?_⟩
  rw [hks]
  exact run_fnN (us := []) F hr hb hx I2 .nil rz l1 l2 q2
theorem kbn_mk {K : PySem.W.Frag} {y qual : Str} {params : Arguments} {body : List Stmt} {scope : Scope} {kwd : List (Str × V)}
    (F : FunD K y qual params body scope [] kwd f fd)
    (hrel : ∀ {vs zs : List V} {us ws : List Value}, Vals vs us → Vals zs ws → Vals (gV vs zs) (g us ws))
    (h : ∀ (kV doc pm : Value) (an : Option Addr) (cdv ct : Value) (us ws : List Value), us.length = n → ws.length = ks.length →
      bindArgs (PySem.W.fnOf y qual params body scope .none kV doc pm an cdv ct) ⟨us, ks.zip ws⟩ = pure (ps.zip (g us ws))) :
    KBn K fd ps n ks g gV := by
  obtain ⟨oc, od, dV, kV, doc, pm, an, cdv, ct, osl, rfl, lk, hcd, hD, hK⟩ := F.ex
  rcases hD with ⟨_, rfl⟩ | ⟨e, _⟩
  · exact ⟨fun s us ws X l1 l2 => .of_eq (h kV doc pm an cdv ct us ws l1 l2), hrel⟩
  · exact absurd rfl e
end

/-! ### a def of the head that shows things -/
section
variable {P : Program} {w : World} {K : PySem.W.Frag} {mg : Str → Option Value} {base : Heap}
theorem okGD {CX : CXT} {x qual : Str} {params : Arguments} {body : List Stmt} {scope : Scope} {dvs : List V} {kws : List (Str × V)}
    {f : Addr} {fd : FuncData} {N ps : List Str} {k : Nat} {sp : Sp}
    (F : FunD K x qual params body scope dvs kws f fd) (S : FnScope N ps scope)
    (ar : ∀ vs H Q E, sp vs H Q E → vs.length = ps.length)
    (hb : ∀ (cdv : Value) (A : Around) (outer : List Env) (s : Shared) (H : Hp) (vs : List V) (Q : VK) (E : XK),
      A.guards = some [] → Room k (A.deeper (envOfC qual scope s.heap.objs.size f cdv)) → sp vs H Q E →
      ∃ t, PSs (cxOf CX P w K mg base N qual scope f cdv A outer s H E) body t ∧
        t { nx := fun _ H' => Q .non H', rt := Q } (start N vs) H) :
    FnG P w K mg base CX (k + 1) f fd ps sp := by
  obtain ⟨_, _, _, _, _, _, _, cdv, _, _, rfl, lk, hcd, _, _⟩ := F.ex
  exact fnG_body lk hcd S ar fun A outer s H vs Q E hg hr hsp => hb cdv A outer s H vs Q E hg hr hsp
end

/-! ### bundles: a def as its callers see it -/
structure Bi (mg : Str → Option Value) : Prop where
  len : mg "len" = none
  range : mg "range" = none
  isinstance : mg "isinstance" = none
  all : mg "all" = none
  any : mg "any" = none
  abs : mg "abs" = none
  int : mg "int" = none
  max : mg "max" = none
  min : mg "min" = none
  repr : mg "repr" = none
  tuple : mg "tuple" = none
  list : mg "list" = none
  str : mg "str" = none
  sorted : mg "sorted" = none
  sum : mg "sum" = none
  zip : mg "zip" = none
  enumerate : mg "enumerate" = none
  reversed : mg "reversed" = none
  divmod : mg "divmod" = none
  dict : mg "dict" = none
  set : mg "set" = none
  bool : mg "bool" = none
  ValueError : mg "ValueError" = none
def biFa : List He.Fa := [.free "len", .free "range", .free "isinstance", .free "all", .free "any", .free "abs", .free "int",
  .free "max", .free "min", .free "repr", .free "tuple", .free "list", .free "str", .free "sorted", .free "sum", .free "zip",
  .free "enumerate", .free "reversed", .free "divmod", .free "dict", .free "set", .free "bool", .free "ValueError"]
theorem bi_of {K : PySem.W.Frag} {h : Heap} {mg : Str → Option Value} (X : K.In h) (G : h.Ns mainGlobals mg)
    (c : ∀ (i : Nat) (f : He.Fa), biFa[i]? = some f → f.ok K = true) : Bi mg :=
  ⟨He.free_ok X G (c 0 _ rfl), He.free_ok X G (c 1 _ rfl), He.free_ok X G (c 2 _ rfl), He.free_ok X G (c 3 _ rfl),
   He.free_ok X G (c 4 _ rfl), He.free_ok X G (c 5 _ rfl), He.free_ok X G (c 6 _ rfl), He.free_ok X G (c 7 _ rfl),
   He.free_ok X G (c 8 _ rfl), He.free_ok X G (c 9 _ rfl), He.free_ok X G (c 10 _ rfl), He.free_ok X G (c 11 _ rfl),
   He.free_ok X G (c 12 _ rfl), He.free_ok X G (c 13 _ rfl), He.free_ok X G (c 14 _ rfl), He.free_ok X G (c 15 _ rfl),
   He.free_ok X G (c 16 _ rfl), He.free_ok X G (c 17 _ rfl), He.free_ok X G (c 18 _ rfl), He.free_ok X G (c 19 _ rfl),
   He.free_ok X G (c 20 _ rfl), He.free_ok X G (c 21 _ rfl), He.free_ok X G (c 22 _ rfl)⟩
/-- a module's constant -/
def Con (mg : Str → Option Value) (x : Str) (v : V) : Prop := ∃ u, mg x = some u ∧ RelV v u
theorem pe_k {X : Cx} {x : Str} {pos : Pos} {v : V} (hg : Gl X x) (h : Con X.mg x v) (hdb : (x == ("__debug__" : Str)) = false := by decide) : PE X (.Name x pos) (tC v) :=
  let ⟨_, h1, h2⟩ := h
  pe_glob hg h1 h2 hdb

def Cl (P : Program) (w : World) (K : PySem.W.Frag) (mg : Str → Option Value) (base : Heap) (k : Nat) (x : Str) (ps : List Str) (sp : Sp) : Prop :=
  ∃ f fd, FnOk P w K mg base CX0 k f fd ps sp ∧ mg x = some (.ref f) ∧ PySem.W.keepIn K (.ref f) = true ∧ Binds K fd ps []
def ClG (P : Program) (w : World) (K : PySem.W.Frag) (mg : Str → Option Value) (base : Heap) (k : Nat) (x : Str) (ps : List Str) (sp : Sp) : Prop :=
  ∃ f fd, FnG P w K mg base CX0 k f fd ps sp ∧ mg x = some (.ref f) ∧ PySem.W.keepIn K (.ref f) = true ∧ Binds K fd ps []
/-- called by keywords -/
def ClK (P : Program) (w : World) (K : PySem.W.Frag) (mg : Str → Option Value) (base : Heap) (k : Nat) (x : Str) (ps : List Str) (sp : Sp)
    (n : Nat) (ks : List Str) (gV : List V → List V → List V) : Prop :=
  ∃ f fd g, FnOk P w K mg base CX0 k f fd ps sp ∧ mg x = some (.ref f) ∧ PySem.W.keepIn K (.ref f) = true ∧ KBn K fd ps n ks g gV
section
variable {X : Cx} {k j n : Nat} {x : Str} {ps ks : List Str} {sp : Sp} {p pos : Pos} {e : Expr} {es : List Expr} {t tk : TA} {kws : List Keyword} {gV : List V → List V → List V}
theorem pe_cl (c : Cl X.prog X.w X.K X.mg X.base k x ps sp) (hr : Room j X.A) (hk : k ≤ j) (hg : Gl X x) (ha : PA X (e :: es) t)
    (hdb : (x == ("__debug__" : Str)) = false := by decide)
    (he : starEach (e :: es) X.env = (false, eval e X.env) :: starEach es X.env := by rfl)
    (hpl : (backTo pos (starEach es X.env)).any (·.1) = false := by rfl) :
    PE X (.Call (.Name x p) (e :: es) [] pos) (tCall sp [] E0 t) :=
  let ⟨_, _, F, hm, kp, b⟩ := c
  pe_call F (hr.mono hk) hg hm kp b .nil pass0 ha hdb he hpl
theorem pe_clG (c : ClG X.prog X.w X.K X.mg X.base k x ps sp) (gd : X.A.guards = some []) (hr : Room j X.A) (hk : k ≤ j) (hg : Gl X x) (ha : PA X (e :: es) t)
    (hdb : (x == ("__debug__" : Str)) = false := by decide)
    (he : starEach (e :: es) X.env = (false, eval e X.env) :: starEach es X.env := by rfl)
    (hpl : (backTo pos (starEach es X.env)).any (·.1) = false := by rfl) :
    PE X (.Call (.Name x p) (e :: es) [] pos) (tCall sp [] E0 t) :=
  let ⟨_, _, F, hm, kp, b⟩ := c
  pe_callG F gd (hr.mono hk) hg hm kp b .nil pass0 ha hdb he hpl
theorem pe_clK0 (c : ClK X.prog X.w X.K X.mg X.base k x ps sp 0 ks gV) (hr : Room j X.A) (hk : k ≤ j) (hg : Gl X x) (ha : PK X kws tk)
    (hall : (backToKw pos (keywordEach kws X.env)).all (·.1.isSome) = true := by rfl)
    (hks : (backToKw pos (keywordEach kws X.env)).filterMap (·.1) = ks := by rfl)
    (hdb : (x == ("__debug__" : Str)) = false := by decide)
    (hpl : (backToKw pos (keywordEach kws X.env)).any (·.1.isNone) = false := by rfl) :
    PE X (.Call (.Name x p) [] kws pos) (tCallN 0 ks.length sp gV E0 tNil tk) :=
  let ⟨_, _, _, F, hm, kp, b⟩ := c
  pe_callN0 F (hr.mono hk) hg hm kp b pass0 ha hall hks hdb hpl
end

/-! ### the head's facts, with the interpreter's own statics -/
def frS (n : Nat) (g : Addr → Option Obj) : PySem.W.Frag := He.frG g (He.asD g n ++ [cStatics])
def dig (K : PySem.W.Frag) : Bool := He.eqO (PySem.W.nsIn K cStatics "sys.int_max_str_digits") (some none)
def obsS (n : Nat) (fa : List He.Fa) (fn : List He.DefD) (g : Addr → Option Obj) : He.AlD × Bool :=
  (He.obsD fa fn (frS n g), dig (frS n g))
def hookS (n : Nat) (fa : List He.Fa) (fn : List He.DefD) : PySem.W.Hook where
  α := He.AlD × Bool
  obs := fun s => obsS n fa fn s.heap.get?
  val := fun _ => (He.valD fn, true)
  says := fun _ h => ∃ K : PySem.W.Frag, K.In h ∧ He.SaysD fa fn K ∧ dig K = true
  of := fun _ s e => ⟨frS n s.heap.get?, He.frG_in, show He.obsD fa fn _ = He.valD fn from congrArg Prod.fst e, show dig _ = true from congrArg Prod.snd e⟩
  keeps := fun _ _ _ ⟨K, hK, c⟩ k => ⟨K, PySem.W.Frag.In.keeps hK k, c⟩
theorem obsS_eq {n : Nat} {fa : List He.Fa} {fn : List He.DefD} {g : Addr → Option Obj} {s : Shared}
    (h : ∀ a, g a = s.heap.get? a) : obsS n fa fn g = (hookS n fa fn).obs s := by
  have e : g = s.heap.get? := funext h
  subst e
  rfl
end Gk

/-! dict comprehensions whose keys are tuples of ints and texts -/
namespace Gk
open PySem PySem.Spec PyProof.Rows L2

theorem setT {X : Cx} {pins : List (Addr × Obj)} {σ : L2.St} {H : Hp} {s : Shared} {E : Value → Shared → Prop} {D b : Addr}
    {kvs : List (List Key × V)} {k : List Key} {v : V} {r : Value} {Q : Unit → Shared → Prop} (hu : X.A.units + 1 < cLine)
    (I : L2.Inv X pins σ H s) (hD : H D = some (.dT kvs)) (hb : H b = some (.tup (k.map kV))) (hz : kvs.length < sizeLine) (rv : RelV v r)
    (h : ∀ s', L2.Inv X pins σ (upd H D (.dT (putK kvs k v))) s' → Q () s') :
    wpAny (model X.prog X.w) X.A (dictSet D (.ref b) r) Q E s := by
  obtain ⟨zl, hd, xs, rel, dd⟩ := dt_of I.hok hD
  have hxs : xs.length ≤ sizeLine := (Paired.length rel) ▸ zl
  have hput : (putK kvs k v).length ≤ sizeLine := Nat.le_trans (length_putK kvs k v) hz
  have room : (tupleKind (mixKind X.prog X.w)).room X.A := by
    show X.A.units < cLine
    omega
  apply wpAny_dictSet_heap (hsz := hxs) room (key_of I.hok hb) dd
  intro h' dd' hs
  apply h
  obtain ⟨q, es, ep, hq, h2, h3, h4, _, h5⟩ := dd'
  apply d_write I (by rw [hD]; trivial) hs ⟨q, hq⟩
  refine ⟨hput, hd, _, KT.keeps (rel.put k hb rv) ?_, q, es, ep, hq, h2, h3, h4, h5⟩
  intro c ys ec
  exact (upd_ne (ne_of ec hD nofun)).trans ec

/-- what is asked of {k: v for ..}: D is the new dict -/
def tDcT (wi : TI) (g : TG) (tt : TT) (tk tv : TE) (vs : List Nat) : TE := fun σ H Q =>
  wi σ H fun J H1 => ∀ D, H1 D = none → ∃ W : Nat → Nat → Hp → Prop, (∃ m, W 0 m (upd H1 D (.dT []))) ∧
    ∀ i m H, W i m H → (J.stop i H ∧ Q (.ref D) H) ∨
      (J.go i H ∧ ∃ Nx : Hp → Prop, (∀ H', Nx H' → ∃ m', m' < m ∧ W (i + 1) m' H') ∧
        ∀ x H', J.yld i H x H' → g x (wipe σ vs) H' fun σ2 H2 => wipe σ2 vs = wipe σ vs ∧ tt σ2 H2 fun b H3 =>
          if b = true then tk σ2 H3 fun y H4 => tv σ2 H4 fun z H5 =>
            ∃ kvs k c, y = .ref c ∧ H5 c = some (.tup (List.map kV k)) ∧ H5 D = some (.dT kvs) ∧ kvs.length < sizeLine ∧
              Nx (upd H5 D (.dT (putK kvs k z)))
          else Nx H3)

section
variable {X : Cx} {kx vx tg iter : Expr} {ifs : List Expr} {scope : Scope} {own : List (Str × Nat)} {pos : Pos} {wi : TI} {g : TG} {tt : TT} {tk tv : TE}
theorem pe_dcT (hu : X.A.units + 1 < cLine) (calm : X.calm = true) (nd : X.N.Nodup) (hi : PI X tg iter wi) (ok : BlkOk X.N X.env.scope scope own)
    (hg : ∀ (s : Shared) (H : Hp) (C : Addr) (cl : List (Str × Addr)) (fp : List Addr),
      PG (X.blk s H scope (compEnvC scope cl C X.env) fp) tg g)
    (ht : ∀ (s : Shared) (H : Hp) (C : Addr) (cl : List (Str × Addr)) (fp : List Addr),
      PTs (X.blk s H scope (compEnvC scope cl C X.env) fp) ifs tt)
    (hk : ∀ (s : Shared) (H : Hp) (C : Addr) (cl : List (Str × Addr)) (fp : List Addr),
      PE (X.blk s H scope (compEnvC scope cl C X.env) fp) kx tk)
    (he : ∀ (s : Shared) (H : Hp) (C : Addr) (cl : List (Str × Addr)) (fp : List Addr),
      PE (X.blk s H scope (compEnvC scope cl C X.env) fp) vx tv)
    (fold : ∀ x, foldedSetIterable iter X.env x = pure x := by intro _; rfl) :
    PE X (.DictComp kx vx [⟨tg, iter, ifs, 0⟩] scope pos) (tDcT wi g tt tk tv (own.map (·.2))) := by
  constructor
  intro pins s σ H Q I want
  rw [arm_eval_DictComp]
  have cells : ∀ y ∈ scope.names, y.2 = .free → ∃ c, X.env.cells.lookup y.1 = some c := by
    intro y hy e
    exact (ok.free y hy e).elim (fun k => I.ok.has _ (.inl k)) (fun k => I.ok.has _ (.inr k))
  apply wpAny_comprehension_free (use := none) rfl fold (closure_ok cells) ok.kind
  · intro y hy e
    rw [ok.uniq y hy, e]
  apply thn (hi.run pins s σ H _ I want)
  intro xv s1 hx
  apply thn hx
  rintro itv s2 ⟨it, fp, tn, J, H2, rfl, I2, T, st2, f2, q⟩
  refine wpAny_newObj_type (newEnv_comp ?_)
  obtain ⟨D, hD⟩ : ∃ D, D = s2.heap.objs.size := ⟨_, rfl⟩
  rw [← hD]
  have free : H2 D = none := I2.hok.fresh (Nat.le_of_eq hD.symm)
  obtain ⟨W, ⟨m0, w0⟩, turn⟩ := q D free
  obtain ⟨s3, es3⟩ : ∃ s3 : Shared, s3 = { s2 with heap := s2.heap.push { cls := .type "dict", data := .dict #[] } } := ⟨_, rfl⟩
  have I3 : L2.Inv X pins σ (upd H2 D (.dT [])) s3 := by
    rw [es3]
    apply I2.laid (t' := s2.toks) (fun b o e => Heap.get?_push_of_some _ e) (Nat.le_of_eq hD.symm)
    rw [hD]
    exact dt_empty s2.heap I2.big
  have h3 : s3.heap = s2.heap.push { cls := .type "dict", data := .dict #[] } := by rw [es3]
  have low : ∀ b ∈ fp, b < s2.heap.objs.size := by
    intro b hb
    obtain ⟨o, e, _⟩ := T.obj _ _ st2 b hb
    exact Heap.lt_size e
  have f3 : ∀ b ∈ fp, FpOk X pins (upd H2 D (.dT [])) b ∧ b < s3.heap.objs.size := by
    intro b hb
    have lt := low b hb
    have ne : b ≠ D := by rw [hD]; exact Nat.ne_of_lt lt
    refine ⟨⟨(upd_ne ne).trans (f2 b hb).1, (f2 b hb).2⟩, ?_⟩
    rw [h3, Heap.size_push]
    exact Nat.lt_succ_of_lt lt
  have st3 : tn 0 s3.heap := by
    apply T.keep _ _ _ st2
    intro b _ o e
    rw [h3]
    exact Heap.get?_push_of_some _ e
  have I4 := block_start I3 ok nd f3
  have nofp : ∀ b ∈ fp, upd H2 D (.dT []) b = none := fun b hb => (f3 b hb).1.1
  have rules := And.intro (hg s3 (upd H2 D (.dT [])) s3.heap.objs.size (cellsFrom (s3.heap.objs.size + 1) scope.names (cloFrom X.env.cells scope.names [])) fp)
    (And.intro (ht s3 (upd H2 D (.dT [])) s3.heap.objs.size (cellsFrom (s3.heap.objs.size + 1) scope.names (cloFrom X.env.cells scope.names [])) fp)
    (And.intro (hk s3 (upd H2 D (.dT [])) s3.heap.objs.size (cellsFrom (s3.heap.objs.size + 1) scope.names (cloFrom X.env.cells scope.names [])) fp)
      (he s3 (upd H2 D (.dT [])) s3.heap.objs.size (cellsFrom (s3.heap.objs.size + 1) scope.names (cloFrom X.env.cells scope.names [])) fp)))
  rw [← es3]
  show codeAny _ _ (.compStart _ 0 (.ref it) (.ref D) (compEnvC scope (cellsFrom (s3.heap.objs.size + 1) scope.names (cloFrom X.env.cells scope.names [])) s3.heap.objs.size X.env))
    (compPost (model X.prog X.w) X.A X.xe none _ (.ref D) s3.heap.objs.size)
    { s3 with heap := pushCells (s3.heap.push { cls := .type "dict", data := .dict #[] }) scope.names }
  obtain ⟨ce, hce⟩ : ∃ ce, ce = compEnvC scope (cellsFrom (s3.heap.objs.size + 1) scope.names (cloFrom X.env.cells scope.names [])) s3.heap.objs.size X.env := ⟨_, rfl⟩
  have own0 : ce.locals = s3.heap.objs.size := by rw [hce]; rfl
  rw [← hce] at I4 rules ⊢
  obtain ⟨H3, hH3⟩ : ∃ H3, H3 = upd H2 D (.dT []) := ⟨_, rfl⟩
  rw [← hH3] at I3 I4 rules w0 nofp f3
  obtain ⟨s4, hs4⟩ : ∃ s4 : Shared, s4 = { s3 with heap := pushCells (s3.heap.push { cls := .type "dict", data := .dict #[] }) scope.names } := ⟨_, rfl⟩
  rw [← hs4] at I4 ⊢
  have st4 : tn 0 s4.heap := by
    apply T.keep _ _ _ st3
    intro b _ o e
    rw [hs4]
    exact pushCells_keeps _ _ _ _ (Heap.get?_push_of_some _ e)
  have foot : ∀ {σ' : L2.St} {H' : Hp} {s' : Shared}, L2.Inv (X.blk s3 H3 scope ce fp) [] σ' H' s' → (∀ b ∈ fp, H' b = none) →
      ∀ b ∈ fp, FpOk (X.blk s3 H3 scope ce fp) [] H' b := by
    intro σ' H' s' J' hn b hb
    refine ⟨hn b hb, (J'.ok.exf b hb).1, J'.ok.exfs b hb, .inl hb, fun x c e => (J'.ok.exf b hb).2 x c e, ?_⟩
    intro p hp
    exact absurd (show p ∈ ([] : List (Addr × Obj)) ++ [] from hp) (by simp)
  have loop : codeAny (model X.prog X.w) X.A (.compLoop (.DictComp kx vx [⟨tg, iter, ifs, 0⟩] scope pos) 0 (.ref it) (.ref D) ce)
      (compPost (model X.prog X.w) X.A X.xe none (EP X pins σ Q) (.ref D) s3.heap.objs.size) s4 := by
    apply compLoop_anyD (fun n s' => ∃ i H', L2.Inv (X.blk s3 H3 scope ce fp) [] (wipe σ (own.map (·.2))) H' s' ∧
      tn i s'.heap ∧ (∀ b ∈ fp, H' b = none) ∧ W i n H') _ m0 ⟨0, H3, I4, st4, nofp, w0⟩
    rintro n s5 ⟨i, H5, I5, st5, n5, w5⟩
    rcases turn i n H5 w5 with ⟨stop, done⟩ | ⟨go, Nx, hNx, step⟩
    · apply thnF (T.done (X.blk s3 H3 scope ce fp) rfl rfl rfl calm i [] s5 _ H5 (fun _ _ => False) I5 (foot I5 n5) st5 stop)
      rintro r s6 ⟨rfl, I6⟩
      have back : L2.Inv X pins σ H5 s6 := by
        apply I3.call' (ch := fp) I6.os I6.base I6.hok I6.bare
        intro b hb
        have z := (f3 b hb).1.2
        exact ⟨z.2.2.1, z.1, z.2.2.2.1, z.2.2.2.2⟩
      have nC : H5 s3.heap.objs.size = none := own0 ▸ (show H5 ce.locals = none from I6.free)
      obtain ⟨m, hn, _⟩ := I6.loc
      have hn' : s6.heap.Ns s3.heap.objs.size m := own0 ▸ (show s6.heap.Ns ce.locals m from hn)
      obtain ⟨g0, g1, g2, g3, g4, g5⟩ := I3.fpOk (Nat.le_refl _) nC
      refine ⟨m, hn', fun h'' sb => ⟨.ref D, H5, ?_, rfl, done⟩⟩
      exact back.turned (t' := s6.toks) (fun b o hb e => (sb.2 b hb).trans e) g0 g1 g3 g4 g5
    · apply thnF (T.item (X.blk s3 H3 scope ce fp) rfl rfl rfl calm i [] s5 _ H5 (fun _ _ => False) I5 (foot I5 n5) st5 go)
      rintro r s6 ⟨u, rfl, h6⟩
      apply thnF h6
      rintro _ s7 ⟨x, H7, I7, r7, y7, st7, n7⟩
      have P7 := I7.pinned (foot I7 n7) (T.obj _ _ st7)
      apply thnF (rules.1.run _ s7 _ H7 x u _ P7 r7 (step x H7 y7))
      rintro _ s8 ⟨σ8, H8, I8, hw8, q8⟩
      apply thnF (rules.2.1.run _ s8 σ8 H8 _ I8 q8)
      rintro b s9 ⟨H9, I9, q9⟩
      have fin : ∀ {s' : Shared} {H' : Hp}, L2.Inv (X.blk s3 H3 scope ce fp) ([] ++ pinsAt fp s7.heap) σ8 H' s' → Nx H' →
          ∃ m, m < n ∧ ∃ i H', L2.Inv (X.blk s3 H3 scope ce fp) [] (wipe σ (own.map (·.2))) H' s' ∧ tn i s'.heap ∧ (∀ b ∈ fp, H' b = none) ∧ W i m H' := by
        intro s' H' J' nx
        obtain ⟨m', hm, w'⟩ := hNx H' nx
        have pin' : ∀ b ∈ fp, ∀ o, s7.heap.get? b = some o → s'.heap.get? b = some o ∧ H' b = none := by
          intro b hb o e
          have z := J'.pin (b, o) (List.mem_append_right _ (List.mem_append_right _ (mem_pinsAt hb e)))
          exact ⟨z.1, z.2.1⟩
        have hl : (wipe σ (own.map (·.2))).length = σ8.length := by rw [← hw8, wipe_length]
        refine ⟨m', hm, i + 1, H', (J'.unpinned (pins := [])).weak hl ?_, ?_, ?_, w'⟩
        · intro j v e
          rw [← hw8] at e
          exact (wipe_some e).1
        · exact T.keep _ _ _ st7 fun b hb o e => (pin' b hb o e).1
        · intro b hb
          obtain ⟨o, e, _⟩ := T.obj _ _ st7 b hb
          exact (pin' b hb o e).2
      cases b with
      | false =>
        simp only [Bool.false_eq_true, if_false] at q9 ⊢
        exact fin I9 q9
      | true =>
        simp only [if_true] at q9 ⊢
        apply thnF (rules.2.2.1.run _ s9 σ8 H9 _ I9 q9)
        rintro zk s10 ⟨yk, H10, I10, r10, q10⟩
        apply thnF (rules.2.2.2.run _ s10 σ8 H10 _ I10 q10)
        rintro zv s11 ⟨yv, H11, I11, r11, kvs, k, c, rfl, hc11, hD11, hz11, nx⟩
        cases (show zk = Value.ref c from r10)
        exact setT (X := X.blk s3 H3 scope ce fp) hu I11 hD11 hc11 hz11 r11 fun s12 I12 => fin I12 nx
  exact codeAny_compStart_dict loop (T.self X.A 0 _ _ _ st4 loop)
end
end Gk

/-! dict(a list of pairs) whose keys are tuples -/
namespace Gk
open PySem PySem.Spec PyProof.Rows L2
def mergeT (es : List (List Key × Addr × V)) : List (List Key × V) := es.foldl (fun acc e => putK acc e.1 e.2.2) []
/-- a pair of a key and a value -/
def PairT (H : Hp) (p : Addr) (e : List Key × Addr × V) : Prop := H p = some (.tup [.ref e.2.1, e.2.2]) ∧ H e.2.1 = some (.tup (e.1.map kV))
def rDictT : List V → Hp → VK → Prop := fun xs H Q => ∃ (a : Addr) (ps : List Addr) (es : List (List Key × Addr × V)),
  xs = [.ref a] ∧ H a = some (.lst (ps.map V.ref)) ∧ Paired (PairT H) ps es ∧ ∀ q, H q = none → Q (.ref q) (upd H q (.dT (mergeT es)))
section
variable {X : Cx} {pins : List (Addr × Obj)} {σ : L2.St} {H : Hp} {s : Shared}
def RelE (e : List Key × Addr × V) (f : List Key × Addr × Value) : Prop := e.1 = f.1 ∧ e.2.1 = f.2.1 ∧ RelV e.2.2 f.2.2
theorem ents (I : L2.Inv X pins σ H s) : ∀ {ps : List Addr} {es : List (List Key × Addr × V)}, Paired (PairT H) ps es →
    ∃ fs : List (List Key × Addr × Value), Paired RelE es fs ∧ fs.length = ps.length ∧
      ∀ (j : Nat) (q : List Key × Addr × Value), fs[j]? = some q → ∃ b, ps[j]? = some b ∧ s.heap.IsTuple b #[.ref q.2.1, q.2.2]
  | _, _, .nil => ⟨[], .nil, rfl, fun j q e => by simp at e⟩
  | p :: ps, e :: es, .cons h t => by
    obtain ⟨fs, r, hl, hp⟩ := ents I t
    obtain ⟨_, its, rv, ht⟩ := I.hok _ _ h.1
    obtain ⟨u, y, rfl, ru, ry⟩ := vals2 rv
    cases (show u = Value.ref _ from ru)
    refine ⟨(e.1, e.2.1, y) :: fs, .cons ⟨rfl, rfl, ry⟩ r, by rw [List.length_cons, List.length_cons, hl], fun j q eq => ?_⟩
    cases j with
    | zero =>
      cases (Option.some.inj eq)
      obtain ⟨o, h1, h2, n, h3⟩ := ht
      exact ⟨p, rfl, ⟨o, h1, h2, n, h3⟩⟩
    | succ j =>
      obtain ⟨b, e1, e2⟩ := hp j q (by simpa using eq)
      exact ⟨b, by simpa using e1, e2⟩
theorem stored_all {H : Hp} : ∀ {es : List (List Key × Addr × V)} {fs : List (List Key × Addr × Value)} {acc : List (List Key × V)} {bcc : List (List Key × Addr × Value)},
    Paired RelE es fs → (∀ e ∈ es, H e.2.1 = some (.tup (e.1.map kV))) → KT H acc bcc →
    KT H (es.foldl (fun acc e => putK acc e.1 e.2.2) acc) (storedAllH bcc fs)
  | _, _, _, _, .nil, _, k => k
  | e :: es, f :: fs, acc, bcc, .cons h t, hk, k => by
    obtain ⟨h1, h2, h3⟩ := h
    have he := hk e (List.mem_cons_self ..)
    have := stored_all (acc := putK acc e.1 e.2.2) (bcc := storedH bcc f.1 f.2.1 f.2.2) t (fun x hx => hk x (List.mem_cons_of_mem _ hx)) (by
      rw [← h1, ← h2]
      exact k.put e.1 he h3)
    exact this
theorem merge_len : ∀ (es : List (List Key × Addr × V)) (acc : List (List Key × V)), (es.foldl (fun acc e => putK acc e.1 e.2.2) acc).length ≤ acc.length + es.length
  | [], acc => Nat.le_refl _
  | e :: es, acc => by
    have h1 := merge_len es (putK acc e.1 e.2.2)
    have h2 := length_putK acc e.1 e.2.2
    rw [List.length_cons]
    show (es.foldl _ (putK acc e.1 e.2.2)).length ≤ _
    omega
end
theorem keys_in {H : Hp} : ∀ {ps : List Addr} {es : List (List Key × Addr × V)}, Paired (PairT H) ps es → ∀ e ∈ es, H e.2.1 = some (.tup (e.1.map kV))
  | _, _, .nil, e, he => (List.not_mem_nil he).elim
  | _, _, .cons h t, e, he => (List.mem_cons.mp he).elim (fun z => by rw [z]; exact h.2) (keys_in t e)
theorem rel_mem : ∀ {es : List (List Key × Addr × V)} {fs : List (List Key × Addr × Value)}, Paired RelE es fs → ∀ x ∈ fs, ∃ e ∈ es, e.1 = x.1 ∧ e.2.1 = x.2.1
  | _, _, .nil, x, hx => (List.not_mem_nil hx).elim
  | _, _, .cons h t, x, hx => (List.mem_cons.mp hx).elim (fun z => ⟨_, List.mem_cons_self .., by rw [z]; exact ⟨h.1, h.2.1⟩⟩) fun z => by
    obtain ⟨e, he, q⟩ := rel_mem t x z
    exact ⟨e, List.mem_cons_of_mem _ he, q⟩
theorem call_dictT {X : Cx} (calm : X.calm = true) (hu : X.A.units + 5 < cLine) : CallR X (.type "dict") rDictT := by
  intro pins s σ H xs us Q I r q
  obtain ⟨a, ps, es, rfl, ha, hp, q⟩ := q
  obtain ⟨u, rfl, rx⟩ := vals1 r
  cases (show u = Value.ref a from rx)
  obtain ⟨hz, its, n, rv, ho⟩ := I.hok _ _ ha
  have ei := refs_at rv
  subst ei
  obtain ⟨fs, rel, hl, hpr⟩ := ents I hp
  rw [List.length_map] at hz
  have hle := Paired.length hp
  have hkeys := keys_in hp
  have hfs : ∀ x ∈ fs, ∃ e ∈ es, e.1 = x.1 ∧ e.2.1 = x.2.1 := rel_mem rel
  have big := sizeLine_eq
  apply call_dict_pairsH (knd := tupleKind (mixKind X.prog X.w)) (ps := fs)
    (PairArg.list a (ps.map Value.ref).toArray (fun j => ps.getD j 0) (fs.map fun q => (Value.ref q.2.1, q.2.2))) (I.ok.hd calm)
  · show X.A.units + 1 + 1 < cLine
    omega
  · refine ⟨⟨_, n, ho, rfl, rfl, rfl⟩, by simp [hl], ?_⟩
    intro j k v e
    rw [List.getElem?_map] at e
    cases ej : fs[j]? with
    | none => rw [ej] at e; cases e
    | some q =>
      rw [ej] at e
      cases e
      obtain ⟨b, e1, e2⟩ := hpr j q ej
      have eb : ps.getD j 0 = b := by rw [List.getD_eq_getElem?_getD, e1]; rfl
      refine ⟨?_, .inl ?_⟩
      · show (ps.map Value.ref).toArray[j]? = some (Value.ref (ps.getD j 0))
        rw [List.getElem?_toArray, List.getElem?_map, e1, eb]
        rfl
      · show s.heap.IsTuple (ps.getD j 0) _
        rw [eb]
        exact e2
  · refine ⟨by rw [List.length_map], ?_⟩
    intro i key v e
    have e' : (fs.map fun q => (Value.ref q.2.1, q.2.2))[i]? = some (key, v) := e
    rw [List.getElem?_map] at e'
    cases ej : fs[i]? with
    | none => rw [ej] at e'; cases e'
    | some q =>
      rw [ej] at e'
      cases e'
      exact ⟨q.1, q.2.1, rfl, rfl⟩
  · intro h' kept x hx
    obtain ⟨e, he, e1, e2⟩ := hfs x hx
    have hk := key_of I.hok (hkeys e he)
    rw [e1, e2] at hk
    obtain ⟨o, items, m, g1, g2, g3, g4⟩ := hk
    exact ⟨o, items, m, kept _ _ (Nat.ne_of_lt (Heap.lt_size g1)) List.not_mem_nil g1, g2, g3, g4⟩
  · rw [List.length_map, hl]
    exact hz
  · intro h' tk hd' kept
    obtain ⟨o, en, ep, g1, g2, g3, g4, _, g6⟩ := hd'
    have new : ∀ H', (∀ b ys, H b = some (.tup ys) → H' b = some (.tup ys)) → ObjOk X.prog X.w H' h' s.heap.objs.size (.dT (mergeT es)) := fun H' ht => by
      refine ⟨?_, beq_eq_false_iff_ne.mpr (Nat.ne_of_gt I.big), _, KT.keeps (stored_all rel hkeys .nil) ht, o, en, ep, g1, g2, g3, g4, g6⟩
      have := merge_len es []
      show (es.foldl _ []).length ≤ _
      rw [List.length_nil] at this
      omega
    have hn := I.hok.fresh (Nat.le_refl s.heap.objs.size)
    refine ⟨.ref s.heap.objs.size, upd H s.heap.objs.size (.dT (mergeT es)), I.laid (t' := tk) (fun b u e => kept b u List.not_mem_nil e) (Nat.le_refl _) (new _ ?_), rfl, q _ hn⟩
    intro b ys e
    rw [upd_ne (ne_of_none e hn)]
    exact e
end Gk

/-! list(text); a dict beside the empty one -/
namespace Gk
open PySem PySem.Spec PyProof.Rows L2
theorem vals_of : ∀ {xs : List V} {us : List Value}, xs.length = us.length → (∀ (j : Nat) (x : V) (u : Value), xs[j]? = some x → us[j]? = some u → RelV x u) → Vals xs us
  | [], [], _, _ => .nil
  | [], _ :: _, e, _ => by simp at e
  | _ :: _, [], e, _ => by simp at e
  | x :: xs, u :: us, e, h => .cons (h 0 x u rfl rfl) (vals_of (by simpa using e) fun j y v h1 h2 => h (j + 1) y v (by simpa using h1) (by simpa using h2))
section
variable {X : Cx}
def signsV (z : Str) : List V := z.cps.toList.map fun c => V.str ⟨#[c]⟩
theorem call_listS (calm : X.calm = true) : CallR X (.type "list") (fun xs H Q => ∃ z : Str, xs = [.str z] ∧ z.length ≤ 100000 ∧ ∀ l, H l = none → Q (.ref l) (upd H l (.lst (signsV z)))) := by
  intro pins s σ H xs us Q I r q
  obtain ⟨z, rfl, hz, q⟩ := q
  obtain ⟨u, rfl, t, rfl⟩ := vals1 r
  have hs : z.cps.size ≤ sizeLine := by
    have h : z.cps.size ≤ 100000 := hz
    rw [sizeLine_eq]
    omega
  apply call_list_str (I.ok.hd calm) z t (hn := hs)
  intro h' tk acc c' hk hS hacc
  have hn := I.hok.fresh (Nat.le_refl s.heap.objs.size)
  refine ⟨.ref s.heap.objs.size, upd H s.heap.objs.size (.lst (signsV z)), I.laid (t' := tk) hk (Nat.le_refl _) ?_, rfl, q _ hn⟩
  refine ⟨?_, acc.toList, c', vals_of ?_ ?_, by simpa using hS⟩
  · show (z.cps.toList.map _).length ≤ _
    rw [List.length_map, Array.length_toList]
    exact hs
  · show (z.cps.toList.map _).length = _
    rw [List.length_map, Array.length_toList, Array.length_toList, hacc.1]
  · intro j x u hx hu
    obtain ⟨c, t', hc, rfl⟩ := hacc.2 j u (by simpa using hu)
    have hx' : (z.cps.toList.map fun c => V.str ⟨#[c]⟩)[j]? = some x := hx
    rw [List.getElem?_map, Array.getElem?_toList, hc] at hx'
    cases hx'
    exact ⟨t', rfl⟩
/-- d != {} -/
theorem op_neEmpty (hu : X.A.units + 1 < cLine) : OpR X (compareOp .NotEq) (fun x y H Q => ∃ a b kvs, x = .ref a ∧ y = .ref b ∧ H a = some (.dK kvs) ∧ H b = some (.dK []) ∧ Q (.bl (decide (kvs.length ≠ 0))) H) := by
  intro pins s σ H x y v u Q I rx ry h
  obtain ⟨a, b, kvs, rfl, rfl, ha, hb, q⟩ := h
  cases (show v = Value.ref a from rx)
  cases (show u = Value.ref b from ry)
  obtain ⟨_, ya, va, ra, da⟩ := dk_of I.hok ha
  obtain ⟨_, yb, vb, rb, db⟩ := dk_of I.hok hb
  have hl : va.length = kvs.length := ra.length.symm
  have hl0 : vb.length = 0 := rb.length.symm
  refine PySem.W.keq_ne (knd := mixKind X.prog X.w) (r := true) ya yb da db (by omega) (fun e => ?_) ⟨.bl _, H, I, ?_, q⟩
  · have : va = [] := List.length_eq_zero_iff.mp (by omega)
    subst this
    exact .nil
  · show Value.bool _ = Value.bool _
    rw [hl, hl0]
    by_cases z : kvs.length = 0
    · simp [z]
    · simp [z]
end
end Gk

/-! the same rules, of what is tracked: for use within comprehensions -/
namespace Gk
open PySem PySem.Spec PyProof.Rows L2
section
variable {X : Cx}
theorem ix_tupH : IxR X (fun x y H Q => ∃ p xs i v, x = .ref p ∧ y = .int i ∧ H p = some (.tup xs) ∧ atI xs i = some v ∧ Q v H) := by
  intro value slice pins s σ H x y v u Q I rx ry h hs
  obtain ⟨p, xs, i, z, e1, e2, hp, ha, q⟩ := h
  exact ix_tup value slice pins s σ H x y v u Q I rx ry ⟨p, xs, i, z, e1, e2, .inl (.inl hp), ha, q⟩ hs
theorem ix_lstH : IxR X (fun x y H Q => ∃ p xs i v, x = .ref p ∧ y = .int i ∧ H p = some (.lst xs) ∧ atI xs i = some v ∧ Q v H) := by
  intro value slice pins s σ H x y v u Q I rx ry h hs
  obtain ⟨p, xs, i, z, e1, e2, hp, ha, q⟩ := h
  exact ix_list value slice pins s σ H x y v u Q I rx ry ⟨p, xs, i, z, e1, e2, .inl (.inl hp), ha, q⟩ hs
def HasSeq (H : Hp) (p : Addr) (xs : List V) : Prop := H p = some (.lst xs) ∨ H p = some (.tup xs)
theorem HasSeq.sq {K : PySem.W.Frag} {H : Hp} {p : Addr} {xs : List V} (h : HasSeq H p xs) : SqL K H p xs ∨ SqT K H p xs :=
  h.elim (fun z => .inl (.inl (.inl z))) fun z => .inr (.inl (.inl z))
theorem list_ofH : CallR X (.type "list") (fun xs H Q => ∃ p ys, xs = [.ref p] ∧ HasSeq H p ys ∧ ∀ l, H l = none → Q (.ref l) (upd H l (.lst ys))) := by
  intro pins s σ H xs us Q I r h
  obtain ⟨p, ys, e, hp, q⟩ := h
  exact call_list_of pins s σ H xs us Q I r ⟨p, ys, e, hp.sq, q⟩
theorem len_H : CallR X (.builtin "len") (fun xs H Q => ∃ p ys, xs = [.ref p] ∧ HasSeq H p ys ∧ Q (.int ys.length) H) := by
  intro pins s σ H xs us Q I r h
  obtain ⟨p, ys, e, hp, q⟩ := h
  exact call_len_seq pins s σ H xs us Q I r ⟨p, ys, e, hp.sq, q⟩
theorem in_H : OpR X (compareOp .In) (fun x y H Q => ∃ p xs, y = .ref p ∧ HasSeq H p xs ∧ flatV x = true ∧ xs.all flatV = true ∧ Q (.bl (inV x xs)) H) := by
  intro pins s σ H x y v u Q I rx ry h
  obtain ⟨p, xs, e, hp, f1, f2, q⟩ := h
  exact op_in_seq pins s σ H x y v u Q I rx ry ⟨p, xs, e, hp.sq, f1, f2, q⟩
end
end Gk

namespace Gk
open PySem PySem.Spec PyProof.Rows L2
theorem hu5_of {k : Nat} {A : Around} (h : Room k A) : A.units + 5 < cLine := by
  have := h.un
  omega
/-- called without what has a default -/
def ClD (P : Program) (w : World) (K : PySem.W.Frag) (mg : Str → Option Value) (base : Heap) (k : Nat) (x : Str) (ps : List Str) (sp : Sp) (dvs : List V) : Prop :=
  ∃ f fd ds, FnOk P w K mg base CX0 k f fd ps sp ∧ mg x = some (.ref f) ∧ PySem.W.keepIn K (.ref f) = true ∧ Vals dvs ds ∧ Binds K fd ps ds
section
variable {X : Cx} {k j n : Nat} {x : Str} {ps ks : List Str} {sp : Sp} {p pos : Pos} {e : Expr} {es : List Expr} {t tk : TA} {kws : List Keyword} {gV : List V → List V → List V} {dvs : List V}
theorem pe_clD (c : ClD X.prog X.w X.K X.mg X.base k x ps sp dvs) (hr : Room j X.A) (hk : k ≤ j) (hg : Gl X x) (ha : PA X (e :: es) t)
    (hdb : (x == ("__debug__" : Str)) = false := by decide)
    (he : starEach (e :: es) X.env = (false, eval e X.env) :: starEach es X.env := by rfl)
    (hpl : (backTo pos (starEach es X.env)).any (·.1) = false := by rfl) :
    PE X (.Call (.Name x p) (e :: es) [] pos) (tCall sp dvs E0 t) :=
  let ⟨_, _, _, F, hm, kp, r, b⟩ := c
  pe_call F (hr.mono hk) hg hm kp b r pass0 ha hdb he hpl
theorem pe_clKN (c : ClK X.prog X.w X.K X.mg X.base k x ps sp n ks gV) (hr : Room j X.A) (hk : k ≤ j) (hg : Gl X x) (ha : PA X (e :: es) t) (hkw : PK X kws tk)
    (hall : (backToKw pos (keywordEach kws X.env)).all (·.1.isSome) = true := by rfl)
    (hks : (backToKw pos (keywordEach kws X.env)).filterMap (·.1) = ks := by rfl)
    (hdb : (x == ("__debug__" : Str)) = false := by decide)
    (he : starEach (e :: es) X.env = (false, eval e X.env) :: starEach es X.env := by rfl)
    (hpl : ((backTo pos (starEach (e :: es) X.env)).any (·.1) || (backToKw pos (keywordEach kws X.env)).any (·.1.isNone)) = false := by rfl) :
    PE X (.Call (.Name x p) (e :: es) kws pos) (tCallN n ks.length sp gV E0 t tk) :=
  let ⟨_, _, _, F, hm, kp, b⟩ := c
  pe_callN F (hr.mono hk) hg hm kp b pass0 ha hkw hall hks hdb he hpl
end
end Gk

/-! tuple * int, from 0 on -/
namespace Gk
open PySem PySem.Spec PyProof.Rows L2
theorem mulT_same (l : Addr) (items : Array Value) (n : Nat) (dd : Option Addr) (sl : Array (Option Value)) (x : Int) (u : Tok) (c0 : (decide (x < -(2 ^ 63)) || decide (x ≥ 2 ^ 63)) = false) (c1 : (items.isEmpty || x == 1) = true) :
    Meets (Builtin.«tuple.__mul__» ⟨[.ref l, .int x u], []⟩) (fun _ R s => s.heap.get? l = some { cls := .type "tuple", dict := dd, data := .seq items n, slots := sl } ∧
      R (.ok (.ret (Value.ref l))) s) :=
  .of_wp fun prog w A R s h => by
    obtain ⟨hp, g, d, tk, os⟩ := s
    obtain ⟨hl, h⟩ := h
    have f1 := AutoSeq1.idx_int
    wp_walk using wpAny_loadPart' hl
    repeat (first
      | (refine wpAny_ite_false (decide_eq_false (by rw [c0]; exact Bool.false_ne_true)) ?_; wp_walk using wpAny_loadPart' hl)
      | (refine wpAny_ite_true (decide_eq_true (by rw [c1])) ?_; wp_walk using wpAny_loadPart' hl))
    exact ⟨_, rfl, h⟩
theorem mulT_zero (l : Addr) (items : Array Value) (n : Nat) (dd : Option Addr) (sl : Array (Option Value)) (x : Int) (u : Tok) (c0 : (decide (x < -(2 ^ 63)) || decide (x ≥ 2 ^ 63)) = false) (c1 : (items.isEmpty || x == 1) = false) (c2 : (decide (x ≤ 0) || items.isEmpty) = true) :
    Meets (Builtin.«tuple.__mul__» ⟨[.ref l, .int x u], []⟩) (fun _ R s => s.heap.get? l = some { cls := .type "tuple", dict := dd, data := .seq items n, slots := sl } ∧
      R (.ok (.ret (Value.ref s.heap.objs.size))) { s with heap := s.heap.push { cls := Value.type "tuple", data := Data.seq #[] }, toks := s.toks }) :=
  .of_wp fun prog w A R s h => by
    obtain ⟨hp, g, d, tk, os⟩ := s
    obtain ⟨hl, h⟩ := h
    have f1 := AutoSeq1.idx_int
    wp_walk using wpAny_loadPart' hl
    repeat (first
      | (refine wpAny_ite_false (decide_eq_false (by rw [c0]; exact Bool.false_ne_true)) ?_; wp_walk using wpAny_loadPart' hl)
      | (refine wpAny_ite_false (decide_eq_false (by rw [c1]; exact Bool.false_ne_true)) ?_; wp_walk using wpAny_loadPart' hl)
      | (refine wpAny_ite_true (decide_eq_true (by rw [c2])) ?_; wp_walk using wpAny_loadPart' hl))
    exact ⟨_, rfl, h⟩
section
variable {X : Cx}
theorem op_mulT : OpR X (binaryOp .Mult) (fun x y H Q => ∃ (l : Addr) (k : Nat) (xs : List V), x = .ref l ∧ y = .int (k : Int) ∧ H l = some (.tup xs) ∧ k ≤ 1000 ∧ xs.length ≤ 1000 ∧
    ∀ u H', Same H H' → H' u = some (.tup (List.replicate k xs).flatten) → Q (.ref u) H') := by
  intro pins s σ H x y v u Q I rx ry h
  obtain ⟨l, k, xs, rfl, rfl, hT, hk, hz, q⟩ := h
  by_cases big : xs ≠ [] ∧ 2 ≤ k
  · exact op_repT pins s σ H _ _ v u Q I rx ry ⟨l, k, xs, rfl, rfl, .inl (.inl hT), big.1, by omega, by omega, hz, fun p hp => q p _ (fun b o e => by
      rw [upd_ne (fun z => by rw [z, hp] at e; cases e)]
      exact e) (by rw [upd_same]; rfl)⟩
  · cases rx
    obtain ⟨t, rfl⟩ := ry
    obtain ⟨its, r, ⟨⟨cls, dd, data, sl⟩, ho, hc, n, hd⟩, hs⟩ := I.tuple (.inl (.inl hT))
    simp only at hc hd
    subst hc hd
    have hle : its.length = xs.length := r.length.symm
    have c0 : (decide ((k : Int) < -(2 ^ 63)) || decide ((k : Int) ≥ 2 ^ 63)) = false := by
      rw [decide_eq_false (by omega), decide_eq_false (by omega)] <;> rfl
    by_cases c1 : (its.toArray.isEmpty || (k : Int) == 1) = true
    · refine wpAny_binaryOp_repeat_ref (T := "tuple") (U := "int") (by decide) ⟨_, ho, rfl⟩ (fun s' => typeIs_int s' k t) noFill_tuple_mul F.fills_int_mul F.slot_int_rmul repeat_tuple F.slot_int_index.lookup
        (call_meets F.slot_int_rmul (typeIs_int s k t) F.entry_int_rmul (F.args_int_rmul_2 _ _) (int_rmul_tuple k t l its.toArray n dd sl)
          ⟨ho, rfl, ⟨_, ho, rfl⟩, call_meets F.slot_tuple_mul ⟨_, ho, rfl⟩ F.entry_tuple_mul (F.args_tuple_mul_2 _ _) (mulT_same l its.toArray n dd sl k t c0 c1) ⟨ho, ?_⟩⟩)
      refine ⟨.ref l, H, I, rfl, q l H (fun _ _ e => e) ?_⟩
      rw [hT]
      congr 2
      rw [Bool.or_eq_true, beq_iff_eq] at c1
      rcases c1 with z | z
      · have : xs = [] := List.eq_nil_of_length_eq_zero (by
          rw [← hle]
          simpa using z)
        rw [this]
        simp
      · have : k = 1 := by omega
        rw [this]
        simp
    · have c1' := Bool.eq_false_iff.mpr c1
      have hk0 : k = 0 := by
        rw [Bool.or_eq_false_iff] at c1'
        have ne : xs ≠ [] := fun z => by
          rw [z] at hle
          have : its = [] := List.eq_nil_of_length_eq_zero hle
          rw [this] at c1'
          exact absurd c1'.1 (by decide)
        have k1 : (k : Int) ≠ 1 := beq_eq_false_iff_ne.mp c1'.2
        have : ¬ 2 ≤ k := fun z => big ⟨ne, z⟩
        omega
      subst hk0
      refine wpAny_binaryOp_repeat_ref (T := "tuple") (U := "int") (by decide) ⟨_, ho, rfl⟩ (fun s' => typeIs_int s' _ t) noFill_tuple_mul F.fills_int_mul F.slot_int_rmul repeat_tuple F.slot_int_index.lookup
        (call_meets F.slot_int_rmul (typeIs_int s _ t) F.entry_int_rmul (F.args_int_rmul_2 _ _) (int_rmul_tuple _ t l its.toArray n dd sl)
          ⟨ho, rfl, ⟨_, ho, rfl⟩, call_meets F.slot_tuple_mul ⟨_, ho, rfl⟩ F.entry_tuple_mul (F.args_tuple_mul_2 _ _) (mulT_zero l its.toArray n dd sl _ t c0 c1' (by rw [decide_eq_true (by decide), Bool.true_or])) ⟨ho, ?_⟩⟩)
      refine ⟨.ref s.heap.objs.size, _, I.laid (t' := s.toks) (o := .tup []) (fun b ob q => Heap.get?_push_of_some _ q) (Nat.le_refl _) ?_, rfl, q _ _ (same_new (I.hok.fresh (Nat.le_refl _))) upd_same⟩
      exact ⟨Nat.zero_le _, _, .nil, IsTup.new _ _⟩
end
end Gk

/-! code that is never reached needs no rule -/
namespace Gk
open PySem PySem.Spec PyProof.Rows L2
theorem ps_dead {X : Cx} {st : Stmt} : PS X st (fun _ _ _ => False) := ⟨fun _ _ _ _ _ _ h => h.elim⟩
theorem pss_dead {X : Cx} {ss : List Stmt} : PSs X ss (fun _ _ _ => False) := ⟨fun _ _ _ _ _ _ h => h.elim⟩
theorem pe_dead {X : Cx} {e : Expr} : PE X e (fun _ _ _ => False) := ⟨fun _ _ _ _ _ _ h => h.elim⟩
end Gk

/-! a layer of values: what a def does, as a function of data, without the heap -/
namespace Vm
open PySem PySem.Spec PyProof.Rows L2 Gk

abbrev LIM : Nat := 1000000
abbrev SLIM : Nat := 16000000
/-- data; a dict's keys are ints and texts, or tuples of these -/
inductive Da where
  | none
  | bool (b : Bool)
  | int (i : Int)
  | str (s : Str)
  | list (xs : List Da)
  | tuple (xs : List Da)
  | dk (kvs : List (Key × Da))
  | dt (kvs : List (List Key × Da))
/-- a list of the module's own top -/
def KL (K : PySem.W.Frag) (a : Addr) (xs : List V) : Prop :=
  ∃ (o : Obj) (its : Array Value) (n : Nat), K.lookup a = some o ∧ o.cls = .type "list" ∧ o.dict = none ∧ o.data = .seq its n ∧ its.size ≤ sizeLine ∧ Vals xs its.toList
def KeyOk : Key → Prop
  | .inl _ => True
  | .inr s => s.length ≤ SLIM
mutual
inductive Dz (K : PySem.W.Frag) (p : List Addr) (H : Hp) : V → Da → Prop
  | non : Dz K p H .non .none
  | bl (b : Bool) : Dz K p H (.bl b) (.bool b)
  | int (i : Int) : Dz K p H (.int i) (.int i)
  | str (x : Str) : x.length ≤ SLIM → Dz K p H (.str x) (.str x)
  | lst {a : Addr} {xs : List V} {ds : List Da} : a ∉ p → H a = some (.lst xs) → xs.length ≤ LIM → DzA K p H xs ds → Dz K p H (.ref a) (.list ds)
  | tup {a : Addr} {xs : List V} {ds : List Da} : H a = some (.tup xs) → xs.length ≤ LIM → DzA K p H xs ds → Dz K p H (.ref a) (.tuple ds)
  | dk {a : Addr} {xs : List (Key × V)} {ds : List (Key × Da)} : a ∉ p → Rd H a (.dK xs) → xs.length ≤ LIM → DzK K p H xs ds → Dz K p H (.ref a) (.dk ds)
  | dt {a : Addr} {xs : List (List Key × V)} {ds : List (List Key × Da)} : a ∉ p → Rd H a (.dT xs) → xs.length ≤ LIM → DzT K p H xs ds → Dz K p H (.ref a) (.dt ds)
inductive DzA (K : PySem.W.Frag) (p : List Addr) (H : Hp) : List V → List Da → Prop
  | nil : DzA K p H [] []
  | cons {v : V} {vs : List V} {d : Da} {ds : List Da} : Dz K p H v d → DzA K p H vs ds → DzA K p H (v :: vs) (d :: ds)
inductive DzK (K : PySem.W.Frag) (p : List Addr) (H : Hp) : List (Key × V) → List (Key × Da) → Prop
  | nil : DzK K p H [] []
  | cons {k : Key} {v : V} {r : List (Key × V)} {d : Da} {s : List (Key × Da)} : KeyOk k → Dz K p H v d → DzK K p H r s → DzK K p H ((k, v) :: r) ((k, d) :: s)
inductive DzT (K : PySem.W.Frag) (p : List Addr) (H : Hp) : List (List Key × V) → List (List Key × Da) → Prop
  | nil : DzT K p H [] []
  | cons {k : List Key} {v : V} {r : List (List Key × V)} {d : Da} {s : List (List Key × Da)} : (∀ x ∈ k, KeyOk x) ∧ k.length ≤ LIM → Dz K p H v d → DzT K p H r s → DzT K p H ((k, v) :: r) ((k, d) :: s)
end
structure Tr (p : List Addr) (H : Hp) (p' : List Addr) (H' : Hp) : Prop where
  mt : ∀ a u, a ∉ p → Rd H a u → Rd H' a u ∧ a ∉ p'
  ls : ∀ a xs, a ∉ p → H a = some (.lst xs) → H' a = some (.lst xs)
  tp : ∀ a xs, H a = some (.tup xs) → H' a = some (.tup xs)
  fz : ∀ a o u, a ∉ p → H a = some (.frz o u) → H' a = some (.frz o u)
section
variable {K : PySem.W.Frag} {p p' : List Addr} {H H' : Hp}
mutual
theorem Dz.tr (t : Tr p H p' H') : ∀ {v : V} {d : Da}, Dz K p H v d → Dz K p' H' v d
  | _, _, .non => .non
  | _, _, .bl b => .bl b
  | _, _, .int i => .int i
  | _, _, .str x h => .str x h
  | _, _, .lst n r l h => .lst (t.mt _ _ n (.inl r)).2 (t.ls _ _ n r) l (DzA.tr t h)
  | _, _, .tup r l h => .tup (t.tp _ _ r) l (DzA.tr t h)
  | _, _, .dk n r l h => .dk (t.mt _ _ n r).2 (t.mt _ _ n r).1 l (DzK.tr t h)
  | _, _, .dt n r l h => .dt (t.mt _ _ n r).2 (t.mt _ _ n r).1 l (DzT.tr t h)
theorem DzA.tr (t : Tr p H p' H') : ∀ {v : List V} {d : List Da}, DzA K p H v d → DzA K p' H' v d
  | _, _, .nil => .nil
  | _, _, .cons h r => .cons (Dz.tr t h) (DzA.tr t r)
theorem DzK.tr (t : Tr p H p' H') : ∀ {v : List (Key × V)} {d : List (Key × Da)}, DzK K p H v d → DzK K p' H' v d
  | _, _, .nil => .nil
  | _, _, .cons k h r => .cons k (Dz.tr t h) (DzK.tr t r)
theorem DzT.tr (t : Tr p H p' H') : ∀ {v : List (List Key × V)} {d : List (List Key × Da)}, DzT K p H v d → DzT K p' H' v d
  | _, _, .nil => .nil
  | _, _, .cons k h r => .cons k (Dz.tr t h) (DzT.tr t r)
end
theorem DzA.length : ∀ {v : List V} {d : List Da}, DzA K p H v d → v.length = d.length
  | _, _, .nil => rfl
  | _, _, .cons _ r => congrArg (· + 1) (DzA.length r)
theorem DzK.length : ∀ {v : List (Key × V)} {d : List (Key × Da)}, DzK K p H v d → v.length = d.length
  | _, _, .nil => rfl
  | _, _, .cons _ _ r => congrArg (· + 1) (DzK.length r)
theorem DzT.length : ∀ {v : List (List Key × V)} {d : List (List Key × Da)}, DzT K p H v d → v.length = d.length
  | _, _, .nil => rfl
  | _, _, .cons _ _ r => congrArg (· + 1) (DzT.length r)
theorem DzA.append : ∀ {v w : List V} {d e : List Da}, DzA K p H v d → DzA K p H w e → DzA K p H (v ++ w) (d ++ e)
  | _, _, _, _, .nil, s => s
  | _, _, _, _, .cons h r, s => .cons h (DzA.append r s)
theorem DzA.take : ∀ {v : List V} {d : List Da} (n : Nat), DzA K p H v d → DzA K p H (v.take n) (d.take n)
  | _, _, 0, _ => .nil
  | _, _, _ + 1, .nil => .nil
  | _, _, n + 1, .cons h r => .cons h (DzA.take n r)
theorem DzA.drop : ∀ {v : List V} {d : List Da} (n : Nat), DzA K p H v d → DzA K p H (v.drop n) (d.drop n)
  | _, _, 0, r => r
  | _, _, _ + 1, .nil => .nil
  | _, _, n + 1, .cons _ r => DzA.drop n r
theorem DzA.get : ∀ {v : List V} {d : List Da} {i : Nat} {x : Da}, DzA K p H v d → d[i]? = some x → ∃ y, v[i]? = some y ∧ Dz K p H y x
  | _, _, _, _, .nil, e => by simp at e
  | _, _, 0, _, .cons h _, e => by simp at e; subst e; exact ⟨_, rfl, h⟩
  | _, _, i + 1, x, .cons _ r, e => by
    obtain ⟨y, h1, h2⟩ := DzA.get (i := i) (x := x) r (by simpa using e)
    exact ⟨y, by simpa using h1, h2⟩
theorem DzA.getV : ∀ {v : List V} {d : List Da} {i : Nat} {y : V}, DzA K p H v d → v[i]? = some y → ∃ x, d[i]? = some x ∧ Dz K p H y x
  | _, _, _, _, .nil, e => by simp at e
  | _, _, 0, _, .cons h _, e => by simp at e; subst e; exact ⟨_, rfl, h⟩
  | _, _, i + 1, x, .cons _ r, e => by
    obtain ⟨y, h1, h2⟩ := DzA.getV (i := i) (y := x) r (by simpa using e)
    exact ⟨y, by simpa using h1, h2⟩
theorem DzA.set : ∀ {v : List V} {d : List Da} (i : Nat) {y : V} {x : Da}, DzA K p H v d → Dz K p H y x → DzA K p H (v.set i y) (d.set i x)
  | _, _, _, _, _, .nil, _ => .nil
  | _, _, 0, _, _, .cons _ r, h => .cons h r
  | _, _, i + 1, _, _, .cons h r, q => .cons h (DzA.set i r q)
theorem DzA.reverse {v : List V} {d : List Da} (h : DzA K p H v d) : DzA K p H v.reverse d.reverse := by
  induction v generalizing d with
  | nil => cases h; exact .nil
  | cons a r ih =>
    cases h with
    | cons h1 h2 =>
      rw [List.reverse_cons, List.reverse_cons]
      exact (ih h2).append (.cons h1 .nil)
end

end Vm

namespace Vm
open PySem PySem.Spec PyProof.Rows L2 Gk
/-! ### slots: data, own things (roots), nested own things -/
/-- what stands at a, exactly, or seen through a lock -/
def Ho (lk : Bool) (H : Hp) (a : Addr) (u : HO) : Prop := if lk = true then Rd H a u else H a = some u
/-- an own list or dict whose parts are data -/
def Top (K : PySem.W.Frag) (p : List Addr) (H : Hp) (lk : Bool) (a : Addr) : Da → Prop
  | .list xs => ∃ vs, H a = some (.lst vs) ∧ vs.length ≤ LIM ∧ DzA K p H vs xs
  | .dk kvs => ∃ xs, Ho lk H a (.dK xs) ∧ xs.length ≤ LIM ∧ DzK K p H xs kvs
  | .dt kvs => ∃ xs, Ho lk H a (.dT xs) ∧ xs.length ≤ LIM ∧ DzT K p H xs kvs
  | _ => False
inductive KidsK (K : PySem.W.Frag) (p : List Addr) (H : Hp) : List (Key × V) → List (Key × Da) → List Addr → Prop
  | nil : KidsK K p H [] [] []
  | cons {k : Key} {c : Addr} {r : List (Key × V)} {x : Da} {s : List (Key × Da)} {as : List Addr} : KeyOk k → Top K p H false c x → KidsK K p H r s as → KidsK K p H ((k, .ref c) :: r) ((k, x) :: s) (c :: as)
inductive KidsT (K : PySem.W.Frag) (p : List Addr) (H : Hp) : List (List Key × V) → List (List Key × Da) → List Addr → Prop
  | nil : KidsT K p H [] [] []
  | cons {k : List Key} {c : Addr} {r : List (List Key × V)} {x : Da} {s : List (List Key × Da)} {as : List Addr} : (∀ x ∈ k, KeyOk x) ∧ k.length ≤ LIM → Top K p H false c x → KidsT K p H r s as → KidsT K p H ((k, .ref c) :: r) ((k, x) :: s) (c :: as)
/-- an own dict whose values are own things -/
def Nest (K : PySem.W.Frag) (p : List Addr) (H : Hp) (lk : Bool) (a : Addr) (as : List Addr) : Da → Prop
  | .dk kvs => ∃ xs, Ho lk H a (.dK xs) ∧ xs.length ≤ LIM ∧ KidsK K p H xs kvs as
  | .dt kvs => ∃ xs, Ho lk H a (.dT xs) ∧ xs.length ≤ LIM ∧ KidsT K p H xs kvs as
  | _ => False
/-- a slot: unset, data, an own thing (fx: the name stays with it; lk: it is not changed), a nested one, the script -/
inductive AV where
  | un
  | d (x : Da)
  | r (fx lk : Bool) (x : Da)
  | n (fx lk : Bool) (x : Da)
  | sc (ns : List Int)
abbrev AS := List AV
def AV.isRoot : AV → Bool
  | .r _ _ _ => true
  | .n _ _ _ => true
  | _ => false
def AV.isFix : AV → Bool
  | .r f _ _ => f
  | .n f _ _ => f
  | _ => false
def AV.isLk : AV → Bool
  | .r _ l _ => l
  | .n _ l _ => l
  | _ => false
/-- what a slot shows -/
def AV.see : AV → Option Da
  | .d x => some x
  | .r _ _ x => some x
  | _ => none
/-- what a slot holds for good -/
def AV.get : AV → Option Da
  | .d x => some x
  | _ => none
def SlotR (K : PySem.W.Frag) (p : List Addr) (H : Hp) (o : Option V) (f : List Addr) : AV → Prop
  | .un => f = []
  | .d x => f = [] ∧ ∃ v, o = some v ∧ Dz K p H v x
  | .r _ lk x => ∃ a, o = some (.ref a) ∧ f = [a] ∧ Top K p H lk a x
  | .n _ lk x => ∃ a as, o = some (.ref a) ∧ f = a :: as ∧ Nest K p H lk a as x
  | .sc ns => f = [] ∧ ∃ a, o = some (.ref a) ∧ ((a ∉ p ∧ Rd H a (.lst (ns.map V.int))) ∨ KL K a (ns.map V.int))
abbrev FT := Nat → List Addr
structure Rel (K : PySem.W.Frag) (p : List Addr) (H : Hp) (σ : L2.St) (α : AS) (A : FT) : Prop where
  len : σ.length = α.length
  sl : ∀ (i : Nat) (r : AV), α[i]? = some r → SlotR K p H (σ[i]?).join (A i) r
  out : ∀ i : Nat, α[i]? = none → A i = []
  nd : ∀ i, (A i).Nodup
  dj : ∀ i j a, a ∈ A i → a ∈ A j → i = j
  inp : ∀ i a, a ∈ A i → a ∈ p
  al : ∀ a ∈ p, H a ≠ none
def HO.isDict : HO → Bool
  | .dK _ => true
  | .dT _ => true
  | _ => false
/-- what was there is there; a dict of data may have been locked for good -/
def Kept (p : List Addr) (b : Addr) (o : HO) (H' : Hp) : Prop := H' b = some o ∨ (b ∉ p ∧ HO.isDict o = true ∧ ∃ od, H' b = some (.frz od o))
/-- a slot that stays: its flags; a locked one is as it was -/
structure Kin (r r' : AV) : Prop where
  fx : r'.isFix = r.isFix
  lk : r'.isLk = r.isLk
  rt : r'.isRoot = r.isRoot
  eq : r.isLk = true → r' = r
theorem Kin.refl {r : AV} : Kin r r := ⟨rfl, rfl, rfl, fun _ => rfl⟩
theorem Kin.trans {r s t : AV} (a : Kin r s) (b : Kin s t) : Kin r t := ⟨b.fx.trans a.fx, b.lk.trans a.lk, b.rt.trans a.rt, fun h => (b.eq (a.lk.trans h)).trans (a.eq h)⟩
structure Step (p : List Addr) (H : Hp) (σ : L2.St) (α : AS) (A : FT) (p' : List Addr) (H' : Hp) (σ' : L2.St) (α' : AS) (A' : FT) : Prop where
  keep : ∀ b o, H b = some o → (∀ i, b ∉ A i) → Kept p b o H'
  dom : ∀ b, H' b = none → H b = none
  new : ∀ i b, b ∈ A' i → b ∈ A i ∨ H b = none
  sub : ∀ b ∈ p', b ∈ p ∨ H b = none
  mono : ∀ b ∈ p, b ∈ p' ∨ ∃ i, b ∈ A i
  ln : α'.length = α.length
  fix : ∀ (i : Nat) (r : AV), α[i]? = some r → r.isFix = true → σ'[i]? = σ[i]? ∧ ∃ r', α'[i]? = some r' ∧ Kin r r'
  nof : ∀ (i : Nat) (r : AV), α'[i]? = some r → r.isFix = true → ∃ q, α[i]? = some q ∧ q.isFix = true
section
variable {K : PySem.W.Frag} {p p' p2 : List Addr} {H H' H2 : Hp} {σ σ' σ2 : L2.St} {α α' α2 : AS} {A A' A2 : FT}
theorem isRoot_of_isFix {r : AV} (h : r.isFix = true) : r.isRoot = true := by
  cases r <;> first | rfl | cases h
theorem isRoot_of_isLk {r : AV} (h : r.isLk = true) : r.isRoot = true := by
  cases r <;> first | rfl | cases h
theorem Rd.ne_none {a : Addr} {u : HO} (h : Rd H a u) : H a ≠ none := by
  rcases h with h | ⟨_, h⟩ <;> rw [h] <;> intro z <;> cases z
theorem Rd.same {a : Addr} (s : ∀ o, H a = some o → H' a = some o) {u : HO} (h : Rd H a u) : Rd H' a u := by
  rcases h with h | ⟨o, h⟩
  · exact .inl (s _ h)
  · exact .inr ⟨o, s _ h⟩
theorem Ho.rd {lk : Bool} {a : Addr} {u : HO} (h : Ho lk H a u) : Rd H a u := by
  unfold Ho at h
  split at h
  · exact h
  · exact .inl h
theorem Ho.ex {a : Addr} {u : HO} (h : Ho false H a u) : H a = some u := by
  unfold Ho at h
  rwa [if_neg (by simp)] at h
theorem Ho.of {lk : Bool} {a : Addr} {u : HO} (h : H a = some u) : Ho lk H a u := by
  unfold Ho
  split
  · exact .inl h
  · exact h
theorem Ho.lkd {a : Addr} {u : HO} (h : Rd H a u) : Ho true H a u := by
  unfold Ho
  rw [if_pos rfl]
  exact h
theorem Ho.same {lk : Bool} {a : Addr} (s : ∀ o, H a = some o → H' a = some o) {u : HO} (h : Ho lk H a u) : Ho lk H' a u := by
  cases lk with
  | true => exact .lkd (Rd.same s h.rd)
  | false => exact .of (s _ h.ex)
theorem Top.tr {lk : Bool} {a : Addr} {x : Da} (t : Tr p H p' H') (s : ∀ o, H a = some o → H' a = some o) (h : Top K p H lk a x) : Top K p' H' lk a x := by
  cases x with
  | list xs => obtain ⟨vs, h1, h2, h3⟩ := h; exact ⟨vs, s _ h1, h2, h3.tr t⟩
  | dk xs => obtain ⟨vs, h1, h2, h3⟩ := h; exact ⟨vs, h1.same s, h2, h3.tr t⟩
  | dt xs => obtain ⟨vs, h1, h2, h3⟩ := h; exact ⟨vs, h1.same s, h2, h3.tr t⟩
  | _ => exact h.elim
theorem Top.lock {lk : Bool} {a : Addr} {x : Da} (h : Top K p H lk a x) : Top K p H true a x := by
  cases x with
  | list xs => exact h
  | dk xs => obtain ⟨vs, h1, h2, h3⟩ := h; exact ⟨vs, .lkd h1.rd, h2, h3⟩
  | dt xs => obtain ⟨vs, h1, h2, h3⟩ := h; exact ⟨vs, .lkd h1.rd, h2, h3⟩
  | _ => exact h.elim
theorem Top.mut {lk : Bool} {a : Addr} {x : Da} (h : Top K p H lk a x) : ∃ u, Rd H a u ∧ ((∃ vs, u = .lst vs) ∨ (∃ vs, u = .dK vs) ∨ ∃ vs, u = .dT vs) := by
  cases x with
  | list xs => obtain ⟨vs, h1, h2, h3⟩ := h; exact ⟨_, .inl h1, .inl ⟨_, rfl⟩⟩
  | dk xs => obtain ⟨vs, h1, h2, h3⟩ := h; exact ⟨_, h1.rd, .inr (.inl ⟨_, rfl⟩)⟩
  | dt xs => obtain ⟨vs, h1, h2, h3⟩ := h; exact ⟨_, h1.rd, .inr (.inr ⟨_, rfl⟩)⟩
  | _ => exact h.elim
theorem KidsK.tr (t : Tr p H p' H') : ∀ {r : List (Key × V)} {s : List (Key × Da)} {as : List Addr}, (∀ c ∈ as, ∀ o, H c = some o → H' c = some o) → KidsK K p H r s as → KidsK K p' H' r s as
  | _, _, _, _, .nil => .nil
  | _, _, _, k, .cons h1 h2 h3 => .cons h1 (h2.tr t (k _ (List.mem_cons_self ..))) (KidsK.tr t (fun c m => k c (List.mem_cons_of_mem _ m)) h3)
theorem KidsT.tr (t : Tr p H p' H') : ∀ {r : List (List Key × V)} {s : List (List Key × Da)} {as : List Addr}, (∀ c ∈ as, ∀ o, H c = some o → H' c = some o) → KidsT K p H r s as → KidsT K p' H' r s as
  | _, _, _, _, .nil => .nil
  | _, _, _, k, .cons h1 h2 h3 => .cons h1 (h2.tr t (k _ (List.mem_cons_self ..))) (KidsT.tr t (fun c m => k c (List.mem_cons_of_mem _ m)) h3)
theorem Nest.tr {lk : Bool} {a : Addr} {as : List Addr} {x : Da} (t : Tr p H p' H') (s : ∀ c ∈ a :: as, ∀ o, H c = some o → H' c = some o) (h : Nest K p H lk a as x) : Nest K p' H' lk a as x := by
  cases x with
  | dk xs => obtain ⟨vs, h1, h2, h3⟩ := h; exact ⟨vs, h1.same (s a (List.mem_cons_self ..)), h2, h3.tr t fun c m => s c (List.mem_cons_of_mem _ m)⟩
  | dt xs => obtain ⟨vs, h1, h2, h3⟩ := h; exact ⟨vs, h1.same (s a (List.mem_cons_self ..)), h2, h3.tr t fun c m => s c (List.mem_cons_of_mem _ m)⟩
  | _ => exact h.elim
theorem Nest.lock {lk : Bool} {a : Addr} {as : List Addr} {x : Da} (h : Nest K p H lk a as x) : Nest K p H true a as x := by
  cases x with
  | dk xs => obtain ⟨vs, h1, h2, h3⟩ := h; exact ⟨vs, .lkd h1.rd, h2, h3⟩
  | dt xs => obtain ⟨vs, h1, h2, h3⟩ := h; exact ⟨vs, .lkd h1.rd, h2, h3⟩
  | _ => exact h.elim
theorem KidsK.mut : ∀ {r : List (Key × V)} {s : List (Key × Da)} {as : List Addr}, KidsK K p H r s as → ∀ c ∈ as, ∃ u, Rd H c u ∧ ((∃ vs, u = .lst vs) ∨ (∃ vs, u = .dK vs) ∨ ∃ vs, u = .dT vs)
  | _, _, _, .nil, _, m => (List.not_mem_nil m).elim
  | _, _, _, .cons h1 h2 h3, c, m => by
    rcases List.mem_cons.mp m with rfl | m
    · exact h2.mut
    · exact KidsK.mut h3 c m
theorem KidsT.mut : ∀ {r : List (List Key × V)} {s : List (List Key × Da)} {as : List Addr}, KidsT K p H r s as → ∀ c ∈ as, ∃ u, Rd H c u ∧ ((∃ vs, u = .lst vs) ∨ (∃ vs, u = .dK vs) ∨ ∃ vs, u = .dT vs)
  | _, _, _, .nil, _, m => (List.not_mem_nil m).elim
  | _, _, _, .cons h1 h2 h3, c, m => by
    rcases List.mem_cons.mp m with rfl | m
    · exact h2.mut
    · exact KidsT.mut h3 c m
theorem Nest.mut {lk : Bool} {a : Addr} {as : List Addr} {x : Da} (h : Nest K p H lk a as x) : ∀ c ∈ a :: as, ∃ u, Rd H c u ∧ ((∃ vs, u = .lst vs) ∨ (∃ vs, u = .dK vs) ∨ ∃ vs, u = .dT vs) := fun c m => by
  cases x with
  | dk xs =>
    obtain ⟨vs, h1, h2, h3⟩ := h
    rcases List.mem_cons.mp m with rfl | m
    · exact ⟨_, h1.rd, .inr (.inl ⟨_, rfl⟩)⟩
    · exact h3.mut c m
  | dt xs =>
    obtain ⟨vs, h1, h2, h3⟩ := h
    rcases List.mem_cons.mp m with rfl | m
    · exact ⟨_, h1.rd, .inr (.inr ⟨_, rfl⟩)⟩
    · exact h3.mut c m
  | _ => exact h.elim
theorem SlotR.tr {o : Option V} {f : List Addr} {r : AV} (t : Tr p H p' H') (s : ∀ c ∈ f, ∀ u, H c = some u → H' c = some u) (h : SlotR K p H o f r) : SlotR K p' H' o f r := by
  cases r with
  | un => exact h
  | d x => obtain ⟨rfl, v, e, h⟩ := h; exact ⟨rfl, v, e, h.tr t⟩
  | r fx lk x => obtain ⟨a, e, rfl, h⟩ := h; exact ⟨a, e, rfl, h.tr t (s a (List.mem_cons_self ..))⟩
  | n fx lk x => obtain ⟨a, as, e, rfl, h⟩ := h; exact ⟨a, as, e, rfl, h.tr t s⟩
  | sc ns =>
    obtain ⟨rfl, a, e, h⟩ := h
    refine ⟨rfl, a, e, h.elim (fun z => .inl ?_) .inr⟩
    have := t.mt a _ z.1 z.2
    exact ⟨this.2, this.1⟩
theorem SlotR.mut {o : Option V} {f : List Addr} {r : AV} (h : SlotR K p H o f r) : ∀ c ∈ f, ∃ u, Rd H c u ∧ ((∃ vs, u = .lst vs) ∨ (∃ vs, u = .dK vs) ∨ ∃ vs, u = .dT vs) := fun c m => by
  cases r with
  | un => rw [show f = [] from h] at m; exact (List.not_mem_nil m).elim
  | d x => rw [h.1] at m; exact (List.not_mem_nil m).elim
  | r fx lk x => obtain ⟨a, e, rfl, h⟩ := h; cases List.mem_singleton.mp m; exact h.mut
  | n fx lk x => obtain ⟨a, as, e, rfl, h⟩ := h; exact h.mut c m
  | sc ns => rw [h.1] at m; exact (List.not_mem_nil m).elim
theorem Rel.has_slot (R : Rel K p H σ α A) {i : Nat} {a : Addr} (h : a ∈ A i) : ∃ r, α[i]? = some r := by
  cases e : α[i]? with
  | some r => exact ⟨r, rfl⟩
  | none => rw [R.out i e] at h; exact (List.not_mem_nil h).elim
theorem Rel.not_tup (R : Rel K p H σ α A) {i : Nat} {a : Addr} {xs : List V} (h : a ∈ A i) (t : H a = some (.tup xs)) : False := by
  obtain ⟨r, e⟩ := R.has_slot h
  obtain ⟨u, q, z⟩ := (R.sl i r e).mut a h
  rcases q with q | ⟨o, q⟩
  · rw [t] at q
    cases q
    rcases z with ⟨_, z⟩ | ⟨_, z⟩ | ⟨_, z⟩ <;> cases z
  · rw [t] at q; cases q
theorem Kept.ex {b : Addr} {o : HO} (h : Kept p b o H') (n : HO.isDict o = false) : H' b = some o := by
  rcases h with h | ⟨_, z, _⟩
  · exact h
  · rw [n] at z; cases z
theorem Kept.exp {b : Addr} {o : HO} (h : Kept p b o H') (n : b ∈ p) : H' b = some o := by
  rcases h with h | ⟨z, _⟩
  · exact h
  · exact (z n).elim
theorem Step.rd (S : Step p H σ α A p' H' σ' α' A') {b : Addr} {u : HO} (h : Rd H b u) (n : ∀ i, b ∉ A i) : Rd H' b u := by
  rcases h with h | ⟨o, h⟩
  · rcases S.keep b _ h n with z | ⟨_, _, od, z⟩
    · exact .inl z
    · exact .inr ⟨od, z⟩
  · exact .inr ⟨o, (S.keep b _ h n).ex rfl⟩
theorem Step.tr (R : Rel K p H σ α A) (S : Step p H σ α A p' H' σ' α' A') : Tr p H p' H' := by
  refine ⟨fun a u n r => ⟨S.rd r fun i h => n (R.inp i a h), fun m => ?_⟩, fun a xs n r => (S.keep a _ r fun i h => n (R.inp i a h)).ex rfl, fun a xs r => (S.keep a _ r fun i h => R.not_tup h r).ex rfl, fun a o u n r => (S.keep a _ r fun i h => n (R.inp i a h)).ex rfl⟩
  rcases S.sub a m with z | z
  · exact n z
  · exact Rd.ne_none r z
theorem Step.refl : Step p H σ α A p H σ α A :=
  ⟨fun _ _ h _ => .inl h, fun _ h => h, fun i b h => .inl h, fun _ h => .inl h, fun _ h => .inl h, rfl, fun i r h f => ⟨rfl, r, h, .refl⟩, fun i r h f => ⟨r, h, f⟩⟩
theorem Step.trans (R : Rel K p H σ α A) (S : Step p H σ α A p' H' σ' α' A') (T : Step p' H' σ' α' A' p2 H2 σ2 α2 A2) : Step p H σ α A p2 H2 σ2 α2 A2 where
  keep := fun b o h n => by
    have n' : ∀ i, b ∉ A' i := fun i r => by
      rcases S.new i b r with z | z
      · exact n i z
      · rw [h] at z; cases z
    rcases S.keep b o h n with z | ⟨z1, z2, od, z3⟩
    · rcases T.keep b o z n' with w | ⟨w1, w2, w3⟩
      · exact .inl w
      · refine .inr ⟨fun m => ?_, w2, w3⟩
        rcases S.mono b m with y | ⟨i, y⟩
        · exact w1 y
        · exact n i y
    · exact .inr ⟨z1, z2, od, (T.keep b _ z3 n').ex rfl⟩
  dom := fun b h => S.dom b (T.dom b h)
  new := fun i b h => by
    rcases T.new i b h with z | z
    · exact S.new i b z
    · exact .inr (S.dom b z)
  sub := fun b h => by
    rcases T.sub b h with z | z
    · exact S.sub b z
    · exact .inr (S.dom b z)
  mono := fun b h => by
    rcases S.mono b h with z | z
    · rcases T.mono b z with w | ⟨i, w⟩
      · exact .inl w
      · rcases S.new i b w with y | y
        · exact .inr ⟨i, y⟩
        · exact (R.al b h y).elim
    · exact .inr z
  ln := T.ln.trans S.ln
  fix := fun i r h f => by
    obtain ⟨e1, r1, h1, f1⟩ := S.fix i r h f
    obtain ⟨e2, r2, h2, f2⟩ := T.fix i r1 h1 (f1.fx.trans f)
    exact ⟨e2.trans e1, r2, h2, f1.trans f2⟩
  nof := fun i r h f => by
    obtain ⟨q, h1, f1⟩ := T.nof i r h f
    exact S.nof i q h1 f1
theorem tr_same (s : Same H H') : Tr p H p H' := ⟨fun a u n r => ⟨Rd.same (fun o e => s a o e) r, n⟩, fun a xs _ r => s a _ r, fun a xs r => s a _ r, fun a o u _ r => s a _ r⟩
theorem tr_new {L : Addr} (hL : H L = none) (s : Same H H') : Tr p H (L :: p) H' :=
  ⟨fun a u n r => ⟨Rd.same (fun o e => s a o e) r, fun m => by
    rcases List.mem_cons.mp m with z | z
    · subst z; exact Rd.ne_none r hL
    · exact n z⟩, fun a xs _ r => s a _ r, fun a xs r => s a _ r, fun a o u _ r => s a _ r⟩
theorem tr_less {q : List Addr} (h : ∀ b ∈ q, b ∈ p) : Tr p H q H := ⟨fun a u n r => ⟨r, fun m => n (h a m)⟩, fun a xs _ r => r, fun a xs r => r, fun a o u _ r => r⟩
theorem Rel.same (R : Rel K p H σ α A) (s : Same H H') : Rel K p H' σ α A :=
  ⟨R.len, fun i r e => (R.sl i r e).tr (tr_same s) fun c _ u e => s c u e, R.out, R.nd, R.dj, R.inp, fun a m z => R.al a m (Same.free s z)⟩
theorem Step.same (s : Same H H') : Step p H σ α A p H' σ α A :=
  ⟨fun b o h _ => .inl (s b o h), fun b h => Same.free s h, fun i b h => .inl h, fun _ h => .inl h, fun _ h => .inl h, rfl, fun i r h f => ⟨rfl, r, h, .refl⟩, fun i r h f => ⟨r, h, f⟩⟩
/-- changing slot i -/
def setF (A : FT) (i : Nat) (f : List Addr) : FT := fun j => if j = i then f else A j
theorem setF_same {i : Nat} {f : List Addr} : setF A i f i = f := by unfold setF; rw [if_pos rfl]
theorem setF_ne {i j : Nat} {f : List Addr} (h : j ≠ i) : setF A i f j = A j := by unfold setF; rw [if_neg h]
theorem setF_mem {i j : Nat} {f : List Addr} {a : Addr} (h : a ∈ setF A i f j) : (j = i ∧ a ∈ f) ∨ (j ≠ i ∧ a ∈ A j) := by
  unfold setF at h
  split at h
  · exact .inl ⟨by assumption, h⟩
  · exact .inr ⟨by assumption, h⟩
theorem getj_set {i j : Nat} {v : V} (hl : i < σ.length) : ((σ.set i (some v))[j]?).join = if j = i then some v else (σ[j]?).join := by
  by_cases e : j = i
  · subst e; rw [List.getElem?_set_self hl, if_pos rfl]; rfl
  · rw [List.getElem?_set_ne (fun z => e z.symm), if_neg e]
theorem Rel.lt (R : Rel K p H σ α A) {i : Nat} {r : AV} (h : α[i]? = some r) : i < σ.length := by
  rw [R.len]; exact (List.getElem?_eq_some_iff.mp h).1
theorem Rel.in_al (R : Rel K p H σ α A) {i : Nat} {a : Addr} (h : a ∈ A i) : H a ≠ none := R.al a (R.inp i a h)
/-- the general change of one slot: its value, kind and footprint; the heap is so that all else stands -/
theorem rel_put {i : Nat} {q r : AV} {o : Option V} {f : List Addr} (R : Rel K p H σ α A) (hi : α[i]? = some q) (hs : SlotR K p H o f r) (hnd : f.Nodup) (hin : ∀ a ∈ f, a ∈ p) (hdj : ∀ a ∈ f, ∀ j, j ≠ i → a ∉ A j) :
    Rel K p H (σ.set i o) (α.set i r) (setF A i f) := by
  have hia : i < α.length := (List.getElem?_eq_some_iff.mp hi).1
  have his : i < σ.length := R.lt hi
  refine ⟨by rw [List.length_set, List.length_set, R.len], fun j s h => ?_, fun j h => ?_, fun j => ?_, fun j k a h1 h2 => ?_, fun j a h => ?_, R.al⟩
  · by_cases e : j = i
    · subst e
      rw [List.getElem?_set_self hia] at h
      cases h
      rw [setF_same, List.getElem?_set_self his]
      exact hs
    · rw [List.getElem?_set_ne (fun z => e z.symm)] at h
      rw [setF_ne e, List.getElem?_set_ne (fun z => e z.symm)]
      exact R.sl j s h
  · have e : j ≠ i := fun z => by subst z; rw [List.getElem?_set_self hia] at h; cases h
    rw [List.getElem?_set_ne (fun z => e z.symm)] at h
    rw [setF_ne e]
    exact R.out j h
  · by_cases e : j = i
    · subst e; rw [setF_same]; exact hnd
    · rw [setF_ne e]; exact R.nd j
  · rcases setF_mem h1 with ⟨rfl, m1⟩ | ⟨n1, m1⟩ <;> rcases setF_mem h2 with ⟨rfl, m2⟩ | ⟨n2, m2⟩
    · rfl
    · exact (hdj a m1 k n2 m2).elim
    · exact (hdj a m2 j n1 m1).elim
    · exact R.dj j k a m1 m2
  · rcases setF_mem h with ⟨rfl, m⟩ | ⟨_, m⟩
    · exact hin a m
    · exact R.inp j a m
theorem step_put {i : Nat} {q r : AV} {o : Option V} {f : List Addr} (R : Rel K p H σ α A) (hi : α[i]? = some q) (hf : q.isFix = false) (hr : r.isFix = false) (hin : ∀ a ∈ f, a ∈ A i ∨ H a = none) :
    Step p H σ α A p H (σ.set i o) (α.set i r) (setF A i f) := by
  have hia : i < α.length := (List.getElem?_eq_some_iff.mp hi).1
  refine ⟨fun _ _ h _ => .inl h, fun _ h => h, fun j b h => ?_, fun _ h => .inl h, fun _ h => .inl h, by rw [List.length_set], fun j s h g => ?_, fun j s h g => ?_⟩
  · rcases setF_mem h with ⟨rfl, m⟩ | ⟨_, m⟩
    · exact hin b m
    · exact .inl m
  · have e : j ≠ i := fun z => by subst z; rw [hi] at h; cases h; rw [hf] at g; cases g
    rw [List.getElem?_set_ne (fun z => e z.symm), List.getElem?_set_ne (fun z => e z.symm)]
    exact ⟨rfl, s, h, .refl⟩
  · by_cases e : j = i
    · subst e
      rw [List.getElem?_set_self hia] at h
      cases h
      rw [hr] at g; cases g
    · rw [List.getElem?_set_ne (fun z => e z.symm)] at h
      exact ⟨s, h, g⟩
end
end Vm

namespace Vm
open PySem PySem.Spec PyProof.Rows L2 Gk
/-! ### expressions -/
inductive Lc where
  | d (x : Da)
  | s (i : Nat)
abbrev ME := AS → Option (Lc × AS)
abbrev MT := AS → Option (Bool × AS)
abbrev MA := AS → Option (List Lc × AS)
def res (α : AS) : Lc → Option Da
  | .d x => some x
  | .s i => (α[i]?).bind AV.see
def resA (α : AS) : List Lc → Option (List Da)
  | [] => some []
  | l :: r => (res α l).bind fun x => (resA α r).bind fun xs => some (x :: xs)
def LocR (K : PySem.W.Frag) (p : List Addr) (H : Hp) (σ : L2.St) (v : V) : Lc → Prop
  | .d x => Dz K p H v x
  | .s i => σ[i]? = some (some v)
def LocA (K : PySem.W.Frag) (p : List Addr) (H : Hp) (σ : L2.St) : List V → List Lc → Prop := Paired fun v l => LocR K p H σ v l
inductive Vz (K : PySem.W.Frag) (p : List Addr) (H : Hp) : V → Da → Prop
  | of {v : V} {x : Da} : Dz K p H v x → Vz K p H v x
  | top {a : Addr} {x : Da} : Top K p H true a x → Vz K p H (.ref a) x
abbrev VzA (K : PySem.W.Frag) (p : List Addr) (H : Hp) : List V → List Da → Prop := Paired fun v x => Vz K p H v x
structure RefE (K : PySem.W.Frag) (t : TE) (m : ME) : Prop where
  go : ∀ p H σ α A l α' Q, Rel K p H σ α A → m α = some (l, α') →
    (∀ p' H' A' v, Rel K p' H' σ α' A' → Step p H σ α A p' H' σ α' A' → LocR K p' H' σ v l → Q v H') → t σ H Q
structure RefT (K : PySem.W.Frag) (t : TT) (m : MT) : Prop where
  go : ∀ p H σ α A b α' Q, Rel K p H σ α A → m α = some (b, α') →
    (∀ p' H' A', Rel K p' H' σ α' A' → Step p H σ α A p' H' σ α' A' → Q b H') → t σ H Q
structure RefA (K : PySem.W.Frag) (t : TA) (m : MA) : Prop where
  go : ∀ p H σ α A l α' Q, Rel K p H σ α A → m α = some (l, α') →
    (∀ p' H' A' vs, Rel K p' H' σ α' A' → Step p H σ α A p' H' σ α' A' → LocA K p' H' σ vs l → Q vs H') → t σ H Q
section
variable {K : PySem.W.Frag} {p p' p2 : List Addr} {H H' H2 : Hp} {σ σ' σ2 : L2.St} {α α' α2 : AS} {A A' A2 : FT}
theorem LocR.step {v : V} {l : Lc} (R : Rel K p H σ α A) (S : Step p H σ α A p' H' σ α' A') (h : LocR K p H σ v l) : LocR K p' H' σ v l := by
  cases l with
  | d x => exact Dz.tr (S.tr R) h
  | s i => exact h
theorem LocA.step {v : List V} {l : List Lc} (R : Rel K p H σ α A) (S : Step p H σ α A p' H' σ α' A') (h : LocA K p H σ v l) : LocA K p' H' σ v l := by
  induction h with
  | nil => exact .nil
  | cons h _ ih => exact .cons (LocR.step R S h) ih
theorem join_of {i : Nat} {v : V} (h : σ[i]? = some (some v)) : (σ[i]?).join = some v := by rw [h]; rfl
theorem res_vz {v : V} {l : Lc} {x : Da} (R : Rel K p H σ α A) (h : LocR K p H σ v l) (e : res α l = some x) : Vz K p H v x := by
  cases l with
  | d y => cases e; exact .of h
  | s i =>
    have h' : σ[i]? = some (some v) := h
    simp only [res, Option.bind_eq_some_iff] at e
    obtain ⟨r, q, e⟩ := e
    have z := R.sl i r q
    rw [join_of h'] at z
    cases r with
    | d y =>
      cases e
      obtain ⟨_, w, e1, e2⟩ := z
      cases e1
      exact .of e2
    | r fx lk y =>
      cases e
      obtain ⟨a, e1, _, e2⟩ := z
      cases e1
      exact .top e2.lock
    | _ => cases e
theorem resA_vz {vs : List V} {ls : List Lc} (R : Rel K p H σ α A) (h : LocA K p H σ vs ls) : ∀ {xs : List Da}, resA α ls = some xs → VzA K p H vs xs := by
  induction h with
  | nil => intro xs e; cases e; exact .nil
  | cons h _ ih =>
    intro xs e
    simp only [resA, Option.bind_eq_some_iff] at e
    obtain ⟨x, e1, ys, e2, e3⟩ := e
    cases e3
    exact .cons (res_vz R h e1) (ih e2)
/-! values -/
def eC (x : Da) : ME := fun α => some (.d x, α)
def eV (i : Nat) : ME := fun α => match α[i]? with
  | some .un => none
  | none => none
  | _ => some (.s i, α)
theorem ref_int {i : Int} : RefE K (tC (.int i)) (eC (.int i)) := ⟨fun p H σ α A l α' Q R e h => by cases e; exact h p H A _ R .refl (.int i)⟩
theorem ref_bl {b : Bool} : RefE K (tC (.bl b)) (eC (.bool b)) := ⟨fun p H σ α A l α' Q R e h => by cases e; exact h p H A _ R .refl (.bl b)⟩
theorem ref_non : RefE K (tC .non) (eC .none) := ⟨fun p H σ α A l α' Q R e h => by cases e; exact h p H A _ R .refl .non⟩
theorem ref_str {x : Str} (hx : x.length ≤ SLIM) : RefE K (tC (.str x)) (eC (.str x)) := ⟨fun p H σ α A l α' Q R e h => by cases e; exact h p H A _ R .refl (.str x hx)⟩
theorem Rel.has (R : Rel K p H σ α A) {i : Nat} {r : AV} (h : α[i]? = some r) (n : r ≠ .un) : ∃ v, σ[i]? = some (some v) := by
  have hi := R.lt h
  have z := R.sl i r h
  rw [List.getElem?_eq_getElem hi] at z ⊢
  have : ∃ v, σ[i] = some v := by
    cases r with
    | un => exact (n rfl).elim
    | d x => obtain ⟨_, v, e, _⟩ := z; exact ⟨v, e⟩
    | r f l x => obtain ⟨a, e, _⟩ := z; exact ⟨.ref a, e⟩
    | n f l x => obtain ⟨a, _, e, _⟩ := z; exact ⟨.ref a, e⟩
    | sc ns => obtain ⟨_, a, e, _⟩ := z; exact ⟨.ref a, e⟩
  obtain ⟨v, e⟩ := this
  exact ⟨v, by rw [e]⟩
theorem ref_var {i : Nat} : RefE K (tVar i) (eV i) := ⟨fun p H σ α A l α' Q R e h => by
  unfold eV at e
  have key : ∀ r, α[i]? = some r → r ≠ .un → some (Lc.s i, α) = some (l, α') → tVar i σ H Q := fun r q n e => by
    cases e
    obtain ⟨v, hv⟩ := R.has q n
    exact ⟨v, hv, h p H A v R .refl hv⟩
  split at e
  · cases e
  · cases e
  · rename_i n1 n2
    cases q : α[i]? with
    | none => exact (n2 q).elim
    | some r => exact key r q (fun z => by subst z; exact n1 q) e⟩
/-! operators of two things -/
def RefR2 (K : PySem.W.Frag) (r : R2) (f : Da → Da → Option Da) : Prop :=
  ∀ p H x y a b c Q, (∀ a ∈ p, H a ≠ none) → Vz K p H x a → Vz K p H y b → f a b = some c → (∀ v H', Same H H' → Dz K p H' v c → Q v H') → r x y H Q
def RefR1 (K : PySem.W.Frag) (r : V → Hp → VK → Prop) (f : Da → Option Da) : Prop :=
  ∀ p H x a c Q, (∀ a ∈ p, H a ≠ none) → Vz K p H x a → f a = some c → (∀ v H', Same H H' → Dz K p H' v c → Q v H') → r x H Q
def RefRA (K : PySem.W.Frag) (r : List V → Hp → VK → Prop) (f : List Da → Option Da) : Prop :=
  ∀ p H xs as c Q, (∀ a ∈ p, H a ≠ none) → VzA K p H xs as → f as = some c → (∀ v H', Same H H' → Dz K p H' v c → Q v H') → r xs H Q
def eOp (f : Da → Da → Option Da) (ma mb : ME) : ME := fun α =>
  (ma α).bind fun x => (mb x.2).bind fun y => (res y.2 x.1).bind fun a => (res y.2 y.1).bind fun b => (f a b).bind fun c => some (.d c, y.2)
def eUn (f : Da → Option Da) (ma : ME) : ME := fun α => (ma α).bind fun x => (res x.2 x.1).bind fun a => (f a).bind fun c => some (.d c, x.2)
def eCB (f : List Da → Option Da) (ma : MA) : ME := fun α => (ma α).bind fun x => (resA x.2 x.1).bind fun a => (f a).bind fun c => some (.d c, x.2)
theorem ref_op {r : R2} {f : Da → Da → Option Da} {ta tb : TE} {ma mb : ME} (hr : RefR2 K r f) (ha : RefE K ta ma) (hb : RefE K tb mb) : RefE K (tOp r ta tb) (eOp f ma mb) :=
  ⟨fun p H σ α A l α' Q R e h => by
    simp only [eOp, Option.bind_eq_some_iff] at e
    obtain ⟨⟨l1, α1⟩, e1, ⟨l2, α2⟩, e2, a, e3, b, e4, c, e5, e6⟩ := e
    cases e6
    refine ha.go p H σ α A l1 α1 _ R e1 fun p1 H1 A1 v R1 S1 q1 => ?_
    refine hb.go p1 H1 σ α1 A1 l2 α2 _ R1 e2 fun p2 H2 A2 w R2 S2 q2 => ?_
    refine hr p2 H2 v w a b c _ R2.al (res_vz R2 (q1.step R1 S2) e3) (res_vz R2 q2 e4) e5 fun z H3 s q => ?_
    exact h p2 H3 A2 z (R2.same s) ((S1.trans R S2).trans R (.same s)) q⟩
theorem ref_un {r : V → Hp → VK → Prop} {f : Da → Option Da} {ta : TE} {ma : ME} (hr : RefR1 K r f) (ha : RefE K ta ma) : RefE K (tUn r ta) (eUn f ma) :=
  ⟨fun p H σ α A l α' Q R e h => by
    simp only [eUn, Option.bind_eq_some_iff] at e
    obtain ⟨⟨l1, α1⟩, e1, a, e3, c, e5, e6⟩ := e
    cases e6
    refine ha.go p H σ α A l1 α1 _ R e1 fun p1 H1 A1 v R1 S1 q1 => ?_
    refine hr p1 H1 v a c _ R1.al (res_vz R1 q1 e3) e5 fun z H3 s q => ?_
    exact h p1 H3 A1 z (R1.same s) (S1.trans R (.same s)) q⟩
theorem ref_cb {r : List V → Hp → VK → Prop} {f : List Da → Option Da} {ta : TA} {ma : MA} (hr : RefRA K r f) (ha : RefA K ta ma) : RefE K (tCB r ta) (eCB f ma) :=
  ⟨fun p H σ α A l α' Q R e h => by
    simp only [eCB, Option.bind_eq_some_iff] at e
    obtain ⟨⟨l1, α1⟩, e1, a, e3, c, e5, e6⟩ := e
    cases e6
    refine ha.go p H σ α A l1 α1 _ R e1 fun p1 H1 A1 v R1 S1 q1 => ?_
    refine hr p1 H1 v a c _ R1.al (resA_vz R1 q1 e3) e5 fun z H3 s q => ?_
    exact h p1 H3 A1 z (R1.same s) (S1.trans R (.same s)) q⟩
/-! arguments -/
def aNil : MA := fun α => some ([], α)
def aCons (ma : ME) (mr : MA) : MA := fun α => (ma α).bind fun x => (mr x.2).bind fun y => some (x.1 :: y.1, y.2)
theorem ref_nil : RefA K tNil aNil := ⟨fun p H σ α A l α' Q R e h => by cases e; exact h p H A [] R .refl .nil⟩
theorem ref_cons {ta : TE} {tr : TA} {ma : ME} {mr : MA} (ha : RefE K ta ma) (hr : RefA K tr mr) : RefA K (tCons ta tr) (aCons ma mr) :=
  ⟨fun p H σ α A l α' Q R e h => by
    simp only [aCons, Option.bind_eq_some_iff] at e
    obtain ⟨⟨l1, α1⟩, e1, ⟨l2, α2⟩, e2, e6⟩ := e
    cases e6
    refine ha.go p H σ α A l1 α1 _ R e1 fun p1 H1 A1 v R1 S1 q1 => ?_
    refine hr.go p1 H1 σ α1 A1 l2 α2 _ R1 e2 fun p2 H2 A2 w R2 S2 q2 => ?_
    exact h p2 H2 A2 (v :: w) R2 (S1.trans R S2) (.cons (LocR.step R1 S2 q1) q2)⟩
/-! a loc as data, kept or not: what a tuple, a list may hold -/
def own (α : AS) : Lc → Option Da
  | .d x => some x
  | .s i => (α[i]?).bind AV.get
def ownA (α : AS) : List Lc → Option (List Da)
  | [] => some []
  | l :: r => (own α l).bind fun x => (ownA α r).bind fun xs => some (x :: xs)
theorem own_dz {v : V} {l : Lc} {x : Da} (R : Rel K p H σ α A) (h : LocR K p H σ v l) (e : own α l = some x) : Dz K p H v x := by
  cases l with
  | d y => cases e; exact h
  | s i =>
    have h' : σ[i]? = some (some v) := h
    simp only [own, Option.bind_eq_some_iff] at e
    obtain ⟨r, q, e⟩ := e
    have z := R.sl i r q
    rw [join_of h'] at z
    cases r <;> first | cases e | skip
    obtain ⟨_, w, e1, e2⟩ := z
    cases e1
    exact e2
theorem vz_bl {v : V} {b : Bool} (h : Vz K p H v (.bool b)) : v = .bl b := by
  cases h with
  | of h => cases h; rfl
  | top h => exact h.elim
theorem vz_int {v : V} {i : Int} (h : Vz K p H v (.int i)) : v = .int i := by
  cases h with
  | of h => cases h; rfl
  | top h => exact h.elim
theorem vz_str {v : V} {z : Str} (h : Vz K p H v (.str z)) : v = .str z ∧ z.length ≤ SLIM := by
  cases h with
  | of h => cases h; exact ⟨rfl, by assumption⟩
  | top h => exact h.elim
theorem vz_non {v : V} (h : Vz K p H v .none) : v = .non := by
  cases h with
  | of h => cases h; rfl
  | top h => exact h.elim
theorem vz_lst {v : V} {ds : List Da} (h : Vz K p H v (.list ds)) : ∃ a vs, v = .ref a ∧ H a = some (.lst vs) ∧ vs.length ≤ LIM ∧ DzA K p H vs ds := by
  cases h with
  | of h => cases h with
    | lst n r l q => exact ⟨_, _, rfl, r, l, q⟩
  | top h => obtain ⟨vs, h1, h2, h3⟩ := h; exact ⟨_, vs, rfl, h1, h2, h3⟩
theorem vz_tup {v : V} {ds : List Da} (h : Vz K p H v (.tuple ds)) : ∃ a vs, v = .ref a ∧ H a = some (.tup vs) ∧ vs.length ≤ LIM ∧ DzA K p H vs ds := by
  cases h with
  | of h => cases h with
    | tup r l q => exact ⟨_, _, rfl, r, l, q⟩
  | top h => exact h.elim
theorem vz_dk {v : V} {ds : List (Key × Da)} (h : Vz K p H v (.dk ds)) : ∃ a xs, v = .ref a ∧ Rd H a (.dK xs) ∧ xs.length ≤ LIM ∧ DzK K p H xs ds := by
  cases h with
  | of h => cases h with
    | dk n r l q => exact ⟨_, _, rfl, r, l, q⟩
  | top h => obtain ⟨vs, h1, h2, h3⟩ := h; exact ⟨_, vs, rfl, h1.rd, h2, h3⟩
theorem vz_dt {v : V} {ds : List (List Key × Da)} (h : Vz K p H v (.dt ds)) : ∃ a xs, v = .ref a ∧ Rd H a (.dT xs) ∧ xs.length ≤ LIM ∧ DzT K p H xs ds := by
  cases h with
  | of h => cases h with
    | dt n r l q => exact ⟨_, _, rfl, r, l, q⟩
  | top h => obtain ⟨vs, h1, h2, h3⟩ := h; exact ⟨_, vs, rfl, h1.rd, h2, h3⟩
theorem ownA_dz {vs : List V} {ls : List Lc} (R : Rel K p H σ α A) (h : LocA K p H σ vs ls) : ∀ {xs : List Da}, ownA α ls = some xs → DzA K p H vs xs := by
  induction h with
  | nil => intro xs e; cases e; exact .nil
  | cons h _ ih =>
    intro xs e
    simp only [ownA, Option.bind_eq_some_iff] at e
    obtain ⟨x, e1, ys, e2, e3⟩ := e
    cases e3
    exact .cons (own_dz R h e1) (ih e2)
theorem line_of {n : Nat} (h : n ≤ LIM) : n ≤ sizeLine := Nat.le_trans h (by rw [sizeLine_eq]; decide)
theorem line_lt {n : Nat} (h : n ≤ LIM) : n < sizeLine := Nat.lt_of_le_of_lt h (by rw [sizeLine_eq]; decide)
def eTup (ma : MA) : ME := fun α => (ma α).bind fun x => (ownA x.2 x.1).bind fun xs => if xs.length ≤ LIM then some (.d (.tuple xs), x.2) else none
def eLst (ma : MA) : ME := fun α => (ma α).bind fun x => (ownA x.2 x.1).bind fun xs => if xs.length ≤ LIM then some (.d (.list xs), x.2) else none
theorem ref_tup {ta : TA} {ma : MA} (ha : RefA K ta ma) : RefE K (tTup ta) (eTup ma) :=
  ⟨fun p H σ α A l α' Q R e h => by
    simp only [eTup, Option.bind_eq_some_iff] at e
    obtain ⟨⟨l1, α1⟩, e1, xs, e2, e3⟩ := e
    split at e3
    · rename_i hl
      cases e3
      refine ha.go p H σ α A l1 α1 _ R e1 fun p1 H1 A1 v R1 S1 q1 => ?_
      have z := ownA_dz R1 q1 e2
      have hv : v.length ≤ LIM := by rw [z.length]; exact hl
      refine ⟨line_of hv, fun a ha => ?_⟩
      have s := same_new (o := .tup v) ha
      exact h p1 _ A1 _ (R1.same s) (S1.trans R (.same s)) (.tup upd_same hv (z.tr (tr_same s)))
    · cases e3⟩
theorem not_in_of_none {a : Addr} (R : Rel K p H σ α A) (h : H a = none) : a ∉ p := fun m => R.al a m h
theorem ref_lst {ta : TA} {ma : MA} (ha : RefA K ta ma) : RefE K (tLst ta) (eLst ma) :=
  ⟨fun p H σ α A l α' Q R e h => by
    simp only [eLst, Option.bind_eq_some_iff] at e
    obtain ⟨⟨l1, α1⟩, e1, xs, e2, e3⟩ := e
    split at e3
    · rename_i hl
      cases e3
      refine ha.go p H σ α A l1 α1 _ R e1 fun p1 H1 A1 v R1 S1 q1 => ?_
      have z := ownA_dz R1 q1 e2
      have hv : v.length ≤ LIM := by rw [z.length]; exact hl
      refine ⟨line_of hv, fun a ha => ?_⟩
      have s := same_new (o := .lst v) ha
      exact h p1 _ A1 _ (R1.same s) (S1.trans R (.same s)) (.lst (not_in_of_none R1 ha) upd_same hv (z.tr (tr_same s)))
    · cases e3⟩
/-! tests -/
def tOfE (ma : ME) : MT := fun α => (ma α).bind fun x => (res x.2 x.1).bind fun a => match a with
  | .bool b => some (b, x.2)
  | _ => none
theorem ref_test {ta : TE} {ma : ME} (ha : RefE K ta ma) : RefT K (tTest ta) (tOfE ma) :=
  ⟨fun p H σ α A l α' Q R e h => by
    simp only [tOfE, Option.bind_eq_some_iff] at e
    obtain ⟨⟨l1, α1⟩, e1, a, e2, e3⟩ := e
    split at e3
    · cases e3
      refine ha.go p H σ α A l1 α1 _ R e1 fun p1 H1 A1 v R1 S1 q1 => ?_
      have z := vz_bl (res_vz R1 q1 e2)
      subst z
      exact ⟨_, rfl, h p1 H1 A1 R1 S1⟩
    · cases e3⟩
theorem ref_tB {ta : TE} {ma : ME} (ha : RefE K ta ma) : RefT K (tB ta) (tOfE ma) := ⟨fun p H σ α A l α' Q R e h => (ref_test ha).go p H σ α A l α' Q R e h⟩
def mNot (m : MT) : MT := fun α => (m α).bind fun x => some (!x.1, x.2)
def mAnd (m n : MT) : MT := fun α => (m α).bind fun x => if x.1 = true then n x.2 else some (false, x.2)
def mOr (m n : MT) : MT := fun α => (m α).bind fun x => if x.1 = true then some (true, x.2) else n x.2
theorem ref_not {t : TT} {m : MT} (h : RefT K t m) : RefT K (tNot t) (mNot m) :=
  ⟨fun p H σ α A b α' Q R e q => by
    simp only [mNot, Option.bind_eq_some_iff] at e
    obtain ⟨⟨c, α1⟩, e1, e2⟩ := e
    cases e2
    exact h.go p H σ α A c _ _ R e1 fun p1 H1 A1 R1 S1 => q p1 H1 A1 R1 S1⟩
theorem ref_and {t u : TT} {m n : MT} (h : RefT K t m) (g : RefT K u n) : RefT K (tAnd t u) (mAnd m n) :=
  ⟨fun p H σ α A b α' Q R e q => by
    simp only [mAnd, Option.bind_eq_some_iff] at e
    obtain ⟨⟨c, α1⟩, e1, e2⟩ := e
    refine h.go p H σ α A c α1 _ R e1 fun p1 H1 A1 R1 S1 => ?_
    cases c with
    | true =>
      refine iteT ?_
      exact g.go p1 H1 σ α1 A1 b α' _ R1 e2 fun p2 H2 A2 R2 S2 => q p2 H2 A2 R2 (S1.trans R S2)
    | false =>
      simp at e2
      obtain ⟨rfl, rfl⟩ := e2
      exact iteF (q p1 H1 A1 R1 S1)⟩
theorem ref_or {t u : TT} {m n : MT} (h : RefT K t m) (g : RefT K u n) : RefT K (tOr t u) (mOr m n) :=
  ⟨fun p H σ α A b α' Q R e q => by
    simp only [mOr, Option.bind_eq_some_iff] at e
    obtain ⟨⟨c, α1⟩, e1, e2⟩ := e
    refine h.go p H σ α A c α1 _ R e1 fun p1 H1 A1 R1 S1 => ?_
    cases c with
    | true =>
      simp at e2
      obtain ⟨rfl, rfl⟩ := e2
      exact iteT (q p1 H1 A1 R1 S1)
    | false =>
      refine iteF ?_
      exact g.go p1 H1 σ α1 A1 b α' _ R1 (by simpa using e2) fun p2 H2 A2 R2 S2 => q p2 H2 A2 R2 (S1.trans R S2)⟩
/-! and, or, not, if as values -/
def eAnd (ma mb : ME) : ME := fun α => (tOfE ma α).bind fun x => if x.1 = true then mb x.2 else some (.d (.bool false), x.2)
def eOr (ma mb : ME) : ME := fun α => (tOfE ma α).bind fun x => if x.1 = true then some (.d (.bool true), x.2) else mb x.2
def eNot (ma : ME) : ME := fun α => (tOfE ma α).bind fun x => some (.d (.bool !x.1), x.2)
def eIf (mc : MT) (ma mb : ME) : ME := fun α => (mc α).bind fun x => if x.1 = true then ma x.2 else mb x.2
theorem ref_andV {ta tb : TE} {ma mb : ME} (ha : RefE K ta ma) (hb : RefE K tb mb) : RefE K (tAndV ta tb) (eAnd ma mb) :=
  ⟨fun p H σ α A l α' Q R e q => by
    simp only [eAnd, Option.bind_eq_some_iff] at e
    obtain ⟨⟨c, α1⟩, e1, e2⟩ := e
    refine (ref_test ha).go p H σ α A c α1 (fun k H1 => if k = true then tb σ H1 Q else Q (.bl false) H1) R e1 fun p1 H1 A1 R1 S1 => ?_
    cases c with
    | true => exact iteT (hb.go p1 H1 σ α1 A1 l α' _ R1 e2 fun p2 H2 A2 v R2 S2 z => q p2 H2 A2 v R2 (S1.trans R S2) z)
    | false =>
      simp at e2
      obtain ⟨rfl, rfl⟩ := e2
      exact iteF (q p1 H1 A1 _ R1 S1 (.bl false))⟩
theorem ref_orV {ta tb : TE} {ma mb : ME} (ha : RefE K ta ma) (hb : RefE K tb mb) : RefE K (tOrV ta tb) (eOr ma mb) :=
  ⟨fun p H σ α A l α' Q R e q => by
    simp only [eOr, Option.bind_eq_some_iff] at e
    obtain ⟨⟨c, α1⟩, e1, e2⟩ := e
    refine (ref_test ha).go p H σ α A c α1 (fun k H1 => if k = true then Q (.bl true) H1 else tb σ H1 Q) R e1 fun p1 H1 A1 R1 S1 => ?_
    cases c with
    | true =>
      simp at e2
      obtain ⟨rfl, rfl⟩ := e2
      exact iteT (q p1 H1 A1 _ R1 S1 (.bl true))
    | false => exact iteF (hb.go p1 H1 σ α1 A1 l α' _ R1 (by simpa using e2) fun p2 H2 A2 v R2 S2 z => q p2 H2 A2 v R2 (S1.trans R S2) z)⟩
theorem ref_notV {ta : TE} {ma : ME} (ha : RefE K ta ma) : RefE K (tNotV ta) (eNot ma) :=
  ⟨fun p H σ α A l α' Q R e q => by
    simp only [eNot, Option.bind_eq_some_iff] at e
    obtain ⟨⟨c, α1⟩, e1, e2⟩ := e
    cases e2
    exact (ref_test ha).go p H σ α A c _ (fun k H1 => Q (.bl (!k)) H1) R e1 fun p1 H1 A1 R1 S1 => q p1 H1 A1 _ R1 S1 (.bl _)⟩
theorem ref_if {t : TT} {ta tb : TE} {mc : MT} {ma mb : ME} (hc : RefT K t mc) (ha : RefE K ta ma) (hb : RefE K tb mb) : RefE K (tIf t ta tb) (eIf mc ma mb) :=
  ⟨fun p H σ α A l α' Q R e q => by
    simp only [eIf, Option.bind_eq_some_iff] at e
    obtain ⟨⟨c, α1⟩, e1, e2⟩ := e
    refine hc.go p H σ α A c α1 _ R e1 fun p1 H1 A1 R1 S1 => ?_
    cases c with
    | true => exact iteT (ha.go p1 H1 σ α1 A1 l α' _ R1 e2 fun p2 H2 A2 v R2 S2 z => q p2 H2 A2 v R2 (S1.trans R S2) z)
    | false => exact iteF (hb.go p1 H1 σ α1 A1 l α' _ R1 (by simpa using e2) fun p2 H2 A2 v R2 S2 z => q p2 H2 A2 v R2 (S1.trans R S2) z)⟩
/-! a < b < c -/
def eChain (f g : Da → Da → Option Da) (ma mb mc : ME) : ME := fun α =>
  (ma α).bind fun x => (mb x.2).bind fun y => (res y.2 x.1).bind fun a => (res y.2 y.1).bind fun b => (f a b).bind fun z => match z with
    | .bool true => (mc y.2).bind fun u => (res u.2 y.1).bind fun b' => (res u.2 u.1).bind fun c => (g b' c).bind fun k => some (.d k, u.2)
    | .bool false => some (.d (.bool false), y.2)
    | _ => none
theorem ref_chain {r r' : R2} {f g : Da → Da → Option Da} {ta tb tc : TE} {ma mb mc : ME} (hr : RefR2 K r f) (hr' : RefR2 K r' g) (ha : RefE K ta ma) (hb : RefE K tb mb) (hc : RefE K tc mc) :
    RefE K (tChain r r' ta tb tc) (eChain f g ma mb mc) :=
  ⟨fun p H σ α A l α' Q R e h => by
    simp only [eChain, Option.bind_eq_some_iff] at e
    obtain ⟨⟨l1, α1⟩, e1, ⟨l2, α2⟩, e2, a, e3, b, e4, z, e5, e6⟩ := e
    refine ha.go p H σ α A l1 α1 _ R e1 fun p1 H1 A1 v R1 S1 q1 => ?_
    refine hb.go p1 H1 σ α1 A1 l2 α2 _ R1 e2 fun p2 H2 A2 w R2 S2 q2 => ?_
    refine hr p2 H2 v w a b z _ R2.al (res_vz R2 (q1.step R1 S2) e3) (res_vz R2 q2 e4) e5 fun y H3 s q => ?_
    have R3 := R2.same s
    have S3 : Step p2 H2 σ α2 A2 p2 H3 σ α2 A2 := .same s
    split at e6
    · cases q
      simp only [Option.bind_eq_some_iff] at e6
      obtain ⟨⟨l3, α3⟩, e7, b', e8, c, e9, k, e10, e11⟩ := e6
      cases e11
      refine ⟨true, rfl, iteT ?_⟩
      refine hc.go p2 H3 σ α2 A2 l3 α3 _ R3 e7 fun p4 H4 A4 u R4 S4 q4 => ?_
      refine hr' p4 H4 w u b' c k _ R4.al (res_vz R4 ((q2.step R2 S3).step R3 S4) e8) (res_vz R4 q4 e9) e10 fun y H5 s5 q5 => ?_
      exact h p4 H5 A4 y (R4.same s5) (((S1.trans R S2).trans R S3).trans R (S4.trans R3 (.same s5))) q5
    · cases q
      cases e6
      exact ⟨false, rfl, iteF (h p2 H3 A2 _ R3 ((S1.trans R S2).trans R S3) (.bl false))⟩
    · cases e6⟩
end
end Vm

namespace Vm
open PySem PySem.Spec PyProof.Rows L2 Gk
/-! ### targets -/
abbrev MG := Da → AS → Option AS
abbrev MGs := List Da → AS → Option AS
structure RefG (K : PySem.W.Frag) (g : TG) (m : MG) : Prop where
  go : ∀ p H σ α A v x α' Q, Rel K p H σ α A → Dz K p H v x → m x α = some α' →
    (∀ p' H' σ' A', Rel K p' H' σ' α' A' → Step p H σ α A p' H' σ' α' A' → Q σ' H') → g v σ H Q
structure RefGs (K : PySem.W.Frag) (g : TGs) (m : MGs) : Prop where
  go : ∀ p H σ α A v x α' Q, Rel K p H σ α A → DzA K p H v x → m x α = some α' →
    (∀ p' H' σ' A', Rel K p' H' σ' α' A' → Step p H σ α A p' H' σ' α' A' → Q σ' H') → g v σ H Q
/-- slot i holds x from now on -/
def setD (i : Nat) (x : Da) (α : AS) : Option AS := match α[i]? with
  | some r => if r.isFix = true then none else some (α.set i (.d x))
  | none => none
section
variable {K : PySem.W.Frag} {p p' p2 : List Addr} {H H' H2 : Hp} {σ σ' σ2 : L2.St} {α α' α2 α0 : AS} {A A' A2 : FT}
theorem setD_some {i : Nat} {x : Da} (h : setD i x α = some α') : ∃ r, α[i]? = some r ∧ r.isFix = false ∧ α' = α.set i (.d x) := by
  unfold setD at h
  split at h
  · rename_i r e
    split at h
    · cases h
    · rename_i n
      cases h
      exact ⟨r, e, by simpa using n, rfl⟩
  · cases h
theorem rel_setD {i : Nat} {v : V} {x : Da} {r : AV} (R : Rel K p H σ α A) (d : Dz K p H v x) (hi : α[i]? = some r) (hf : r.isFix = false) :
    Rel K p H (σ.set i (some v)) (α.set i (.d x)) (setF A i []) ∧ Step p H σ α A p H (σ.set i (some v)) (α.set i (.d x)) (setF A i []) :=
  ⟨rel_put R hi ⟨rfl, v, rfl, d⟩ .nil (fun _ m => (List.not_mem_nil m).elim) (fun _ m => (List.not_mem_nil m).elim), step_put R hi hf rfl (fun _ m => (List.not_mem_nil m).elim)⟩
theorem ref_gName {i : Nat} : RefG K (gName i) (setD i) := ⟨fun p H σ α A v x α' Q R d e h => by
  obtain ⟨r, e1, e2, rfl⟩ := setD_some e
  have ⟨a, b⟩ := rel_setD R d e1 e2
  exact h p H _ _ a b⟩
def gsNil : MGs := fun xs α => match xs with
  | [] => some α
  | _ => none
def gsCons (m : MG) (r : MGs) : MGs := fun xs α => match xs with
  | x :: ys => (m x α).bind fun β => r ys β
  | [] => none
def gTupD (n : Nat) (m : MGs) : MG := fun x α => match x with
  | .tuple xs => if xs.length = n then m xs α else none
  | _ => none
theorem ref_gNil : RefGs K gNil gsNil := ⟨fun p H σ α A v x α' Q R d e h => by
  cases d with
  | nil => cases e; exact ⟨rfl, h p H σ A R .refl⟩
  | cons _ _ => cases e⟩
theorem ref_gCons {g : TG} {u : TGs} {m : MG} {r : MGs} (hg : RefG K g m) (hu : RefGs K u r) : RefGs K (gCons g u) (gsCons m r) := ⟨fun p H σ α A v x α' Q R d e h => by
  cases d with
  | nil => cases e
  | cons d1 d2 =>
    simp only [gsCons, Option.bind_eq_some_iff] at e
    obtain ⟨β, e1, e2⟩ := e
    refine ⟨_, _, rfl, hg.go p H σ α A _ _ β _ R d1 e1 fun p1 H1 σ1 A1 R1 S1 => ?_⟩
    exact hu.go p1 H1 σ1 β A1 _ _ α' _ R1 (d2.tr (S1.tr R)) e2 fun p2 H2 σ2 A2 R2 S2 => h p2 H2 σ2 A2 R2 (S1.trans R S2)⟩
theorem ref_gTup {n : Nat} {u : TGs} {r : MGs} (hu : RefGs K u r) : RefG K (gTup K n u) (gTupD n r) := ⟨fun p H σ α A v x α' Q R d e h => by
  unfold gTupD at e
  split at e
  · split at e
    · rename_i hn
      cases d with
      | tup hs hl ds =>
        exact ⟨_, _, rfl, .of hs, by rw [ds.length]; exact hn, hu.go p H σ α A _ _ α' _ R ds e h⟩
    · cases e
  · cases e⟩
/-! ### locks: what is walked stays -/
def AV.lock : AV → AV
  | .r _ _ x => .r true true x
  | .n _ _ x => .n true true x
  | q => q
def lockA (α : AS) (is : List Nat) : AS := α.mapIdx fun i r => if i ∈ is then r.lock else r
def freeA (α0 α : AS) (is : List Nat) : AS := α.mapIdx fun i r => if i ∈ is then (α0[i]?).getD r else r
theorem lockA_get {is : List Nat} {i : Nat} : (lockA α is)[i]? = (α[i]?).map fun r => if i ∈ is then r.lock else r := by
  unfold lockA
  rw [List.getElem?_mapIdx]
theorem freeA_get {is : List Nat} {i : Nat} : (freeA α0 α is)[i]? = (α[i]?).map fun r => if i ∈ is then (α0[i]?).getD r else r := by
  unfold freeA
  rw [List.getElem?_mapIdx]
theorem lockA_nil : lockA α [] = α := by
  apply List.ext_getElem?
  intro i
  rw [lockA_get]
  cases α[i]? <;> simp
theorem freeA_nil : freeA α0 α [] = α := by
  apply List.ext_getElem?
  intro i
  rw [freeA_get]
  cases α[i]? <;> simp
theorem slot_lock {o : Option V} {f : List Addr} {r : AV} (h : SlotR K p H o f r) : SlotR K p H o f r.lock := by
  cases r with
  | r a b x => obtain ⟨a, e, rfl, h⟩ := h; exact ⟨a, e, rfl, h.lock⟩
  | n a b x => obtain ⟨a, as, e, rfl, h⟩ := h; exact ⟨a, as, e, rfl, h.lock⟩
  | _ => exact h
theorem rel_lock (R : Rel K p H σ α A) (is : List Nat) : Rel K p H σ (lockA α is) A := by
  refine ⟨by rw [R.len]; simp [lockA], fun i r e => ?_, fun i e => ?_, R.nd, R.dj, R.inp, R.al⟩
  · rw [lockA_get] at e
    obtain ⟨q, e1, rfl⟩ := Option.map_eq_some_iff.mp e
    split
    · exact slot_lock (R.sl i q e1)
    · exact R.sl i q e1
  · rw [lockA_get] at e
    exact R.out i (Option.map_eq_none_iff.mp e)
/-- the slots that may be locked: lists of one's own -/
def Lockable (α : AS) (is : List Nat) : Prop := ∀ i ∈ is, ∃ f l xs, α[i]? = some (.r f l (.list xs))
/-- behind the walk -/
theorem rel_free {is : List Nat} (hl : Lockable α0 is) (S : Step p H σ (lockA α0 is) A p' H' σ' α' A') (R : Rel K p' H' σ' α' A') : Rel K p' H' σ' (freeA α0 α' is) A' := by
  refine ⟨by rw [R.len]; simp [freeA], fun i r e => ?_, fun i e => ?_, R.nd, R.dj, R.inp, R.al⟩
  · rw [freeA_get] at e
    obtain ⟨q, e1, rfl⟩ := Option.map_eq_some_iff.mp e
    split
    · rename_i hi
      obtain ⟨f, l, xs, e2⟩ := hl i hi
      have e3 : (lockA α0 is)[i]? = some (.r true true (.list xs)) := by rw [lockA_get, e2]; simp [hi, AV.lock]
      obtain ⟨_, r', e4, kin⟩ := S.fix i _ e3 rfl
      have e5 := kin.eq rfl
      rw [e4] at e1
      cases e1
      have z := R.sl i _ e4
      rw [e2]
      subst e5
      obtain ⟨a, h1, h2, h3⟩ := z
      exact ⟨a, h1, h2, h3⟩
    · exact R.sl i q e1
  · rw [freeA_get] at e
    exact R.out i (Option.map_eq_none_iff.mp e)
theorem step_free {is : List Nat} (hl : Lockable α0 is) (S : Step p H σ (lockA α0 is) A p' H' σ' α' A') : Step p H σ α0 A p' H' σ' (freeA α0 α' is) A' := by
  have ll : (lockA α0 is).length = α0.length := by simp [lockA]
  refine ⟨S.keep, S.dom, S.new, S.sub, S.mono, by rw [← ll, ← S.ln]; simp [freeA], fun i r e f => ?_, fun i r e f => ?_⟩
  · by_cases hi : i ∈ is
    · obtain ⟨f', l', xs, e2⟩ := hl i hi
      rw [e] at e2
      cases e2
      have e3 : (lockA α0 is)[i]? = some (.r true true (.list xs)) := by rw [lockA_get, e]; simp [hi, AV.lock]
      obtain ⟨es, r', e4, kin⟩ := S.fix i _ e3 rfl
      refine ⟨es, _, ?_, .refl⟩
      rw [freeA_get, e4, e]
      simp [hi]
    · have e3 : (lockA α0 is)[i]? = some r := by rw [lockA_get, e]; simp [hi]
      obtain ⟨es, r', e4, kin⟩ := S.fix i _ e3 f
      refine ⟨es, r', ?_, kin⟩
      rw [freeA_get, e4]
      simp [hi]
  · rw [freeA_get] at e
    obtain ⟨q, e1, rfl⟩ := Option.map_eq_some_iff.mp e
    by_cases hi : i ∈ is
    · rw [if_pos hi] at f
      obtain ⟨f', l', xs, e2⟩ := hl i hi
      rw [e2] at f
      exact ⟨_, e2, f⟩
    · rw [if_neg hi] at f
      obtain ⟨u, e2, f2⟩ := S.nof i q e1 f
      rw [lockA_get] at e2
      obtain ⟨u', e3, rfl⟩ := Option.map_eq_some_iff.mp e2
      rw [if_neg hi] at f2
      exact ⟨u', e3, f2⟩
end
/-! ### what is walked -/
/-- the items stand as long as the locked slots do -/
structure ItR (K : PySem.W.Frag) (p : List Addr) (H : Hp) (σ : L2.St) (α : AS) (J : It) (xs : List Da) (dep : List Nat) : Prop where
  go : ∀ p1 H1 σ1 α1 A1, Rel K p1 H1 σ1 α1 A1 → Tr p H p1 H1 → (∀ i ∈ dep, σ1[i]? = σ[i]? ∧ α1[i]? = (α[i]?).map AV.lock) →
    (∀ n x, xs[n]? = some x → J.go n H1 ∧ ∀ v H2, J.yld n H1 v H2 → Same H1 H2 ∧ Dz K p1 H2 v x) ∧ J.stop xs.length H1
abbrev MI := AS → Option ((List Da × List Nat) × AS)
structure RefI (K : PySem.W.Frag) (w : TI) (m : MI) : Prop where
  go : ∀ p H σ α A x α' R, Rel K p H σ α A → m α = some (x, α') →
    (∀ p' H' A' J, Rel K p' H' σ α' A' → Step p H σ α A p' H' σ α' A' → ItR K p' H' σ α' J x.1 x.2 → Lockable α' x.2 → R J H') → w σ H R
/-- one of two readings -/
def iOr (w u : TI) : TI := fun σ H R => w σ H R ∨ u σ H R
theorem pi_or {X : Cx} {tg e : Expr} {w u : TI} (a : PI X tg e w) (b : PI X tg e u) : PI X tg e (iOr w u) :=
  ⟨fun pins s σ H R I h => h.elim (a.run pins s σ H R I) (b.run pins s σ H R I)⟩
def iLst (ma : ME) : MI := fun α => (ma α).bind fun l => match l.1 with
  | .d (.list xs) => some ((xs, []), l.2)
  | .d _ => none
  | .s i => match l.2[i]? with
    | some (.d (.list xs)) => some ((xs, []), l.2)
    | some (.r _ _ (.list xs)) => some ((xs, [i]), l.2)
    | _ => none
def iTpl (ma : ME) : MI := fun α => (ma α).bind fun l => (own l.2 l.1).bind fun x => match x with
  | .tuple xs => some ((xs, []), l.2)
  | _ => none
def iRg1 (ma : MA) : MI := fun α => (ma α).bind fun l => (resA l.2 l.1).bind fun x => match x with
  | [.int j] => if -(2 ^ 62) ≤ j ∧ j < 2 ^ 62 then some (((List.range j.toNat).map fun (k : Nat) => Da.int (k : Int), []), l.2) else none
  | _ => none
def iRg2 (ma : MA) : MI := fun α => (ma α).bind fun l => (resA l.2 l.1).bind fun x => match x with
  | [.int i, .int j] => if -(2 ^ 62) ≤ i ∧ i < 2 ^ 62 ∧ -(2 ^ 62) ≤ j ∧ j < 2 ^ 62 then some (((List.range (j - i).toNat).map fun (k : Nat) => Da.int (i + (k : Int)), []), l.2) else none
  | _ => none
section
variable {K : PySem.W.Frag} {p p' p2 : List Addr} {H H' H2 : Hp} {σ σ' σ2 : L2.St} {α α' α2 : AS} {A A' A2 : FT}
theorem lockable_nil : Lockable α [] := fun _ m => (List.not_mem_nil m).elim
theorem list_it {a : Addr} {xs : List Da} {dep : List Nat} (st : ∀ p1 H1 σ1 α1 A1, Rel K p1 H1 σ1 α1 A1 → Tr p H p1 H1 → (∀ i ∈ dep, σ1[i]? = σ[i]? ∧ α1[i]? = (α[i]?).map AV.lock) →
      ∃ vs, H1 a = some (.lst vs) ∧ DzA K p1 H1 vs xs) : ItR K p H σ α (Itl K a) xs dep := ⟨fun p2 H2 σ2 α2 A2 R2 t d2 => by
  obtain ⟨ws, hw, ds⟩ := st p2 H2 σ2 α2 A2 R2 t d2
  refine ⟨fun n x hx => ?_, ws, .of hw, by rw [ds.length]; exact Nat.le_refl _⟩
  obtain ⟨y, hy, dy⟩ := ds.get hx
  refine ⟨⟨ws, y, .of hw, hy⟩, fun v H3 z => ?_⟩
  obtain ⟨rfl, z⟩ := z
  have := z ws (.of hw)
  rw [hy] at this
  cases this
  exact ⟨Same.refl _, dy⟩⟩
theorem ref_iList {tl : TE} {ma : ME} (ha : RefE K tl ma) : RefI K (iList K tl) (iLst ma) := ⟨fun p H σ α A x α' Rr R e h => by
  simp only [iLst, Option.bind_eq_some_iff] at e
  obtain ⟨⟨l, α1⟩, e1, e3⟩ := e
  refine ha.go p H σ α A l α1 _ R e1 fun p1 H1 A1 v R1 S1 q1 => ?_
  have data : ∀ xs, Dz K p1 H1 v (.list xs) → ((xs, ([] : List Nat)), α1) = (x, α') → ∃ a, v = .ref a ∧ (∃ xs, SqL K H1 a xs) ∧ Rr (Itl K a) H1 := fun xs d e => by
    cases e
    cases d with
    | lst n r hl ds =>
      exact ⟨_, rfl, ⟨_, .of r⟩, h p1 H1 A1 _ R1 S1 (list_it fun p2 H2 σ2 α2 A2 R2 t _ => ⟨_, t.ls _ _ n r, ds.tr t⟩) lockable_nil⟩
  cases l with
  | d y =>
    dsimp only at e3
    split at e3
    · rename_i xs z; cases z; exact data xs q1 (Option.some.inj e3)
    · cases e3
    · rename_i z; cases z
  | s i =>
    have q' : σ[i]? = some (some v) := q1
    dsimp only at e3
    split at e3
    · rename_i xs e4
      obtain ⟨_, w, e5, d⟩ := R1.sl i _ e4
      rw [join_of q'] at e5
      cases e5
      exact data xs d (Option.some.inj e3)
    · rename_i f lk xs e4
      obtain ⟨a, e5, e6, vs, d1, d2, d3⟩ := R1.sl i _ e4
      rw [join_of q'] at e5
      cases e5
      cases Option.some.inj e3
      refine ⟨a, rfl, ⟨_, .of d1⟩, h p1 H1 A1 _ R1 S1 (list_it fun p2 H2 σ2 α2 A2 R2 t dp => ?_) fun j m => ?_⟩
      · obtain ⟨e7, e8⟩ := dp i (List.mem_singleton.mpr rfl)
        rw [e4] at e8
        obtain ⟨b, e9, _, ws, w1, w2, w3⟩ := R2.sl i _ e8
        rw [e7, join_of q'] at e9
        cases e9
        exact ⟨ws, w1, w3⟩
      · cases List.mem_singleton.mp m
        exact ⟨_, _, _, e4⟩
    · cases e3⟩
theorem ref_iTup {tl : TE} {ma : ME} (ha : RefE K tl ma) : RefI K (iTup K tl) (iTpl ma) := ⟨fun p H σ α A x α' Rr R e h => by
  simp only [iTpl, Option.bind_eq_some_iff] at e
  obtain ⟨⟨l, α1⟩, e1, y, e2, e3⟩ := e
  split at e3
  · rename_i xs
    cases e3
    refine ha.go p H σ α A l α1 _ R e1 fun p1 H1 A1 v R1 S1 q1 => ?_
    cases own_dz R1 q1 e2 with
    | tup hs hl ds =>
      refine ⟨_, rfl, ⟨_, .of hs⟩, h p1 H1 A1 _ R1 S1 ⟨fun p2 H2 σ2 α2 A2 R2 t d2 => ?_⟩ lockable_nil⟩
      have hs2 := SqT.of (K := K) (t.tp _ _ hs)
      have ds2 := ds.tr t
      refine ⟨fun n x hx => ?_, _, hs2, by rw [ds.length]; exact Nat.le_refl _⟩
      obtain ⟨y, hy, dy⟩ := ds2.get hx
      refine ⟨⟨_, y, hs2, hy⟩, fun v H3 z => ?_⟩
      obtain ⟨rfl, z⟩ := z
      have := z _ hs2
      rw [hy] at this
      cases this
      exact ⟨Same.refl _, dy⟩
  · cases e3⟩
theorem itr_ok {lo : Int} {n : Nat} : ItR K p H σ α (Itr lo n) ((List.range n).map fun (k : Nat) => Da.int (lo + (k : Int))) [] := ⟨fun p1 H1 σ1 α1 A1 R1 t d => by
  refine ⟨fun k x hx => ?_, by simp [Itr]⟩
  rw [List.getElem?_map] at hx
  obtain ⟨j, hj, rfl⟩ := Option.map_eq_some_iff.mp hx
  obtain ⟨hlt, e⟩ := List.getElem?_eq_some_iff.mp hj
  rw [List.getElem_range] at e
  subst e
  rw [List.length_range] at hlt
  refine ⟨hlt, fun v H2 z => ?_⟩
  obtain ⟨rfl, rfl⟩ := z
  exact ⟨Same.refl _, .int _⟩⟩
theorem ref_iRg1 {ta : TA} {ma : MA} (ha : RefA K ta ma) : RefI K (iRng1 ta) (iRg1 ma) := ⟨fun p H σ α A x α' Rr R e h => by
  simp only [iRg1, Option.bind_eq_some_iff] at e
  obtain ⟨⟨l, α1⟩, e1, y, e2, e3⟩ := e
  split at e3
  · rename_i j
    split at e3
    · rename_i hj
      cases e3
      refine ha.go p H σ α A l α1 _ R e1 fun p1 H1 A1 v R1 S1 q1 => ?_
      cases resA_vz R1 q1 e2 with
      | cons h1 h2 =>
        cases h2
        cases vz_int h1
        refine ⟨j, rfl, hj.1, hj.2, h p1 H1 A1 _ R1 S1 ?_ lockable_nil⟩
        have := itr_ok (K := K) (p := p1) (H := H1) (σ := σ) (α := α1) (lo := 0) (n := j.toNat)
        simpa using this
    · cases e3
  · cases e3⟩
theorem ref_iRg2 {ta : TA} {ma : MA} (ha : RefA K ta ma) : RefI K (iRng2 ta) (iRg2 ma) := ⟨fun p H σ α A x α' Rr R e h => by
  simp only [iRg2, Option.bind_eq_some_iff] at e
  obtain ⟨⟨l, α1⟩, e1, y, e2, e3⟩ := e
  split at e3
  · rename_i i j
    split at e3
    · rename_i hj
      cases e3
      refine ha.go p H σ α A l α1 _ R e1 fun p1 H1 A1 v R1 S1 q1 => ?_
      cases resA_vz R1 q1 e2 with
      | cons h1 h2 =>
        cases h2 with
        | cons h2 h3 =>
          cases h3
          cases vz_int h1
          cases vz_int h2
          exact ⟨i, j, rfl, hj, h p1 H1 A1 _ R1 S1 itr_ok lockable_nil⟩
    · cases e3
  · cases e3⟩
end
/-- a new own thing: flat or nested -/
inductive Nw where
  | r (x : Da)
  | n (x : Da)
def Nw.av : Nw → AV
  | .r x => .r false false x
  | .n x => .n false false x
def Nw.da : Nw → Da
  | .r x => x
  | .n x => x
def NewR (K : PySem.W.Frag) (p : List Addr) (H : Hp) (a : Addr) (as : List Addr) : Nw → Prop
  | .r x => as = [] ∧ Top K p H false a x
  | .n x => Nest K p H false a as x
/-- as is new: it stood nowhere, and no slot has it -/
structure Fresh (p' : List Addr) (H : Hp) (A' : FT) (as : List Addr) : Prop where
  inp : ∀ b ∈ as, b ∈ p'
  non : ∀ b ∈ as, H b = none
  noA : ∀ b ∈ as, ∀ i, b ∉ A' i
  nd : as.Nodup
/-! ### statements -/
/-- what is handed back: a thing, a new tuple of things, a new own thing -/
inductive RL where
  | one (l : Lc)
  | tup (ls : List Lc)
  | nw (r : Nw)
inductive Out where
  | nx (α : AS)
  | rt (l : RL) (α : AS)
  | bk (α : AS)
  | ct (α : AS)
abbrev MS := AS → Option Out
def RetR (K : PySem.W.Frag) (H0 : Hp) (p : List Addr) (H : Hp) (σ : L2.St) (A : FT) (v : V) : RL → Prop
  | .one l => LocR K p H σ v l
  | .tup ls => ∃ a vs, v = .ref a ∧ H a = some (.tup vs) ∧ vs.length ≤ LIM ∧ LocA K p H σ vs ls
  | .nw r => ∃ a as, v = .ref a ∧ Fresh p H0 A (a :: as) ∧ NewR K p H a as r
def EndsR (K : PySem.W.Frag) (p : List Addr) (H : Hp) (σ : L2.St) (α : AS) (A : FT) (D : Ends) : Out → Prop
  | .nx α' => ∀ p' H' σ' A', Rel K p' H' σ' α' A' → Step p H σ α A p' H' σ' α' A' → D.nx σ' H'
  | .bk α' => ∀ p' H' σ' A', Rel K p' H' σ' α' A' → Step p H σ α A p' H' σ' α' A' → D.bk σ' H'
  | .ct α' => ∀ p' H' σ' A', Rel K p' H' σ' α' A' → Step p H σ α A p' H' σ' α' A' → D.ct σ' H'
  | .rt l α' => ∀ p' H' σ' A' v, Rel K p' H' σ' α' A' → Step p H σ α A p' H' σ' α' A' → RetR K H p' H' σ' A' v l → D.rt v H'
structure RefS (K : PySem.W.Frag) (t : TS) (m : MS) : Prop where
  go : ∀ p H σ α A o D, Rel K p H σ α A → m α = some o → EndsR K p H σ α A D o → t D σ H
section
variable {K : PySem.W.Frag} {p p' p2 : List Addr} {H H' H2 : Hp} {σ σ' σ2 : L2.St} {α α' α2 : AS} {A A' A2 : FT}
theorem RetR.early {H0 H1 : Hp} {v : V} {l : RL} (h : RetR K H1 p H σ A v l) (dom : ∀ b, H1 b = none → H0 b = none) : RetR K H0 p H σ A v l := by
  cases l with
  | one l => exact h
  | tup ls => exact h
  | nw r => obtain ⟨a, as, e, f, n⟩ := h; exact ⟨a, as, e, ⟨f.inp, fun b m => dom b (f.non b m), f.noA, f.nd⟩, n⟩
theorem EndsR.step {D : Ends} {o : Out} (R : Rel K p H σ α A) (S : Step p H σ α A p' H' σ' α' A') (h : EndsR K p H σ α A D o) : EndsR K p' H' σ' α' A' D o := by
  cases o with
  | nx β => exact fun p2 H2 σ2 A2 R2 S2 => h p2 H2 σ2 A2 R2 (S.trans R S2)
  | bk β => exact fun p2 H2 σ2 A2 R2 S2 => h p2 H2 σ2 A2 R2 (S.trans R S2)
  | ct β => exact fun p2 H2 σ2 A2 R2 S2 => h p2 H2 σ2 A2 R2 (S.trans R S2)
  | rt r β =>
    refine fun p2 H2 σ2 A2 v R2 S2 z => h p2 H2 σ2 A2 v R2 (S.trans R S2) ?_
    exact z.early S.dom
def sNext : MS := fun α => some (.nx α)
def sSeq (m n : MS) : MS := fun α => (m α).bind fun o => match o with
  | .nx β => n β
  | o => some o
theorem ref_next : RefS K tNext sNext := ⟨fun p H σ α A o D R e h => by cases e; exact h p H σ A R .refl⟩
theorem ref_seq {t u : TS} {m n : MS} (ht : RefS K t m) (hu : RefS K u n) : RefS K (tSeq t u) (sSeq m n) := ⟨fun p H σ α A o D R e h => by
  simp only [sSeq, Option.bind_eq_some_iff] at e
  obtain ⟨o1, e1, e2⟩ := e
  refine ht.go p H σ α A o1 _ R e1 ?_
  cases o1 with
  | nx β => exact fun p1 H1 σ1 A1 R1 S1 => hu.go p1 H1 σ1 β A1 o D R1 e2 (h.step R S1)
  | bk β => cases e2; exact h
  | ct β => cases e2; exact h
  | rt r β => cases e2; exact h⟩
def sBreak : MS := fun α => some (.bk α)
def sCont : MS := fun α => some (.ct α)
theorem ref_break : RefS K tBreak sBreak := ⟨fun p H σ α A o D R e h => by cases e; exact h p H σ A R .refl⟩
theorem ref_cont : RefS K tCont sCont := ⟨fun p H σ α A o D R e h => by cases e; exact h p H σ A R .refl⟩
def sDrop (m : ME) : MS := fun α => (m α).bind fun x => some (.nx x.2)
theorem ref_drop {te : TE} {m : ME} (he : RefE K te m) : RefS K (tDrop te) (sDrop m) := ⟨fun p H σ α A o D R e h => by
  simp only [sDrop, Option.bind_eq_some_iff] at e
  obtain ⟨⟨l, α1⟩, e1, e2⟩ := e
  cases e2
  exact he.go p H σ α A l α1 _ R e1 fun p1 H1 A1 v R1 S1 _ => h p1 H1 σ A1 R1 S1⟩
def sRet (m : ME) : MS := fun α => (m α).bind fun x => some (.rt (.one x.1) x.2)
def sRetN : MS := fun α => some (.rt (.one (.d .none)) α)
theorem ref_retN : RefS K tRetN sRetN := ⟨fun p H σ α A o D R e h => by cases e; exact h p H σ A .non R .refl .non⟩
theorem ref_ret {te : TE} {m : ME} (he : RefE K te m) : RefS K (tRet te) (sRet m) := ⟨fun p H σ α A o D R e h => by
  simp only [sRet, Option.bind_eq_some_iff] at e
  obtain ⟨⟨l, α1⟩, e1, e2⟩ := e
  cases e2
  exact he.go p H σ α A l α1 _ R e1 fun p1 H1 A1 v R1 S1 q => h p1 H1 σ A1 v R1 S1 q⟩
/-- return a, b: some of them one's own things -/
def sRetT (m : MA) : MS := fun α => (m α).bind fun x => if x.1.length ≤ LIM then some (.rt (.tup x.1) x.2) else none
theorem LocA.length {vs : List V} {ls : List Lc} (h : LocA K p H σ vs ls) : vs.length = ls.length := Paired.length h
theorem LocR.same {v : V} {l : Lc} (s : Same H H') (h : LocR K p H σ v l) : LocR K p H' σ v l := by
  cases l with
  | d x => exact Dz.tr (tr_same s) h
  | s i => exact h
theorem LocA.same {vs : List V} {ls : List Lc} (s : Same H H') (h : LocA K p H σ vs ls) : LocA K p H' σ vs ls := by
  induction h with
  | nil => exact .nil
  | cons h _ ih => exact .cons (LocR.same s h) ih
theorem ref_retT {ta : TA} {m : MA} (ha : RefA K ta m) : RefS K (tRet (tTup ta)) (sRetT m) := ⟨fun p H σ α A o D R e h => by
  simp only [sRetT, Option.bind_eq_some_iff] at e
  obtain ⟨⟨l, α1⟩, e1, e2⟩ := e
  split at e2
  · rename_i hl
    cases e2
    refine ha.go p H σ α A l α1 _ R e1 fun p1 H1 A1 v R1 S1 q => ?_
    have hv : v.length ≤ LIM := by rw [q.length]; exact hl
    refine ⟨line_of hv, fun a ha => ?_⟩
    have s := same_new (o := .tup v) ha
    exact h p1 _ σ A1 _ (R1.same s) (S1.trans R (.same s)) ⟨a, v, rfl, upd_same, hv, q.same s⟩
  · cases e2⟩
def sIf (c : MT) (m n : MS) : MS := fun α => (c α).bind fun x => if x.1 = true then m x.2 else n x.2
theorem ref_ifS {c : TT} {t u : TS} {mc : MT} {m n : MS} (hc : RefT K c mc) (ht : RefS K t m) (hu : RefS K u n) : RefS K (tIfS c t u) (sIf mc m n) := ⟨fun p H σ α A o D R e h => by
  simp only [sIf, Option.bind_eq_some_iff] at e
  obtain ⟨⟨b, α1⟩, e1, e2⟩ := e
  refine hc.go p H σ α A b α1 _ R e1 fun p1 H1 A1 R1 S1 => ?_
  cases b with
  | true => exact iteT (ht.go p1 H1 σ α1 A1 o D R1 e2 (h.step R S1))
  | false => exact iteF (hu.go p1 H1 σ α1 A1 o D R1 (by simpa using e2) (h.step R S1))⟩
/-- x = e, x a name for data -/
def sAsg (m : ME) (g : MG) : MS := fun α => (m α).bind fun x => (own x.2 x.1).bind fun y => (g y x.2).bind fun β => some (.nx β)
theorem ref_asg {te : TE} {g : TG} {m : ME} {mg : MG} (he : RefE K te m) (hg : RefG K g mg) : RefS K (tAsg te g) (sAsg m mg) := ⟨fun p H σ α A o D R e h => by
  simp only [sAsg, Option.bind_eq_some_iff] at e
  obtain ⟨⟨l, α1⟩, e1, y, e2, β, e3, e4⟩ := e
  cases e4
  refine he.go p H σ α A l α1 _ R e1 fun p1 H1 A1 v R1 S1 q => ?_
  exact hg.go p1 H1 σ α1 A1 v y β _ R1 (own_dz R1 q e2) e3 fun p2 H2 σ2 A2 R2 S2 => h p2 H2 σ2 A2 R2 (S1.trans R S2)⟩
/-! ### for -/
def forL (g : MG) (b : MS) : List Da → AS → Option Out
  | [], α => some (.nx α)
  | x :: xs, α => (g x α).bind fun α1 => (b α1).bind fun o => match o with
    | .nx α2 => forL g b xs α2
    | .ct α2 => forL g b xs α2
    | .bk α2 => some (.bk α2)
    | .rt r α2 => some (.rt r α2)
/-- the loop's end, its slots free again -/
def Out.freed (α0 : AS) (is : List Nat) : Out → Out
  | .nx α => .nx (freeA α0 α is)
  | .bk α => .nx (freeA α0 α is)
  | .ct α => .nx (freeA α0 α is)
  | .rt r α => .rt r (freeA α0 α is)
def sForD (i : MI) (g : MG) (b : MS) : MS := fun α => (i α).bind fun x => (forL g b x.1.1 (lockA x.2 x.1.2)).bind fun o => some (o.freed x.2 x.1.2)
/-- the loop, from the i-th turn on -/
def ForW (K : PySem.W.Frag) (p0 : List Addr) (H0 : Hp) (σ0 : L2.St) (α0 : AS) (A0 : FT) (g : MG) (b : MS) (xs : List Da) (o : Out) (i m : Nat) (σ : L2.St) (H : Hp) : Prop :=
  m = xs.length - i ∧ i ≤ xs.length ∧ ∃ p α A, Rel K p H σ α A ∧ Step p0 H0 σ0 α0 A0 p H σ α A ∧ forL g b (xs.drop i) α = some o
theorem dep_of {dep : List Nat} {α0 : AS} (hd : Lockable α0 dep) (S : Step p H σ (lockA α0 dep) A p' H' σ' α' A') : ∀ i ∈ dep, σ'[i]? = σ[i]? ∧ α'[i]? = (α0[i]?).map AV.lock := fun i hi => by
  obtain ⟨f, l, xs, e2⟩ := hd i hi
  have e3 : (lockA α0 dep)[i]? = some (.r true true (.list xs)) := by rw [lockA_get, e2]; simp [hi, AV.lock]
  obtain ⟨es, r', e4, kin⟩ := S.fix i _ e3 rfl
  refine ⟨es, ?_⟩
  rw [e4, kin.eq rfl, e2]
  rfl
theorem ref_for {w : TI} {g : TG} {tb : TS} {mi : MI} {mg : MG} {mb : MS} (hi : RefI K w mi) (hg : RefG K g mg) (hb : RefS K tb mb) : RefS K (tFor w g tb) (sForD mi mg mb) := ⟨fun p H σ α A o D R e h => by
  simp only [sForD, Option.bind_eq_some_iff] at e
  obtain ⟨⟨⟨xs, dep⟩, α1⟩, e1, o1, e2, e3⟩ := e
  cases e3
  refine hi.go p H σ α A (xs, dep) α1 _ R e1 fun p1 H1 A1 J R1 S1 it lkb => ?_
  have RL := rel_lock R1 dep
  refine ⟨ForW K p1 H1 σ (lockA α1 dep) A1 mg mb xs o1, ⟨xs.length, rfl, Nat.zero_le _, p1, _, A1, RL, .refl, e2⟩, ?_⟩
  rintro i m σ2 H2 ⟨rfl, hi', p2, α2, A2, R2, S2, e4⟩
  obtain ⟨yes, stop⟩ := it.go p2 H2 σ2 α2 A2 R2 (S2.tr RL) (dep_of lkb S2)
  by_cases lt : i < xs.length
  · right
    have hx : xs[i]? = some xs[i] := List.getElem?_eq_getElem lt
    obtain ⟨hgo, hy⟩ := yes i _ hx
    refine ⟨hgo, fun σ' H' => ∃ m', m' < xs.length - i ∧ ForW K p1 H1 σ (lockA α1 dep) A1 mg mb xs o1 (i + 1) m' σ' H', fun σ' H' h => h, fun v H3 y => ?_⟩
    obtain ⟨sm, dv⟩ := hy v H3 y
    rw [List.drop_eq_getElem_cons lt] at e4
    simp only [forL, Option.bind_eq_some_iff] at e4
    obtain ⟨α3, e5, o2, e6, e7⟩ := e4
    have R3 := R2.same sm
    have S3 : Step p1 H1 σ (lockA α1 dep) A1 p2 H3 σ2 α2 A2 := S2.trans RL (.same sm)
    refine hg.go p2 H3 σ2 α2 A2 v xs[i] α3 _ R3 dv e5 fun p4 H4 σ4 A4 R4 S4 => ?_
    have S4' := S3.trans RL S4
    refine hb.go p4 H4 σ4 α3 A4 o2 _ R4 e6 ?_
    cases o2 with
    | nx β => exact fun p5 H5 σ5 A5 R5 S5 => ⟨_, by omega, rfl, lt, p5, β, A5, R5, S4'.trans RL S5, e7⟩
    | ct β => exact fun p5 H5 σ5 A5 R5 S5 => ⟨_, by omega, rfl, lt, p5, β, A5, R5, S4'.trans RL S5, e7⟩
    | bk β =>
      cases e7
      exact fun p5 H5 σ5 A5 R5 S5 => h p5 H5 σ5 A5 (rel_free lkb (S4'.trans RL S5) R5) (S1.trans R (step_free lkb (S4'.trans RL S5)))
    | rt r β =>
      cases e7
      exact fun p5 H5 σ5 A5 v R5 S5 z => h p5 H5 σ5 A5 v (rel_free lkb (S4'.trans RL S5) R5) (S1.trans R (step_free lkb (S4'.trans RL S5))) (z.early fun b q => S1.dom b (S4'.dom b q))
  · left
    have ei : i = xs.length := by omega
    subst ei
    rw [List.drop_length] at e4
    cases e4
    exact ⟨stop, h p2 H2 σ2 A2 (rel_free lkb S2 R2) (S1.trans R (step_free lkb S2))⟩⟩
/-! ### while -/
def whileN (c : MT) (b : MS) : Nat → AS → Option Out
  | 0, _ => none
  | n + 1, α => (c α).bind fun x => if x.1 = true then (b x.2).bind fun o => match o with
      | .nx β => whileN c b n β
      | .ct β => whileN c b n β
      | .bk β => some (.nx β)
      | .rt r β => some (.rt r β)
    else some (.nx x.2)
open Classical in
/-- as many turns as are needed -/
noncomputable def sWhile (c : MT) (b : MS) : MS := fun α => if h : ∃ n, (whileN c b n α).isSome = true then whileN c b h.choose α else none
def WhW (K : PySem.W.Frag) (p0 : List Addr) (H0 : Hp) (σ0 : L2.St) (α0 : AS) (A0 : FT) (c : MT) (b : MS) (o : Out) (m : Nat) (σ : L2.St) (H : Hp) : Prop :=
  ∃ p α A, Rel K p H σ α A ∧ Step p0 H0 σ0 α0 A0 p H σ α A ∧ whileN c b m α = some o
theorem ref_whileN {c : TT} {tb : TS} {mc : MT} {mb : MS} (n : Nat) (hc : RefT K c mc) (hb : RefS K tb mb) : RefS K (tWhile c tb) (whileN mc mb n) := ⟨fun p H σ α A o D R e h => by
  refine ⟨WhW K p H σ α A mc mb o, ⟨n, p, α, A, R, .refl, e⟩, ?_⟩
  rintro m σ1 H1 ⟨p1, α1, A1, R1, S1, e1⟩
  cases m with
  | zero => cases e1
  | succ m =>
    simp only [whileN, Option.bind_eq_some_iff] at e1
    obtain ⟨⟨b, α2⟩, e2, e3⟩ := e1
    refine hc.go p1 H1 σ1 α1 A1 b α2 _ R1 e2 fun p2 H2 A2 R2 S2 => ?_
    have S12 := S1.trans R S2
    cases b with
    | true =>
      refine iteT ⟨fun σ' H' => ∃ m', m' < m + 1 ∧ WhW K p H σ α A mc mb o m' σ' H', fun σ' H' z => z, ?_⟩
      simp only [if_true, Option.bind_eq_some_iff] at e3
      obtain ⟨o2, e4, e5⟩ := e3
      refine hb.go p2 H2 σ1 α2 A2 o2 _ R2 e4 ?_
      cases o2 with
      | nx β => exact fun p3 H3 σ3 A3 R3 S3 => ⟨m, Nat.lt_succ_self m, p3, β, A3, R3, S12.trans R S3, e5⟩
      | ct β => exact fun p3 H3 σ3 A3 R3 S3 => ⟨m, Nat.lt_succ_self m, p3, β, A3, R3, S12.trans R S3, e5⟩
      | bk β => cases e5; exact fun p3 H3 σ3 A3 R3 S3 => h p3 H3 σ3 A3 R3 (S12.trans R S3)
      | rt r β => cases e5; exact fun p3 H3 σ3 A3 v R3 S3 z => h p3 H3 σ3 A3 v R3 (S12.trans R S3) (z.early S12.dom)
    | false =>
      simp at e3
      subst e3
      exact iteF (h p2 H2 σ1 A2 R2 S12)⟩
theorem ref_while {c : TT} {tb : TS} {mc : MT} {mb : MS} (hc : RefT K c mc) (hb : RefS K tb mb) : RefS K (tWhile c tb) (sWhile mc mb) := ⟨fun p H σ α A o D R e h => by
  unfold sWhile at e
  split at e
  · exact (ref_whileN _ hc hb).go p H σ α A o D R e h
  · cases e⟩
theorem whileN_mono {c : MT} {b : MS} {o : Out} : ∀ {n : Nat} {α : AS} (k : Nat), whileN c b n α = some o → whileN c b (n + k) α = some o
  | 0, _, _, e => by cases e
  | n + 1, α, k, e => by
    rw [show n + 1 + k = (n + k) + 1 from by omega]
    simp only [whileN, Option.bind_eq_some_iff] at e ⊢
    obtain ⟨x, e1, e2⟩ := e
    refine ⟨x, e1, ?_⟩
    split at e2
    · rename_i hx
      rw [if_pos hx]
      simp only [Option.bind_eq_some_iff] at e2 ⊢
      obtain ⟨o1, e3, e4⟩ := e2
      refine ⟨o1, e3, ?_⟩
      cases o1 with
      | nx β => exact whileN_mono k e4
      | ct β => exact whileN_mono k e4
      | bk β => exact e4
      | rt r β => exact e4
    · rename_i hx
      rw [if_neg hx]
      exact e2
theorem sWhile_of {c : MT} {b : MS} {o : Out} {n : Nat} {α : AS} (e : whileN c b n α = some o) : sWhile c b α = some o := by
  have h : ∃ n, (whileN c b n α).isSome = true := ⟨n, by rw [e]; rfl⟩
  unfold sWhile
  rw [dif_pos h]
  obtain ⟨o', e'⟩ := Option.isSome_iff_exists.mp h.choose_spec
  have a1 := whileN_mono n e'
  have a2 := whileN_mono h.choose e
  rw [Nat.add_comm] at a2
  rw [e', ← a1, a2]
end
end Vm

namespace Vm
open PySem PySem.Spec PyProof.Rows L2 Gk
section
variable {K : PySem.W.Frag} {p p' p2 : List Addr} {H H' H2 : Hp} {σ σ' σ2 : L2.St} {α α' α2 α0 : AS} {A A' A2 A0 : FT}
/-! ### the block of a comprehension -/
def wipeA (α : AS) : List Nat → AS
  | [] => α
  | v :: vs => (wipeA α vs).set v .un
theorem wipeA_length : ∀ vs : List Nat, (wipeA α vs).length = α.length
  | [] => rfl
  | v :: vs => by unfold wipeA; rw [List.length_set, wipeA_length vs]
theorem wipeA_get {i : Nat} : ∀ vs : List Nat, (wipeA α vs)[i]? = if i ∈ vs then (α[i]?).map fun _ => AV.un else α[i]?
  | [] => by simp [wipeA]
  | v :: vs => by
    unfold wipeA
    by_cases e : i = v
    · subst e
      rw [if_pos (List.mem_cons_self ..)]
      by_cases h : i < α.length
      · rw [List.getElem?_set_self (by rw [wipeA_length]; exact h), List.getElem?_eq_getElem h]
        rfl
      · have h1 : α[i]? = none := List.getElem?_eq_none_iff.mpr (by omega)
        rw [h1, List.getElem?_eq_none_iff.mpr (by rw [List.length_set, wipeA_length]; omega)]
        rfl
    · rw [List.getElem?_set_ne (fun z => e z.symm), wipeA_get vs]
      by_cases h : i ∈ vs
      · rw [if_pos h, if_pos (List.mem_cons_of_mem _ h)]
      · rw [if_neg h, if_neg (fun z => (List.mem_cons.mp z).elim e h)]
theorem wipe_get {i : Nat} : ∀ vs : List Nat, (wipe σ vs)[i]? = if i ∈ vs then (σ[i]?).map fun _ => none else σ[i]?
  | [] => by simp [wipe]
  | v :: vs => by
    unfold wipe
    by_cases e : i = v
    · subst e
      rw [if_pos (List.mem_cons_self ..)]
      by_cases h : i < σ.length
      · rw [List.getElem?_set_self (by rw [wipe_length]; exact h), List.getElem?_eq_getElem h]
        rfl
      · have h1 : σ[i]? = none := List.getElem?_eq_none_iff.mpr (by omega)
        rw [h1, List.getElem?_eq_none_iff.mpr (by rw [List.length_set, wipe_length]; omega)]
        rfl
    · rw [List.getElem?_set_ne (fun z => e z.symm), wipe_get vs]
      by_cases h : i ∈ vs
      · rw [if_pos h, if_pos (List.mem_cons_of_mem _ h)]
      · rw [if_neg h, if_neg (fun z => (List.mem_cons.mp z).elim e h)]
theorem wipe_wipe (vs : List Nat) : wipe (wipe σ vs) vs = wipe σ vs := by
  apply List.ext_getElem?
  intro i
  rw [wipe_get, wipe_get]
  by_cases h : i ∈ vs
  · rw [if_pos h, if_pos h, Option.map_map]
    rfl
  · rw [if_neg h, if_neg h]
/-- what stands in the own slots of a block is let be -/
def backA (α0 α : AS) (vs : List Nat) : AS := α.mapIdx fun i r => if i ∈ vs then (α0[i]?).getD .un else r
theorem backA_get {vs : List Nat} {i : Nat} : (backA α0 α vs)[i]? = (α[i]?).map fun r => if i ∈ vs then (α0[i]?).getD .un else r := by
  unfold backA
  rw [List.getElem?_mapIdx]
def noRoots (α : AS) (vs : List Nat) : Prop := ∀ i ∈ vs, ∀ r, α[i]? = some r → r.isRoot = false
instance : Decidable (noRoots α vs) := by
  have : noRoots α vs ↔ ∀ i ∈ vs, ((α[i]?).all fun r => !r.isRoot) = true := by
    unfold noRoots
    constructor
    · intro h i m
      cases e : α[i]? with
      | none => rfl
      | some r => simp [h i m r e]
    · intro h i m r e
      have := h i m
      rw [e] at this
      simpa using this
  exact decidable_of_iff' _ this
def noFix (α : AS) (vs : List Nat) : Prop := ∀ i ∈ vs, ∀ r, α[i]? = some r → r.isFix = false
def wipeF (A : FT) (vs : List Nat) : FT := fun i => if i ∈ vs then [] else A i
theorem wipeF_mem {vs : List Nat} {i : Nat} {a : Addr} (h : a ∈ wipeF A vs i) : i ∉ vs ∧ a ∈ A i := by
  unfold wipeF at h
  split at h
  · exact (List.not_mem_nil h).elim
  · exact ⟨by assumption, h⟩
theorem rel_wipe (R : Rel K p H σ α A) (vs : List Nat) : Rel K p H (wipe σ vs) (wipeA α vs) (wipeF A vs) := by
  refine ⟨by rw [wipe_length, wipeA_length, R.len], fun i r h2 => ?_, fun i h => ?_, fun i => ?_, fun i j a h1 h2 => R.dj i j a (wipeF_mem h1).2 (wipeF_mem h2).2, fun i a h => R.inp i a (wipeF_mem h).2, R.al⟩
  · rw [wipeA_get] at h2
    split at h2
    · rename_i m
      obtain ⟨_, _, rfl⟩ := Option.map_eq_some_iff.mp h2
      show wipeF A vs i = []
      unfold wipeF
      rw [if_pos m]
    · rename_i n
      have e : wipeF A vs i = A i := by unfold wipeF; rw [if_neg n]
      rw [e, wipe_get, if_neg n]
      exact R.sl i r h2
  · unfold wipeF
    split
    · rfl
    · rename_i n
      rw [wipeA_get, if_neg n] at h
      exact R.out i h
  · unfold wipeF
    split
    · exact .nil
    · exact R.nd i
theorem step_wipe (vs : List Nat) (hn : noFix α vs) : Step p H σ α A p H (wipe σ vs) (wipeA α vs) (wipeF A vs) := by
  refine ⟨fun _ _ h _ => .inl h, fun _ h => h, fun i b h => .inl (wipeF_mem h).2, fun _ h => .inl h, fun _ h => .inl h, wipeA_length vs, fun i r h f => ?_, fun i r h f => ?_⟩
  · have n : i ∉ vs := fun m => by
      have := hn i m r h
      rw [f] at this
      cases this
    rw [wipe_get, wipeA_get, if_neg n, if_neg n]
    exact ⟨rfl, r, h, .refl⟩
  · rw [wipeA_get] at h
    split at h
    · obtain ⟨_, _, rfl⟩ := Option.map_eq_some_iff.mp h
      cases f
    · exact ⟨r, h, f⟩
/-- behind a block: the slots are the def's again -/
theorem rel_back {vs : List Nat} (R0 : Rel K p H σ α0 A0) (hn : noRoots α0 vs) (S : Step p H (wipe σ vs) (wipeA α0 vs) (wipeF A0 vs) p' H' σ' α' A') (R : Rel K p' H' σ' α' A') (hw : wipe σ' vs = wipe σ vs) :
    Rel K p' H' σ (backA α0 α' vs) (wipeF A' vs) ∧ Step p H σ α0 A0 p' H' σ (backA α0 α' vs) (wipeF A' vs) := by
  have hlen : σ'.length = σ.length := by
    have := congrArg List.length hw
    rwa [wipe_length, wipe_length] at this
  have hla : α'.length = α0.length := by rw [S.ln, wipeA_length]
  have same : ∀ i, i ∉ vs → σ'[i]? = σ[i]? := fun i n => by
    have := congrArg (fun l => l[i]?) hw
    simp only [wipe_get, if_neg n] at this
    exact this
  have t := S.tr (rel_wipe R0 vs)
  refine ⟨⟨by rw [R0.len]; unfold backA; rw [List.length_mapIdx, hla], fun i r h2 => ?_, fun i h => ?_, fun i => ?_, fun i j a h1 h2 => R.dj i j a (wipeF_mem h1).2 (wipeF_mem h2).2, fun i a h => R.inp i a (wipeF_mem h).2, R.al⟩,
    ⟨fun b o h n => S.keep b o h fun i z => n i (wipeF_mem z).2, S.dom, fun i b h => ?_, S.sub, fun b m => ?_, by unfold backA; rw [List.length_mapIdx, hla], fun i r h f => ?_, fun i r h f => ?_⟩⟩
  · rw [backA_get] at h2
    obtain ⟨s, e1, e2⟩ := Option.map_eq_some_iff.mp h2
    split at e2
    · rename_i m
      have e : wipeF A' vs i = [] := by unfold wipeF; rw [if_pos m]
      rw [e]
      cases q : α0[i]? with
      | none => rw [q] at e2; subst e2; rfl
      | some u =>
        rw [q] at e2
        have e3 : u = r := e2
        subst e3
        have z := R0.sl i u q
        have nr := hn i m u q
        cases u with
        | un => rfl
        | d x => obtain ⟨_, v, e, d⟩ := z; exact ⟨rfl, v, e, d.tr t⟩
        | r f l xs => cases nr
        | n f l xs => cases nr
        | sc ns =>
          obtain ⟨_, a, e, sq⟩ := z
          rcases sq with ⟨na, sq⟩ | sq
          · exact ⟨rfl, a, e, .inl ⟨(t.mt a _ na sq).2, (t.mt a _ na sq).1⟩⟩
          · exact ⟨rfl, a, e, .inr sq⟩
    · rename_i n
      subst e2
      have e : wipeF A' vs i = A' i := by unfold wipeF; rw [if_neg n]
      rw [e, ← same i n]
      exact R.sl i s e1
  · unfold wipeF
    split
    · rfl
    · rw [backA_get] at h
      exact R.out i (Option.map_eq_none_iff.mp h)
  · unfold wipeF
    split
    · exact .nil
    · exact R.nd i
  · rcases S.new i b (wipeF_mem h).2 with y | y
    · exact .inl (wipeF_mem y).2
    · exact .inr y
  · rcases S.mono b m with z | ⟨i, z⟩
    · exact .inl z
    · exact .inr ⟨i, (wipeF_mem z).2⟩
  · have n : i ∉ vs := fun m => by
      have := hn i m r h
      rw [isRoot_of_isFix f] at this
      cases this
    have h' : (wipeA α0 vs)[i]? = some r := by rw [wipeA_get, if_neg n]; exact h
    obtain ⟨e1, s, e2, e3⟩ := S.fix i r h' f
    exact ⟨rfl, s, by rw [backA_get, e2]; simp only [Option.map_some, if_neg n], e3⟩
  · rw [backA_get] at h
    obtain ⟨s, e1, e2⟩ := Option.map_eq_some_iff.mp h
    split at e2
    · cases q : α0[i]? with
      | none => rw [q] at e2; subst e2; cases f
      | some u => rw [q] at e2; have e3 : u = r := e2; subst e3; exact ⟨u, rfl, f⟩
    · rename_i n
      subst e2
      obtain ⟨u, e3, f3⟩ := S.nof i s e1 f
      rw [wipeA_get, if_neg n] at e3
      exact ⟨u, e3, f3⟩
/-! targets of a block: they set its own slots alone -/
structure RefB (K : PySem.W.Frag) (g : TG) (m : MG) (vs : List Nat) : Prop where
  go : ∀ p H σ α A v x α' Q, Rel K p H σ α A → Dz K p H v x → m x α = some α' →
    (∀ σ' A', Rel K p H σ' α' A' → Step p H σ α A p H σ' α' A' → wipe σ' vs = wipe σ vs → Q σ' H) → g v σ H Q
structure RefBs (K : PySem.W.Frag) (g : TGs) (m : MGs) (vs : List Nat) : Prop where
  go : ∀ p H σ α A v x α' Q, Rel K p H σ α A → DzA K p H v x → m x α = some α' →
    (∀ σ' A', Rel K p H σ' α' A' → Step p H σ α A p H σ' α' A' → wipe σ' vs = wipe σ vs → Q σ' H) → g v σ H Q
theorem wipe_set {i : Nat} {vs : List Nat} (hi : i ∈ vs) (v : Option V) : wipe (σ.set i v) vs = wipe σ vs := by
  apply List.ext_getElem?
  intro j
  rw [wipe_get, wipe_get]
  by_cases e : j = i
  · subst e
    rw [if_pos hi, if_pos hi]
    by_cases h : j < σ.length
    · rw [List.getElem?_set_self h, List.getElem?_eq_getElem h]
      rfl
    · rw [List.getElem?_eq_none_iff.mpr (by rw [List.length_set]; omega), List.getElem?_eq_none_iff.mpr (by omega)]
  · rw [List.getElem?_set_ne (fun z => e z.symm)]
theorem ref_bName {i : Nat} {vs : List Nat} (hi : i ∈ vs) : RefB K (gName i) (setD i) vs := ⟨fun p H σ α A v x α' Q R d e h => by
  obtain ⟨r, e1, e2, rfl⟩ := setD_some e
  have ⟨a, b⟩ := rel_setD R d e1 e2
  exact h _ _ a b (wipe_set hi _)⟩
theorem ref_bNil {vs : List Nat} : RefBs K gNil gsNil vs := ⟨fun p H σ α A v x α' Q R d e h => by
  cases d with
  | nil => cases e; exact ⟨rfl, h σ A R .refl rfl⟩
  | cons _ _ => cases e⟩
theorem ref_bCons {g : TG} {u : TGs} {m : MG} {r : MGs} {vs : List Nat} (hg : RefB K g m vs) (hu : RefBs K u r vs) : RefBs K (gCons g u) (gsCons m r) vs := ⟨fun p H σ α A v x α' Q R d e h => by
  cases d with
  | nil => cases e
  | cons d1 d2 =>
    simp only [gsCons, Option.bind_eq_some_iff] at e
    obtain ⟨β, e1, e2⟩ := e
    refine ⟨_, _, rfl, hg.go p H σ α A _ _ β _ R d1 e1 fun σ1 A1 R1 S1 w1 => ?_⟩
    exact hu.go p H σ1 β A1 _ _ α' _ R1 d2 e2 fun σ2 A2 R2 S2 w2 => h σ2 A2 R2 (S1.trans R S2) (w2.trans w1)⟩
theorem ref_bTup {n : Nat} {u : TGs} {r : MGs} {vs : List Nat} (hu : RefBs K u r vs) : RefB K (gTup K n u) (gTupD n r) vs := ⟨fun p H σ α A v x α' Q R d e h => by
  unfold gTupD at e
  split at e
  · split at e
    · rename_i hn
      cases d with
      | tup hs hl ds => exact ⟨_, _, rfl, .of hs, by rw [ds.length]; exact hn, hu.go p H σ α A _ _ α' _ R ds e h⟩
    · cases e
  · cases e⟩
def tYesM : MT := fun α => some (true, α)
theorem ref_yes : RefT K tYes tYesM := ⟨fun p H σ α A b α' Q R e h => by cases e; exact h p H A R .refl⟩
/-! ### new things -/
def HO.noTup : HO → Prop
  | .tup _ => False
  | _ => True
theorem tr_upd {a : Addr} {o o' : HO} (hp : a ∈ p) (ho : H a = some o) (hn : HO.noTup o) : Tr p H p (L2.upd H a o') := by
  have ne : ∀ b, b ∉ p → b ≠ a := fun b n e => n (e ▸ hp)
  refine ⟨fun b u n r => ⟨Rd.same (fun o e => by rw [upd_ne (ne b n)]; exact e) r, n⟩, fun b xs n r => by rw [upd_ne (ne b n)]; exact r, fun b xs r => ?_, fun b o u n r => by rw [upd_ne (ne b n)]; exact r⟩
  by_cases e : b = a
  · subst e; rw [ho] at r; cases r; exact hn.elim
  · rw [upd_ne e]; exact r
theorem rel_upd {a : Addr} {o o' : HO} (R : Rel K p H σ α A) (hp : a ∈ p) (ho : H a = some o) (hn : HO.noTup o) (nr : ∀ i, a ∉ A i) : Rel K p (L2.upd H a o') σ α A :=
  ⟨R.len, fun i r e => (R.sl i r e).tr (tr_upd hp ho hn) fun c m u q => by rw [upd_ne (fun z => by subst z; exact nr i m)]; exact q, R.out, R.nd, R.dj, R.inp, fun b m z => by
    by_cases e : b = a
    · subst e; rw [upd_same] at z; cases z
    · rw [upd_ne e] at z; exact R.al b m z⟩
theorem Step.upd {a : Addr} {o : HO} (S : Step p H σ α A p' H' σ' α' A') (h : H a = none) : Step p H σ α A p' (L2.upd H' a o) σ' α' A' :=
  ⟨fun b u e n => by
    have ne : b ≠ a := fun z => by rw [z, h] at e; cases e
    rcases S.keep b u e n with z | ⟨z1, z2, od, z3⟩
    · exact .inl (by rw [upd_ne ne]; exact z)
    · exact .inr ⟨z1, z2, od, by rw [upd_ne ne]; exact z3⟩, fun b e => by
    by_cases z : b = a
    · subst z; rw [upd_same] at e; cases e
    · rw [upd_ne z] at e; exact S.dom b e, S.new, S.sub, S.mono, S.ln, S.fix, S.nof⟩
theorem rel_new {a : Addr} {o : HO} (R : Rel K p H σ α A) (h : H a = none) : Rel K (a :: p) (L2.upd H a o) σ α A ∧ Step p H σ α A (a :: p) (L2.upd H a o) σ α A ∧ ∀ i, a ∉ A i := by
  have na : ∀ i, a ∉ A i := fun i m => R.in_al m h
  have s := same_new (o := o) h
  refine ⟨⟨R.len, fun i r e => (R.sl i r e).tr (tr_new h s) fun c m u q => s c u q, R.out, R.nd, R.dj, fun i b m => List.mem_cons_of_mem _ (R.inp i b m), fun b m z => ?_⟩,
    ⟨fun b u e _ => .inl (s b u e), fun b e => Same.free s e, fun i b m => .inl m, fun b m => ?_, fun b m => .inl (List.mem_cons_of_mem _ m), rfl, fun i r e f => ⟨rfl, r, e, .refl⟩, fun i r e f => ⟨r, e, f⟩⟩, na⟩
  · rcases List.mem_cons.mp m with e | m
    · subst e; rw [upd_same] at z; cases z
    · exact R.al b m (Same.free s z)
  · rcases List.mem_cons.mp m with e | m
    · exact .inr (e ▸ h)
    · exact .inl m
abbrev MF := AS → Option (Nw × AS)
structure RefF (K : PySem.W.Frag) (t : TE) (m : MF) : Prop where
  go : ∀ p H σ α A r α' Q, Rel K p H σ α A → m α = some (r, α') →
    (∀ p' H' A' a as, Rel K p' H' σ α' A' → Step p H σ α A p' H' σ α' A' → Fresh p' H A' (a :: as) → NewR K p' H' a as r → Q (.ref a) H') → t σ H Q
/-- an own thing becomes data -/
theorem Top.frz {a : Addr} {x : Da} {q : List Addr} {lk : Bool} (h : Top K p H lk a x) (l : ∀ b ∈ q, b ∈ p) (n : a ∉ q) : Dz K q H (.ref a) x := by
  have t := tr_less (H := H) l
  cases x with
  | list xs => obtain ⟨vs, h1, h2, h3⟩ := h; exact .lst n h1 h2 (h3.tr t)
  | dk xs => obtain ⟨vs, h1, h2, h3⟩ := h; exact .dk n h1.rd h2 (h3.tr t)
  | dt xs => obtain ⟨vs, h1, h2, h3⟩ := h; exact .dt n h1.rd h2 (h3.tr t)
  | _ => exact h.elim
theorem KidsK.frz {q : List Addr} (l : ∀ b ∈ q, b ∈ p) : ∀ {r : List (Key × V)} {s : List (Key × Da)} {as : List Addr}, (∀ b ∈ as, b ∉ q) → KidsK K p H r s as → DzK K q H r s
  | _, _, _, _, .nil => .nil
  | _, _, _, k, .cons h1 h2 h3 => .cons h1 (h2.frz l (k _ (List.mem_cons_self ..))) (KidsK.frz l (fun b m => k b (List.mem_cons_of_mem _ m)) h3)
theorem KidsT.frz {q : List Addr} (l : ∀ b ∈ q, b ∈ p) : ∀ {r : List (List Key × V)} {s : List (List Key × Da)} {as : List Addr}, (∀ b ∈ as, b ∉ q) → KidsT K p H r s as → DzT K q H r s
  | _, _, _, _, .nil => .nil
  | _, _, _, k, .cons h1 h2 h3 => .cons h1 (h2.frz l (k _ (List.mem_cons_self ..))) (KidsT.frz l (fun b m => k b (List.mem_cons_of_mem _ m)) h3)
theorem Nest.frz {a : Addr} {as : List Addr} {x : Da} {q : List Addr} {lk : Bool} (h : Nest K p H lk a as x) (l : ∀ b ∈ q, b ∈ p) (n : ∀ b ∈ a :: as, b ∉ q) : Dz K q H (.ref a) x := by
  cases x with
  | dk xs => obtain ⟨vs, h1, h2, h3⟩ := h; exact .dk (n a (List.mem_cons_self ..)) h1.rd h2 (h3.frz l fun b m => n b (List.mem_cons_of_mem _ m))
  | dt xs => obtain ⟨vs, h1, h2, h3⟩ := h; exact .dt (n a (List.mem_cons_self ..)) h1.rd h2 (h3.frz l fun b m => n b (List.mem_cons_of_mem _ m))
  | _ => exact h.elim
/-- some addresses that no slot has are let go -/
theorem rel_drop {as : List Addr} (R : Rel K p H σ α A) (na : ∀ b ∈ as, ∀ i, b ∉ A i) : Rel K (p.filter fun b => decide (b ∉ as)) H σ α A := by
  have less : ∀ b ∈ p.filter (fun b => decide (b ∉ as)), b ∈ p := fun b m => (List.mem_filter.mp m).1
  exact ⟨R.len, fun i r e => (R.sl i r e).tr (tr_less less) fun c _ u q => q, R.out, R.nd, R.dj, fun i b m => List.mem_filter.mpr ⟨R.inp i b m, decide_eq_true fun z => na b z i m⟩, fun b m => R.al b (less b m)⟩
def eF (m : MF) : ME := fun α => (m α).bind fun x => some (.d x.1.da, x.2)
theorem ref_F {t : TE} {m : MF} (hf : RefF K t m) : RefE K t (eF m) := ⟨fun p H σ α A l α' Q R e h => by
  simp only [eF, Option.bind_eq_some_iff] at e
  obtain ⟨⟨r, α1⟩, e1, e3⟩ := e
  cases e3
  refine hf.go p H σ α A r α1 _ R e1 fun p1 H1 A1 a as R1 S1 fr nw => ?_
  have less : ∀ b ∈ p1.filter (fun b => decide (b ∉ a :: as)), b ∈ p1 := fun b m => (List.mem_filter.mp m).1
  have nin : ∀ b ∈ a :: as, b ∉ p1.filter (fun b => decide (b ∉ a :: as)) := fun b m z => by
    have := (List.mem_filter.mp z).2
    exact of_decide_eq_true this m
  refine h _ H1 A1 (.ref a) (rel_drop R1 fr.noA) ⟨S1.keep, S1.dom, S1.new, fun b m => S1.sub b (less b m), fun b m => ?_, S1.ln, S1.fix, S1.nof⟩ ?_
  · rcases S1.mono b m with z | z
    · exact .inl (List.mem_filter.mpr ⟨z, decide_eq_true fun y => R.al b m (fr.non b y)⟩)
    · exact .inr z
  · cases r with
    | r x => exact nw.2.frz less (nin a (List.mem_cons_self ..))
    | n x => exact nw.frz less nin⟩
/-- x = a new thing that x alone holds -/
def setR (i : Nat) (r : Nw) (α : AS) : Option AS := match α[i]? with
  | some q => if q.isFix = true then none else some (α.set i r.av)
  | none => none
def sAsgR (i : Nat) (m : MF) : MS := fun α => (m α).bind fun x => (setR i x.1 x.2).bind fun β => some (.nx β)
theorem setR_some {i : Nat} {x : Nw} (h : setR i x α = some α') : ∃ r, α[i]? = some r ∧ r.isFix = false ∧ α' = α.set i x.av := by
  unfold setR at h
  split at h
  · rename_i r e
    split at h
    · cases h
    · rename_i n
      cases h
      exact ⟨r, e, by simpa using n, rfl⟩
  · cases h
theorem new_slot {a : Addr} {as : List Addr} {r : Nw} (nw : NewR K p H a as r) : SlotR K p H (some (.ref a)) (a :: as) r.av := by
  cases r with
  | r x => obtain ⟨rfl, t⟩ := nw; exact ⟨a, rfl, rfl, t⟩
  | n x => exact ⟨a, as, rfl, rfl, nw⟩
theorem av_fix (r : Nw) : r.av.isFix = false := by cases r <;> rfl
theorem rel_setR {i : Nat} {q : AV} {r : Nw} {a : Addr} {as : List Addr} (R : Rel K p H σ α A) (R1 : Rel K p' H' σ α' A') (S1 : Step p H σ α A p' H' σ α' A') (fr : Fresh p' H A' (a :: as)) (nw : NewR K p' H' a as r) (hi : α'[i]? = some q) (hf : q.isFix = false) :
    Rel K p' H' (σ.set i (some (.ref a))) (α'.set i r.av) (setF A' i (a :: as)) ∧ Step p H σ α A p' H' (σ.set i (some (.ref a))) (α'.set i r.av) (setF A' i (a :: as)) := by
  refine ⟨rel_put R1 hi (new_slot nw) fr.nd fr.inp fun b m j _ => fr.noA b m j, ?_⟩
  have hia : i < α'.length := (List.getElem?_eq_some_iff.mp hi).1
  refine ⟨S1.keep, S1.dom, fun j b m => ?_, S1.sub, S1.mono, by rw [List.length_set]; exact S1.ln, fun j s e g => ?_, fun j s e g => ?_⟩
  · rcases setF_mem m with ⟨_, m⟩ | ⟨_, m⟩
    · exact .inr (fr.non b m)
    · exact S1.new j b m
  · obtain ⟨e1, s1, e2, k⟩ := S1.fix j s e g
    have ne : j ≠ i := fun z => by subst z; rw [hi] at e2; cases e2; rw [k.fx, g] at hf; cases hf
    rw [List.getElem?_set_ne (fun z => ne z.symm), List.getElem?_set_ne (fun z => ne z.symm)]
    exact ⟨rfl, s1, e2, k⟩
  · by_cases z : j = i
    · subst z
      rw [List.getElem?_set_self hia] at e
      cases e
      rw [av_fix] at g; cases g
    · rw [List.getElem?_set_ne (fun y => z y.symm)] at e
      exact S1.nof j s e g
theorem ref_asgR {t : TE} {m : MF} {i : Nat} (hf : RefF K t m) : RefS K (tAsg t (gName i)) (sAsgR i m) := ⟨fun p H σ α A o D R e h => by
  simp only [sAsgR, Option.bind_eq_some_iff] at e
  obtain ⟨⟨r, α1⟩, e1, β, e2, e3⟩ := e
  cases e3
  obtain ⟨q, e4, e5, rfl⟩ := setR_some e2
  refine hf.go p H σ α A r α1 _ R e1 fun p1 H1 A1 a as R1 S1 fr nw => ?_
  have ⟨R2, S2⟩ := rel_setR R R1 S1 fr nw e4 e5
  exact h p1 H1 _ _ R2 S2⟩
/-- return of a new thing -/
def sRetF (m : MF) : MS := fun α => (m α).bind fun x => some (.rt (.nw x.1) x.2)
theorem ref_retF {t : TE} {m : MF} (hf : RefF K t m) : RefS K (tRet t) (sRetF m) := ⟨fun p H σ α A o D R e h => by
  simp only [sRetF, Option.bind_eq_some_iff] at e
  obtain ⟨⟨r, α1⟩, e1, e3⟩ := e
  cases e3
  exact hf.go p H σ α A r α1 _ R e1 fun p1 H1 A1 a as R1 S1 fr nw => h p1 H1 σ A1 _ R1 S1 ⟨a, as, rfl, fr, nw⟩⟩
/-- slot i's own thing is data from now on -/
def sFrz (i : Nat) (m : MS) : MS := fun α => match α[i]? with
  | some (.r false false x) => m (α.set i (.d x))
  | some (.n false false x) => m (α.set i (.d x))
  | _ => none
theorem frz_core {i : Nat} {r : AV} {x : Da} (R : Rel K p H σ α A) (hi : α[i]? = some r) (hr : r = .r false false x ∨ r = .n false false x) :
    ∃ p', Rel K p' H σ (α.set i (.d x)) (setF A i []) ∧ Step p H σ α A p' H σ (α.set i (.d x)) (setF A i []) := by
  have less : ∀ b ∈ p.filter (fun b => decide (b ∉ A i)), b ∈ p := fun b m => (List.mem_filter.mp m).1
  have nin : ∀ b ∈ A i, b ∉ p.filter (fun b => decide (b ∉ A i)) := fun b m z => of_decide_eq_true (List.mem_filter.mp z).2 m
  have hia : i < α.length := (List.getElem?_eq_some_iff.mp hi).1
  have his := R.lt hi
  have dz : ∃ v, (σ[i]?).join = some v ∧ Dz K (p.filter fun b => decide (b ∉ A i)) H v x := by
    have z := R.sl i r hi
    rcases hr with rfl | rfl
    · obtain ⟨a, e1, e2, t⟩ := z
      exact ⟨_, e1, t.frz less (nin a (by rw [e2]; exact List.mem_cons_self ..))⟩
    · obtain ⟨a, as, e1, e2, t⟩ := z
      exact ⟨_, e1, t.frz less fun b m => nin b (by rw [e2]; exact m)⟩
  obtain ⟨v, e1, dz⟩ := dz
  have rf : r.isFix = false := by rcases hr with rfl | rfl <;> rfl
  have es : σ.set i (some v) = σ := by
    apply List.ext_getElem?
    intro j
    by_cases e : j = i
    · subst e
      rw [List.getElem?_set_self his]
      rw [List.getElem?_eq_getElem his] at e1 ⊢
      exact congrArg some e1.symm
    · rw [List.getElem?_set_ne (fun z => e z.symm)]
  have R0 : Rel K p H σ (α.set i .un) (setF A i []) := by
    have z := rel_put (o := some v) (f := []) (r := .un) R hi rfl .nil (fun _ m => (List.not_mem_nil m).elim) (fun _ m => (List.not_mem_nil m).elim)
    rwa [es] at z
  have R1 := rel_drop (as := A i) R0 (fun b m j z => by
    rcases setF_mem z with ⟨_, z⟩ | ⟨n, z⟩
    · exact List.not_mem_nil z
    · exact n (R.dj j i b z m))
  refine ⟨p.filter fun b => decide (b ∉ A i), ?_, ?_⟩
  · have z := rel_put (o := some v) (f := []) (r := .d x) (i := i) (q := .un) R1 (List.getElem?_set_self hia) ⟨rfl, v, rfl, dz⟩ .nil (fun _ m => (List.not_mem_nil m).elim) (fun _ m => (List.not_mem_nil m).elim)
    rw [es, List.set_set] at z
    have ef : setF (setF A i []) i [] = setF A i [] := by funext j; unfold setF; split <;> rfl
    rwa [ef] at z
  · have z := step_put (o := some v) (f := []) (r := .d x) R hi rf rfl (fun _ m => (List.not_mem_nil m).elim)
    rw [es] at z
    refine ⟨z.keep, z.dom, z.new, fun b m => .inl (less b m), fun b m => ?_, z.ln, z.fix, z.nof⟩
    by_cases y : b ∈ A i
    · exact .inr ⟨i, y⟩
    · exact .inl (List.mem_filter.mpr ⟨m, decide_eq_true y⟩)
theorem ref_frz {t : TS} {m : MS} {i : Nat} (h : RefS K t m) : RefS K t (sFrz i m) := ⟨fun p H σ α A o D R e q => by
  unfold sFrz at e
  split at e
  · rename_i x hi
    obtain ⟨p1, R1, S1⟩ := frz_core R hi (.inl rfl)
    exact h.go p1 H σ _ _ o D R1 e (q.step R S1)
  · rename_i x hi
    obtain ⟨p1, R1, S1⟩ := frz_core R hi (.inr rfl)
    exact h.go p1 H σ _ _ o D R1 e (q.step R S1)
  · cases e⟩
/-! [..], {} -/
def fLst (ma : MA) : MF := fun α => (ma α).bind fun x => (ownA x.2 x.1).bind fun xs => if xs.length ≤ LIM then some (.r (.list xs), x.2) else none
theorem fresh_one {a : Addr} (hp : a ∈ p) (hn : H a = none) (na : ∀ i, a ∉ A i) : Fresh p H A [a] :=
  ⟨fun b m => by cases List.mem_singleton.mp m; exact hp, fun b m => by cases List.mem_singleton.mp m; exact hn, fun b m => by cases List.mem_singleton.mp m; exact na, by simp⟩
theorem ref_fLst {ta : TA} {ma : MA} (ha : RefA K ta ma) : RefF K (tLst ta) (fLst ma) :=
  ⟨fun p H σ α A l α' Q R e h => by
    simp only [fLst, Option.bind_eq_some_iff] at e
    obtain ⟨⟨l1, α1⟩, e1, xs, e2, e3⟩ := e
    split at e3
    · rename_i hl
      cases e3
      refine ha.go p H σ α A l1 α1 _ R e1 fun p1 H1 A1 v R1 S1 q1 => ?_
      have z := ownA_dz R1 q1 e2
      have hv : v.length ≤ LIM := by rw [z.length]; exact hl
      refine ⟨line_of hv, fun a ha => ?_⟩
      obtain ⟨R2, S2, nr⟩ := rel_new (o := .lst v) R1 ha
      exact h _ _ A1 a [] R2 (S1.trans R S2) (fresh_one (List.mem_cons_self ..) (S1.dom a ha) nr) ⟨rfl, v, upd_same, hv, z.tr (tr_new ha (same_new ha))⟩
    · cases e3⟩
def fDK (nest : Bool) : MF := fun α => some (if nest = true then .n (.dk []) else .r (.dk []), α)
def fDT (nest : Bool) : MF := fun α => some (if nest = true then .n (.dt []) else .r (.dt []), α)
theorem ref_fDK {nest : Bool} : RefF K tDNewK (fDK nest) := ⟨fun p H σ α A l α' Q R e h => by
  cases e
  intro a ha
  obtain ⟨R2, S2, nr⟩ := rel_new (o := .dK []) R ha
  refine h _ _ A a [] R2 S2 (fresh_one (List.mem_cons_self ..) ha nr) ?_
  cases nest
  · exact ⟨rfl, [], .of upd_same, Nat.zero_le _, .nil⟩
  · exact ⟨[], .of upd_same, Nat.zero_le _, .nil⟩⟩
theorem ref_fDT {nest : Bool} : RefF K tDNewT (fDT nest) := ⟨fun p H σ α A l α' Q R e h => by
  cases e
  intro a ha
  obtain ⟨R2, S2, nr⟩ := rel_new (o := .dT []) R ha
  refine h _ _ A a [] R2 S2 (fresh_one (List.mem_cons_self ..) ha nr) ?_
  cases nest
  · exact ⟨rfl, [], .of upd_same, Nat.zero_le _, .nil⟩
  · exact ⟨[], .of upd_same, Nat.zero_le _, .nil⟩⟩
end
end Vm

namespace Vm
open PySem PySem.Spec PyProof.Rows L2 Gk
section
variable {K : PySem.W.Frag} {p p' p2 p0 : List Addr} {H H' H2 H0 : Hp} {σ σ' σ2 σ0 : L2.St} {α α' α2 α0 : AS} {A A' A2 A0 : FT}
/-! ### comprehensions: one thing D grows while items are walked -/
theorem Tr.trans (a : Tr p H p' H') (b : Tr p' H' p2 H2) : Tr p H p2 H2 :=
  ⟨fun x u n r => let z := a.mt x u n r; b.mt x u z.2 z.1, fun x xs n r => b.ls x xs (a.mt x _ n (.inl r)).2 (a.ls x xs n r), fun x xs r => b.tp x xs (a.tp x xs r), fun x o u n r => b.fz x o u (a.mt x u n (.inr ⟨o, r⟩)).2 (a.fz x o u n r)⟩
theorem ItR.mono {J : It} {xs : List Da} {dep : List Nat} (h : ItR K p H σ α J xs dep) (t : Tr p H p' H') : ItR K p' H' σ α J xs dep :=
  ⟨fun p1 H1 σ1 α1 A1 R1 t1 d => h.go p1 H1 σ1 α1 A1 R1 (t.trans t1) d⟩
/-- the heap without D -/
def offD (H : Hp) (D : Addr) : Hp := fun b => if b = D then none else H b
theorem offD_ne {D b : Addr} (h : b ≠ D) : offD H D b = H b := by unfold offD; rw [if_neg h]
theorem offD_same {D : Addr} : offD H D D = none := by unfold offD; rw [if_pos rfl]
theorem tr_off {D : Addr} {o : HO} (hD : D ∈ p) (ho : H D = some o) (hn : HO.noTup o) : Tr p H (p.filter fun b => decide (b ≠ D)) (offD H D) := by
  have ne : ∀ b, b ∉ p → b ≠ D := fun b n e => n (e ▸ hD)
  refine ⟨fun b u n r => ⟨Rd.same (fun o e => by rw [offD_ne (ne b n)]; exact e) r, fun m => n (List.mem_filter.mp m).1⟩, fun b xs n r => by rw [offD_ne (ne b n)]; exact r, fun b xs r => ?_, fun b o u n r => by rw [offD_ne (ne b n)]; exact r⟩
  by_cases e : b = D
  · subst e; rw [ho] at r; cases r; exact hn.elim
  · rw [offD_ne e]; exact r
theorem rel_off {D : Addr} {o : HO} (R : Rel K p H σ α A) (hD : D ∈ p) (ho : H D = some o) (hn : HO.noTup o) (nr : ∀ i, D ∉ A i) : Rel K (p.filter fun b => decide (b ≠ D)) (offD H D) σ α A := by
  have ne : ∀ i, ∀ b ∈ A i, b ≠ D := fun i b m e => nr i (e ▸ m)
  refine ⟨R.len, fun i r e => (R.sl i r e).tr (tr_off hD ho hn) fun c m u q => by rw [offD_ne (ne i c m)]; exact q, R.out, R.nd, R.dj, fun i b m => List.mem_filter.mpr ⟨R.inp i b m, decide_eq_true (ne i b m)⟩, fun b m z => ?_⟩
  have := of_decide_eq_true (List.mem_filter.mp m).2
  rw [offD_ne this] at z
  exact R.al b (List.mem_filter.mp m).1 z
theorem step_off {D : Addr} (R0 : Rel K p0 H0 σ0 α0 A0) (S : Step p0 H0 σ0 α0 A0 p H σ α A) (h0 : H0 D = none) : Step p0 H0 σ0 α0 A0 (p.filter fun b => decide (b ≠ D)) (offD H D) σ α A := by
  refine ⟨fun b o e n => ?_, fun b e => ?_, S.new, fun b m => S.sub b (List.mem_filter.mp m).1, fun b m => ?_, S.ln, S.fix, S.nof⟩
  · have ne : b ≠ D := fun z => by rw [z, h0] at e; cases e
    rcases S.keep b o e n with z | ⟨z1, z2, od, z3⟩
    · exact .inl (by rw [offD_ne ne]; exact z)
    · exact .inr ⟨z1, z2, od, by rw [offD_ne ne]; exact z3⟩
  · by_cases z : b = D
    · exact z ▸ h0
    · rw [offD_ne z] at e; exact S.dom b e
  · rcases S.mono b m with z | z
    · exact .inl (List.mem_filter.mpr ⟨z, decide_eq_true fun y => R0.al b m (y ▸ h0)⟩)
    · exact .inr z
/-- back from the heap without D -/
theorem step_on {D : Addr} (hD : D ∈ p) : Step (p.filter fun b => decide (b ≠ D)) (offD H D) σ α A p H σ α A := by
  refine ⟨fun b o e n => .inl ?_, fun b e => ?_, fun i b m => .inl m, fun b m => ?_, fun b m => .inl (List.mem_filter.mp m).1, rfl, fun i r e f => ⟨rfl, r, e, .refl⟩, fun i r e f => ⟨r, e, f⟩⟩
  · have ne : b ≠ D := fun z => by rw [z, offD_same] at e; cases e
    rw [offD_ne ne] at e
    exact e
  · by_cases z : b = D
    · rw [z]; exact offD_same
    · rw [offD_ne z]; exact e
  · by_cases z : b = D
    · exact .inr (z ▸ offD_same)
    · exact .inl (List.mem_filter.mpr ⟨m, decide_eq_true z⟩)
/-- what a comprehension grows -/
structure AccOk {β : Type} (Acc : List Addr → Hp → Addr → List β → Prop) : Prop where
  mv : ∀ {p H p' H' D done}, Acc p H D done → Tr p H p' H' → H' D = H D → Acc p' H' D done
  ob : ∀ {p H D done}, Acc p H D done → ∃ o, H D = some o ∧ HO.noTup o
structure RefC (K : PySem.W.Frag) {β : Type} (Acc : List Addr → Hp → Addr → List β → Prop) (u : L2.St → Hp → Addr → (Hp → Prop) → Prop) (m : AS → Option (List β × AS)) : Prop where
  go : ∀ p0 H0 σ0 α0 A0 p H σ α A D done ys α' Nx, Rel K p0 H0 σ0 α0 A0 → Step p0 H0 σ0 α0 A0 p H σ α A → H0 D = none → Rel K p H σ α A → D ∈ p → (∀ i, D ∉ A i) → Acc p H D done → m α = some (ys, α') → done.length + ys.length ≤ LIM →
    (∀ p' H' A', Rel K p' H' σ α' A' → Step p0 H0 σ0 α0 A0 p' H' σ α' A' → D ∈ p' → (∀ i, D ∉ A' i) → Acc p' H' D (done ++ ys) → Nx H') → u σ H D Nx
def cmL {β : Type} (vs : List Nat) (g : MG) (tt : MT) (u : AS → Option (List β × AS)) : List Da → AS → Option (List β × AS)
  | [], α => some ([], α)
  | x :: xs, α => (g x α).bind fun α1 => (tt α1).bind fun b => if b.1 = true
    then (u b.2).bind fun y => (cmL vs g tt u xs (wipeA y.2 vs)).bind fun r => some (y.1 ++ r.1, r.2)
    else cmL vs g tt u xs (wipeA b.2 vs)
/-- the loop of a block -/
def LoopB (J : It) (g : TG) (tt : TT) (u : L2.St → Hp → (Hp → Prop) → Prop) (vs : List Nat) (σ : L2.St) (H : Hp) (Fin : Hp → Prop) : Prop :=
  ∃ W : Nat → Nat → Hp → Prop, (∃ m, W 0 m H) ∧ ∀ i m H, W i m H →
    (J.stop i H ∧ Fin H) ∨ (J.go i H ∧ ∃ Nx : Hp → Prop, (∀ H', Nx H' → ∃ m', m' < m ∧ W (i + 1) m' H') ∧ ∀ x H', J.yld i H x H' → g x (wipe σ vs) H' fun σ2 H2 => wipe σ2 vs = wipe σ vs ∧ tt σ2 H2 fun b H3 => if b = true then u σ2 H3 Nx else Nx H3)
def CmW (K : PySem.W.Frag) {β : Type} (Acc : List Addr → Hp → Addr → List β → Prop) (ps : List Addr) (Hs : Hp) (σw : L2.St) (αs : AS) (As : FT) (vs : List Nat) (mg : MG) (mt : MT) (mu : AS → Option (List β × AS)) (xs : List Da) (done ys : List β) (αe : AS) (D : Addr) (i m : Nat) (H : Hp) : Prop :=
  m = xs.length - i ∧ i ≤ xs.length ∧ ∃ p α A d2 rest, Rel K p H σw α A ∧ Step ps Hs σw αs As p H σw α A ∧ D ∈ p ∧ (∀ i, D ∉ A i) ∧ Acc p H D (done ++ d2) ∧ cmL vs mg mt mu (xs.drop i) α = some (rest, αe) ∧ d2 ++ rest = ys
theorem loop_core {β : Type} {Acc : List Addr → Hp → Addr → List β → Prop} (ha : AccOk Acc) {J : It} {g : TG} {tt : TT} {u : L2.St → Hp → Addr → (Hp → Prop) → Prop} {vs : List Nat} {mg : MG} {mt : MT} {mu : AS → Option (List β × AS)}
    (hg : RefB K g mg vs) (ht : RefT K tt mt) (hu : RefC K Acc u mu) {D : Addr} {done ys : List β} {xs : List Da} {dep : List Nat} {αe : AS} {Fin : Hp → Prop}
    (R0 : Rel K p0 H0 σ0 α0 A0) (S : Step p0 H0 σ0 α0 A0 p H σ α A) (hD0 : H0 D = none) (R : Rel K p H σ α A) (hDp : D ∈ p) (nD : ∀ i, D ∉ A i) (acc : Acc p H D done)
    (it : ItR K p H σ α J xs dep) (lkb : Lockable α dep) (hn : noRoots α vs) (hd : ∀ i ∈ dep, i ∉ vs)
    (e : cmL vs mg mt mu xs (lockA (wipeA α vs) dep) = some (ys, αe)) (hl : done.length + ys.length ≤ LIM)
    (fin : ∀ p' H' A', Rel K p' H' σ (backA α (freeA (wipeA α vs) αe dep) vs) A' → Step p0 H0 σ0 α0 A0 p' H' σ (backA α (freeA (wipeA α vs) αe dep) vs) A' → D ∈ p' → (∀ i, D ∉ A' i) → Acc p' H' D (done ++ ys) → Fin H') :
    LoopB J g tt (fun σ H Nx => u σ H D Nx) vs σ H Fin := by
  obtain ⟨o, ho, hno⟩ := ha.ob acc
  have Rh := rel_off R hDp ho hno nD
  have S0h := step_off (D := D) R0 S hD0
  have Rw := rel_wipe Rh vs
  have lkw : Lockable (wipeA α vs) dep := fun i m => by
    obtain ⟨f, l, ys, q⟩ := lkb i m
    exact ⟨f, l, ys, by rw [wipeA_get, if_neg (hd i m)]; exact q⟩
  have Rl := rel_lock Rw dep
  have noD : ∀ i, D ∉ wipeF A vs i := fun i m => nD i (wipeF_mem m).2
  have R1 : Rel K p H (wipe σ vs) (lockA (wipeA α vs) dep) (wipeF A vs) := rel_lock (rel_wipe R vs) dep
  have itw : ∀ p1 H1 σ1 α1 A1, Rel K p1 H1 σ1 α1 A1 → Tr p H p1 H1 → (∀ i ∈ dep, σ1[i]? = (wipe σ vs)[i]? ∧ α1[i]? = ((wipeA α vs)[i]?).map AV.lock) →
      (∀ n x, xs[n]? = some x → J.go n H1 ∧ ∀ v H2, J.yld n H1 v H2 → Same H1 H2 ∧ Dz K p1 H2 v x) ∧ J.stop xs.length H1 := fun p1 H1 σ1 α1 A1 R1 t d => by
    refine it.go p1 H1 σ1 α1 A1 R1 t fun i m => ?_
    have := d i m
    rw [wipe_get, wipeA_get, if_neg (hd i m), if_neg (hd i m)] at this
    exact this
  refine ⟨CmW K Acc (p.filter fun b => decide (b ≠ D)) (offD H D) (wipe σ vs) (lockA (wipeA α vs) dep) (wipeF A vs) vs mg mt mu xs done ys αe D, ⟨xs.length, rfl, Nat.zero_le _, p, _, _, [], ys, R1, step_on hDp, hDp, noD, by rw [List.append_nil]; exact acc, e, rfl⟩, ?_⟩
  rintro i m H2 ⟨rfl, hi', p2, αw, Aw, d2, rest, R2, S2, hDp2, nD2, acc2, e7, e8⟩
  -- from the loop's begin, D there: nothing but D and own things changed
  have tr2 : Tr p H p2 H2 := by
    have t := S2.tr Rl
    obtain ⟨o2, ho2, hno2⟩ := ha.ob acc2
    refine ⟨fun a z n r => ?_, fun a zs n r => ?_, fun a zs r => ?_, fun a oo z n r => ?_⟩
    · have ne : a ≠ D := fun q => n (q ▸ hDp)
      exact t.mt a z (fun m => n (List.mem_filter.mp m).1) (Rd.same (fun o e => by rw [offD_ne ne]; exact e) r)
    · have ne : a ≠ D := fun q => n (q ▸ hDp)
      exact t.ls a zs (fun m => n (List.mem_filter.mp m).1) (by rw [offD_ne ne]; exact r)
    · have ne : a ≠ D := fun q => by rw [q, ho] at r; cases r; exact hno.elim
      exact t.tp a zs (by rw [offD_ne ne]; exact r)
    · have ne : a ≠ D := fun q => n (q ▸ hDp)
      exact t.fz a oo z (fun m => n (List.mem_filter.mp m).1) (by rw [offD_ne ne]; exact r)
  obtain ⟨yes, stop⟩ := itw p2 H2 (wipe σ vs) αw Aw R2 tr2 (dep_of lkw S2)
  by_cases lt : i < xs.length
  · right
    have hx : xs[i]? = some xs[i] := List.getElem?_eq_getElem lt
    obtain ⟨hgo, hy⟩ := yes i _ hx
    refine ⟨hgo, fun H' => ∃ m', m' < xs.length - i ∧ CmW K Acc (p.filter fun b => decide (b ≠ D)) (offD H D) (wipe σ vs) (lockA (wipeA α vs) dep) (wipeF A vs) vs mg mt mu xs done ys αe D (i + 1) m' H', fun H' z => z, fun v H3 y => ?_⟩
    obtain ⟨sm, dv⟩ := hy v H3 y
    rw [List.drop_eq_getElem_cons lt] at e7
    simp only [cmL, Option.bind_eq_some_iff] at e7
    obtain ⟨α3, f1, ⟨b, α4⟩, f2, f3⟩ := e7
    have R3 := R2.same sm
    have S3 : Step (p.filter fun b => decide (b ≠ D)) (offD H D) (wipe σ vs) (lockA (wipeA α vs) dep) (wipeF A vs) p2 H3 (wipe σ vs) αw Aw := S2.trans Rl (.same sm)
    obtain ⟨od, hod, hnd⟩ := ha.ob acc2
    have hD3 : H3 D = H2 D := by rw [hod]; exact sm D _ hod
    have acc3 := ha.mv acc2 (tr_same sm) hD3
    refine hg.go p2 H3 (wipe σ vs) αw Aw v xs[i] α3 _ R3 dv f1 fun σ3 A3 R4 S4 w4 => ?_
    rw [wipe_wipe] at w4
    refine ⟨w4, ?_⟩
    have S34 := S3.trans Rl S4
    have nD4 : ∀ i, D ∉ A3 i := fun j z => by
      rcases S4.new j D z with q | q
      · exact nD2 j q
      · rw [hD3, hod] at q; cases q
    refine ht.go p2 H3 σ3 α3 A3 b α4 _ R4 f2 fun p5 H5 A5 R5 S5 => ?_
    have S35 := S34.trans Rl S5
    have hD5 : H5 D = H2 D := by rw [hod]; exact (S5.keep D _ (hD3.trans hod) nD4).exp hDp2
    have nD5 : ∀ i, D ∉ A5 i := fun j z => by
      rcases S5.new j D z with q | q
      · exact nD4 j q
      · rw [hD3, hod] at q; cases q
    have hDp5 : D ∈ p5 := by
      rcases S5.mono D hDp2 with z | ⟨k, z⟩
      · exact z
      · exact (nD4 k z).elim
    have acc5 : Acc p5 H5 D (done ++ d2) := ha.mv acc3 (S5.tr R4) (hD5.trans hD3.symm)
    have noF : ∀ (β : AS), (∀ (i : Nat) (r : AV), β[i]? = some r → r.isFix = true → ∃ q, (lockA (wipeA α vs) dep)[i]? = some q ∧ q.isFix = true) → noFix β vs := fun β hh i m r e => by
      cases z : r.isFix with
      | false => rfl
      | true =>
        obtain ⟨q, q1, q2⟩ := hh i r e z
        rw [lockA_get, wipeA_get, if_pos m] at q1
        obtain ⟨x1, x2, rfl⟩ := Option.map_eq_some_iff.mp q1
        obtain ⟨x3, x4, rfl⟩ := Option.map_eq_some_iff.mp x2
        split at q2 <;> cases q2
    -- the turn's end
    have turn : ∀ p6 H6 A6 α6 ds rest', Rel K p6 H6 σ3 α6 A6 → Step (p.filter fun b => decide (b ≠ D)) (offD H D) (wipe σ vs) (lockA (wipeA α vs) dep) (wipeF A vs) p6 H6 σ3 α6 A6 → D ∈ p6 → (∀ i, D ∉ A6 i) → Acc p6 H6 D (done ++ ds) →
        cmL vs mg mt mu (xs.drop (i + 1)) (wipeA α6 vs) = some (rest', αe) → ds ++ rest' = ys →
        ∃ m', m' < xs.length - i ∧ CmW K Acc (p.filter fun b => decide (b ≠ D)) (offD H D) (wipe σ vs) (lockA (wipeA α vs) dep) (wipeF A vs) vs mg mt mu xs done ys αe D (i + 1) m' H6 := fun p6 H6 A6 α6 ds rest' R6 S6 h1 h2 h3 h4 h5 => by
      have nf := noF α6 S6.nof
      have Rw6 := rel_wipe R6 vs
      rw [w4] at Rw6
      have Sw6 : Step p6 H6 σ3 α6 A6 p6 H6 (wipe σ vs) (wipeA α6 vs) (wipeF A6 vs) := by
        have z := step_wipe (p := p6) (H := H6) (σ := σ3) (A := A6) vs nf
        rwa [w4] at z
      exact ⟨_, by omega, rfl, lt, p6, wipeA α6 vs, wipeF A6 vs, ds, rest', Rw6, S6.trans Rl Sw6, h1, fun j z => h2 j (wipeF_mem z).2, h3, h4, h5⟩
    cases b with
    | true =>
      refine iteT ?_
      simp only [if_true, Option.bind_eq_some_iff] at f3
      obtain ⟨⟨y1, α5⟩, f4, ⟨rest', αe'⟩, f5, f6⟩ := f3
      simp only [Option.some.injEq, Prod.mk.injEq] at f6
      obtain ⟨f6, f7⟩ := f6
      dsimp only at f5
      subst f7
      refine hu.go _ _ _ _ _ p5 H5 σ3 α4 A5 D (done ++ d2) y1 α5 _ Rl S35 offD_same R5 hDp5 nD5 acc5 f4 ?_ fun p6 H6 A6 R6 S6 h1 h2 h3 => ?_
      · have := congrArg List.length e8
        rw [← f6] at this
        simp only [List.length_append] at this ⊢
        omega
      · rw [List.append_assoc] at h3
        exact turn p6 H6 A6 α5 (d2 ++ y1) rest' R6 S6 h1 h2 h3 f5 (by rw [List.append_assoc, f6]; exact e8)
    | false =>
      refine iteF ?_
      simp only [Bool.false_eq_true, if_false] at f3
      exact turn p5 H5 A5 α4 d2 rest R5 S35 hDp5 nD5 acc5 f3 e8
  · left
    have ei : i = xs.length := by omega
    subst ei
    rw [List.drop_length] at e7
    simp only [cmL, Option.some.injEq, Prod.mk.injEq] at e7
    obtain ⟨rfl, rfl⟩ := e7
    refine ⟨stop, ?_⟩
    rw [List.append_nil] at e8
    subst e8
    have Rf := rel_free lkw S2 R2
    have Sf := step_free lkw S2
    obtain ⟨Rb, Sb⟩ := rel_back Rh hn Sf Rf (wipe_wipe vs)
    exact fin p2 H2 _ Rb (S0h.trans R0 Sb) hDp2 (fun j z => nD2 j (wipeF_mem z).2) acc2
/-! one clause, and a clause within -/
def tCmp (wi : TI) (g : TG) (tt : TT) (u : L2.St → Hp → Addr → (Hp → Prop) → Prop) (vs : List Nat) (o : HO) : TE := fun σ H Q => wi σ H fun J H1 => ∀ D, H1 D = none → LoopB J g tt (fun σ H Nx => u σ H D Nx) vs σ (upd H1 D o) fun H' => Q (.ref D) H'
def uIn (wi : TI) (g : TG) (tt : TT) (u : L2.St → Hp → Addr → (Hp → Prop) → Prop) (vs : List Nat) : L2.St → Hp → Addr → (Hp → Prop) → Prop := fun σ H D Nx => wi σ H fun J H1 => LoopB J g tt (fun σ H Nx => u σ H D Nx) vs σ H1 Nx
def cmI {β : Type} (i : MI) (vs : List Nat) (g : MG) (tt : MT) (u : AS → Option (List β × AS)) : AS → Option (List β × AS) := fun α => (i α).bind fun x =>
  if noRoots x.2 vs ∧ (∀ i ∈ x.1.2, i ∉ vs) then (cmL vs g tt u x.1.1 (lockA (wipeA x.2 vs) x.1.2)).bind fun r => some (r.1, backA x.2 (freeA (wipeA x.2 vs) r.2 x.1.2) vs) else none
theorem ref_in {β : Type} {Acc : List Addr → Hp → Addr → List β → Prop} (ha : AccOk Acc) {w : TI} {g : TG} {tt : TT} {u : L2.St → Hp → Addr → (Hp → Prop) → Prop} {vs : List Nat} {mi : MI} {mg : MG} {mt : MT} {mu : AS → Option (List β × AS)}
    (hi : RefI K w mi) (hg : RefB K g mg vs) (ht : RefT K tt mt) (hu : RefC K Acc u mu) : RefC K Acc (uIn w g tt u vs) (cmI mi vs mg mt mu) :=
  ⟨fun p0 H0 σ0 α0 A0 p H σ α A D done ys α' Nx R0 S h0 R hDp nD acc e hl h => by
    simp only [cmI, Option.bind_eq_some_iff] at e
    obtain ⟨⟨⟨xs, dep⟩, α1⟩, e1, e2⟩ := e
    split at e2
    · rename_i hc
      simp only [Option.bind_eq_some_iff] at e2
      obtain ⟨⟨ys', αe⟩, e5, e6⟩ := e2
      cases e6
      refine hi.go p H σ α A (xs, dep) α1 _ R e1 fun p1 H1 A1 J R1 S1 it lkb => ?_
      obtain ⟨o, ho, hno⟩ := ha.ob acc
      have hD1 : H1 D = H D := by rw [ho]; exact (S1.keep D _ ho nD).exp hDp
      have nD1 : ∀ i, D ∉ A1 i := fun j z => by
        rcases S1.new j D z with q | q
        · exact nD j q
        · rw [ho] at q; cases q
      have hDp1 : D ∈ p1 := by
        rcases S1.mono D hDp with z | ⟨k, z⟩
        · exact z
        · exact (nD k z).elim
      exact loop_core ha hg ht hu R0 (S.trans R0 S1) h0 R1 hDp1 nD1 (ha.mv acc (S1.tr R) hD1) it lkb hc.1 hc.2 e5 hl h
    · cases e2⟩
theorem cmp_core {β : Type} {Acc : List Addr → Hp → Addr → List β → Prop} (ha : AccOk Acc) {w : TI} {g : TG} {tt : TT} {u : L2.St → Hp → Addr → (Hp → Prop) → Prop} {vs : List Nat} {mi : MI} {mg : MG} {mt : MT} {mu : AS → Option (List β × AS)} {o : HO} {ys : List β} {Q : VK}
    (h0 : ∀ p H D, Acc (D :: p) (upd H D o) D []) (hi : RefI K w mi) (hg : RefB K g mg vs) (ht : RefT K tt mt) (hu : RefC K Acc u mu) (R : Rel K p H σ α A) (e : cmI mi vs mg mt mu α = some (ys, α')) (hl : ys.length ≤ LIM)
    (h : ∀ p' H' A' a, Rel K p' H' σ α' A' → Step p H σ α A p' H' σ α' A' → Fresh p' H A' [a] → Acc p' H' a ys → Q (.ref a) H') : tCmp w g tt u vs o σ H Q := by
  simp only [cmI, Option.bind_eq_some_iff] at e
  obtain ⟨⟨⟨xs, dep⟩, α1⟩, e1, e2⟩ := e
  split at e2
  · rename_i hc
    simp only [Option.bind_eq_some_iff] at e2
    obtain ⟨⟨ys', αe⟩, e5, e6⟩ := e2
    cases e6
    refine hi.go p H σ α A (xs, dep) α1 _ R e1 fun p1 H1 A1 J R1 S1 it lkb D hD => ?_
    obtain ⟨R2, S2, nr⟩ := rel_new (o := o) R1 hD
    refine loop_core ha hg ht hu R1 S2 hD R2 (List.mem_cons_self ..) nr (h0 p1 H1 D) (it.mono (tr_new hD (same_new hD))) lkb hc.1 hc.2 e5 (by simpa using hl) fun p' H' A' Rn Sn h1 h2 h3 => ?_
    exact h p' H' A' D Rn (S1.trans R Sn) (fresh_one h1 (S1.dom D hD) h2) h3
  · cases e2
/-! lists -/
def AccL (K : PySem.W.Frag) (p : List Addr) (H : Hp) (D : Addr) (done : List Da) : Prop := ∃ vs, H D = some (.lst vs) ∧ DzA K p H vs done
theorem accL : AccOk (AccL K) := ⟨fun ⟨vs, h1, h2⟩ t e => ⟨vs, by rw [e]; exact h1, h2.tr t⟩, fun ⟨vs, h1, _⟩ => ⟨_, h1, trivial⟩⟩
def uLc (te : TE) : L2.St → Hp → Addr → (Hp → Prop) → Prop := fun σ H D Nx => te σ H fun y H4 => ∃ acc, H4 D = some (.lst acc) ∧ acc.length < sizeLine ∧ Nx (upd H4 D (.lst (acc ++ [y])))
def mLc (me : ME) : AS → Option (List Da × AS) := fun α => (me α).bind fun l => (own l.2 l.1).bind fun y => some ([y], l.2)
theorem ref_uLc {te : TE} {me : ME} (he : RefE K te me) : RefC K (AccL K) (uLc te) (mLc me) :=
  ⟨fun p0 H0 σ0 α0 A0 p H σ α A D done ys α' Nx R0 S h0 R hDp nD acc e hl h => by
    simp only [mLc, Option.bind_eq_some_iff] at e
    obtain ⟨⟨l, α1⟩, e1, y, e2, e3⟩ := e
    cases e3
    refine he.go p H σ α A l α1 _ R e1 fun p1 H1 A1 v R1 S1 q => ?_
    obtain ⟨vs, hv, dz⟩ := acc
    have hD1 : H1 D = some (.lst vs) := (S1.keep D _ hv nD).exp hDp
    have nD1 : ∀ i, D ∉ A1 i := fun j z => by
      rcases S1.new j D z with q | q
      · exact nD j q
      · rw [hv] at q; cases q
    have hDp1 : D ∈ p1 := by
      rcases S1.mono D hDp with z | ⟨k, z⟩
      · exact z
      · exact (nD k z).elim
    have lv : vs.length < LIM := by rw [dz.length]; simp only [List.length_cons, List.length_nil] at hl; omega
    refine ⟨vs, hD1, line_lt (Nat.le_of_lt lv), h p1 _ A1 (rel_upd R1 hDp1 hD1 trivial nD1) ((S.trans R0 S1).upd h0) hDp1 nD1 ⟨_, upd_same, ?_⟩⟩
    exact ((dz.tr (S1.tr R)).append (.cons (own_dz R1 q e2) .nil)).tr (tr_upd hDp1 hD1 trivial)⟩
def fLc (m : AS → Option (List Da × AS)) : MF := fun α => (m α).bind fun r => if r.1.length ≤ LIM then some (.r (.list r.1), r.2) else none
theorem ref_fLc {w : TI} {g : TG} {tt : TT} {u : L2.St → Hp → Addr → (Hp → Prop) → Prop} {vs : List Nat} {mi : MI} {mg : MG} {mt : MT} {mu : AS → Option (List Da × AS)} (hi : RefI K w mi) (hg : RefB K g mg vs) (ht : RefT K tt mt) (hu : RefC K (AccL K) u mu) :
    RefF K (tCmp w g tt u vs (.lst [])) (fLc (cmI mi vs mg mt mu)) := ⟨fun p H σ α A r α' Q R e h => by
  simp only [fLc, Option.bind_eq_some_iff] at e
  obtain ⟨⟨ys, α1⟩, e1, e2⟩ := e
  split at e2
  · rename_i hl
    cases e2
    refine cmp_core accL (fun p H D => ⟨[], upd_same, .nil⟩) hi hg ht hu R e1 hl fun p1 H1 A1 a R1 S1 fr acc => ?_
    obtain ⟨vs, h1, h2⟩ := acc
    exact h p1 H1 A1 a [] R1 S1 fr ⟨rfl, vs, h1, by rw [h2.length]; exact hl, h2⟩
  · cases e2⟩
/-! dicts -/
def keyD : Da → Option Key
  | .int i => some (.inl i)
  | .str s => some (.inr s)
  | _ => none
def keysD : List Da → Option (List Key)
  | [] => some []
  | x :: r => (keyD x).bind fun k => (keysD r).bind fun ks => some (k :: ks)
def keyT : Da → Option (List Key)
  | .tuple xs => keysD xs
  | _ => none
def putA {κ τ : Type} [DecidableEq κ] : List (κ × τ) → κ → τ → List (κ × τ)
  | [], k, v => [(k, v)]
  | (j, w) :: r, k, v => if j = k then (j, v) :: r else (j, w) :: putA r k v
end
end Vm

namespace Vm
open PySem PySem.Spec PyProof.Rows L2 Gk
/-! ### defs and calls -/
inductive R1 where
  | d (x : Da)
  | w (r : Nw)
inductive Rv where
  | one (r : R1)
  | tup (rs : List R1)
def R1.da : R1 → Da
  | .d x => x
  | .w r => r.da
def Rv.da : Rv → Da
  | .one r => r.da
  | .tup rs => .tuple (rs.map R1.da)
/-- things handed back, some of them new own ones, with their addresses -/
inductive ResL (K : PySem.W.Frag) (p : List Addr) (H : Hp) : List V → List R1 → List Addr → Prop
  | nil : ResL K p H [] [] []
  | d {v : V} {x : Da} {vs : List V} {rs : List R1} {bs : List Addr} : Dz K p H v x → ResL K p H vs rs bs → ResL K p H (v :: vs) (.d x :: rs) bs
  | w {a : Addr} {as : List Addr} {r : Nw} {vs : List V} {rs : List R1} {bs : List Addr} : NewR K p H a as r → ResL K p H vs rs bs → ResL K p H (.ref a :: vs) (.w r :: rs) (a :: as ++ bs)
def ResR (K : PySem.W.Frag) (H0 : Hp) (p : List Addr) (H : Hp) (A : FT) (v : V) : Rv → Prop
  | .one r => ∃ as, ResL K p H [v] [r] as ∧ Fresh p H0 A as
  | .tup rs => ∃ t vs as, v = .ref t ∧ H t = some (.tup vs) ∧ vs.length ≤ LIM ∧ ResL K p H vs rs as ∧ Fresh p H0 A as
abbrev FV := List AV → Option (Rv × List AV)
def spV (K : PySem.W.Frag) (F : FV) : Sp := fun vs H Q _ => ∃ p as A r as', Rel K p H (vs.map some) as A ∧ F as = some (r, as') ∧
  ∀ p' H' A' v, Rel K p' H' (vs.map some) as' A' → Step p H (vs.map some) as A p' H' (vs.map some) as' A' → ResR K H p' H' A' v r → Q v H'
/-- the name stays with it -/
def AV.fixd : AV → AV
  | .r _ l x => .r true l x
  | .n _ l x => .n true l x
  | q => q
def AV.flag (q : AV) (f : Bool) : AV := match q with
  | .r _ l x => .r f l x
  | .n _ l x => .n f l x
  | q => q
def startA (n : Nat) (as : AS) : AS := as.map AV.fixd ++ List.replicate (n - as.length) .un
/-- the arguments as they stand behind the def -/
def backP (as α : AS) : AS := as.mapIdx fun i r => if r.isRoot = true then ((α[i]?).getD .un).flag r.isFix else r
def resL1 (α : AS) : Lc → Option R1
  | .d x => some (.d x)
  | .s i => (α[i]?).bind fun q => match q with
    | .d x => some (.d x)
    | .r false false x => some (.w (.r x))
    | .n false false x => some (.w (.n x))
    | _ => none
def resLs (α : AS) : List Lc → Option (List R1)
  | [] => some []
  | l :: ls => (resL1 α l).bind fun r => (resLs α ls).bind fun rs => some (r :: rs)
/-- the own things among these -/
def rootIx (α : AS) : Lc → Option Nat
  | .d _ => none
  | .s i => (α[i]?).bind fun q => if q.isRoot = true then some i else none
def resRL (α : AS) : RL → Option Rv
  | .one l => (resL1 α l).bind fun r => some (.one r)
  | .tup ls => (resLs α ls).bind fun rs => if (ls.filterMap (rootIx α)).Nodup then some (.tup rs) else none
  | .nw r => some (.one (.w r))
/-- a def of np parameters and n slots -/
def mDef (np n : Nat) (b : MS) : FV := fun as => if as.length = np then (b (startA n as)).bind fun o => match o with
    | .nx α => some (.one (.d .none), backP as α)
    | .rt l α => (resRL α l).bind fun r => some (r, backP as α)
    | _ => none
  else none
section
variable {K : PySem.W.Frag} {p p' p2 : List Addr} {H H' H2 : Hp} {σ σ' σ2 : L2.St} {α α' α2 α0 : AS} {A A' A2 : FT}
theorem backP_get {as α : AS} {i : Nat} : (backP as α)[i]? = (as[i]?).map fun r => if r.isRoot = true then ((α[i]?).getD .un).flag r.isFix else r := by
  unfold backP
  rw [List.getElem?_mapIdx]
theorem fixd_root (r : AV) : r.fixd.isRoot = r.isRoot := by cases r <;> rfl
theorem fixd_fix {r : AV} (h : r.isRoot = true) : r.fixd.isFix = true := by cases r <;> first | rfl | cases h
theorem slot_fixd {o : Option V} {f : List Addr} {r : AV} (h : SlotR K p H o f r) : SlotR K p H o f r.fixd := by cases r <;> exact h
theorem slot_flag {o : Option V} {f : List Addr} {r : AV} (b : Bool) (h : SlotR K p H o f r) : SlotR K p H o f (r.flag b) := by cases r <;> exact h
theorem flag_fix {r : AV} (f : Bool) (h : r.isRoot = true) : (r.flag f).isFix = f := by cases r <;> first | rfl | cases h
theorem flag_root (r : AV) (f : Bool) : (r.flag f).isRoot = r.isRoot := by cases r <;> rfl
theorem flag_lk (r : AV) (f : Bool) : (r.flag f).isLk = r.isLk := by cases r <;> rfl
theorem getElem?_lt {τ : Type} {l : List τ} {i : Nat} {x : τ} (h : l[i]? = some x) : i < l.length := (List.getElem?_eq_some_iff.mp h).1
theorem get_of_lt {τ : Type} {l : List τ} {i : Nat} (h : i < l.length) : ∃ x, l[i]? = some x := ⟨l[i], List.getElem?_eq_getElem h⟩
theorem start_get_lt {N : List Str} {vs : List V} {i : Nat} (h : i < vs.length) : (start N vs)[i]? = (vs.map some)[i]? := by
  unfold L2.start
  rw [List.getElem?_append_left (by rw [List.length_map]; exact h)]
theorem startA_get_lt {n : Nat} {as : AS} {i : Nat} (h : i < as.length) : (startA n as)[i]? = (as[i]?).map AV.fixd := by
  unfold startA
  rw [List.getElem?_append_left (by rw [List.length_map]; exact h), List.getElem?_map]
theorem startA_get_ge {n : Nat} {as : AS} {i : Nat} {r : AV} (h : as.length ≤ i) (e : (startA n as)[i]? = some r) : r = .un := by
  unfold startA at e
  rw [List.getElem?_append_right (by rw [List.length_map]; exact h), List.getElem?_replicate] at e
  split at e
  · cases e; rfl
  · cases e
theorem rel_start {N : List Str} {vs : List V} {as : AS} (R : Rel K p H (vs.map some) as A) (hN : as.length ≤ N.length) : Rel K p H (start N vs) (startA N.length as) A := by
  have hl : vs.length = as.length := by have := R.len; rwa [List.length_map] at this
  refine ⟨by unfold L2.start startA; simp [hl], fun i r e => ?_, fun i e => ?_, R.nd, R.dj, R.inp, R.al⟩
  · by_cases hi : i < as.length
    · rw [startA_get_lt hi] at e
      obtain ⟨q, e1, rfl⟩ := Option.map_eq_some_iff.mp e
      rw [start_get_lt (by omega)]
      exact slot_fixd (R.sl i q e1)
    · rw [startA_get_ge (by omega) e]
      exact R.out i (List.getElem?_eq_none_iff.mpr (by omega))
  · have : N.length ≤ i := by
      have := List.getElem?_eq_none_iff.mp e
      unfold startA at this
      rw [List.length_append, List.length_map, List.length_replicate] at this
      omega
    exact R.out i (List.getElem?_eq_none_iff.mpr (by omega))
def cutF (n : Nat) (A : FT) : FT := fun i => if i < n then A i else []
theorem end_args {N : List Str} {vs : List V} {as : AS} (R : Rel K p H (vs.map some) as A) (hN : as.length ≤ N.length) (R' : Rel K p' H' σ' α' A') (S : Step p H (start N vs) (startA N.length as) A p' H' σ' α' A') :
    ∃ B, Rel K p' H' (vs.map some) (backP as α') B ∧ Step p H (vs.map some) as A p' H' (vs.map some) (backP as α') B ∧ (∀ i, B i = A' i ∨ B i = []) ∧ ∀ (i : Nat) (r : AV), as[i]? = some r → r.isRoot = true → B i = A' i := by
  have hl : vs.length = as.length := by have := R.len; rwa [List.length_map] at this
  have t := S.tr (rel_start R hN)
  have fx : ∀ (i : Nat) (r : AV), as[i]? = some r → r.isRoot = true → σ'[i]? = (vs.map some)[i]? ∧ ∃ r', α'[i]? = some r' ∧ Kin r.fixd r' := fun i r e hr => by
    have hi : i < as.length := getElem?_lt e
    obtain ⟨e1, r', e2, e3⟩ := S.fix i r.fixd (by rw [startA_get_lt hi, e]; rfl) (fixd_fix hr)
    exact ⟨by rw [e1, start_get_lt (by omega)], r', e2, e3⟩
  let B : FT := fun i => if (as[i]?).any AV.isRoot = true then A' i else []
  have Bm : ∀ i b, b ∈ B i → b ∈ A' i ∧ ∃ r, as[i]? = some r ∧ r.isRoot = true := fun i b m => by
    have m : b ∈ if (as[i]?).any AV.isRoot = true then A' i else [] := m
    split at m
    · rename_i h
      refine ⟨m, ?_⟩
      cases q : as[i]? with
      | none => rw [q] at h; cases h
      | some r => rw [q] at h; exact ⟨r, rfl, h⟩
    · exact (List.not_mem_nil m).elim
  have Bt : ∀ (i : Nat) (r : AV), as[i]? = some r → r.isRoot = true → B i = A' i := fun i r e h => by
    show (if (as[i]?).any AV.isRoot = true then A' i else []) = A' i
    rw [e, Option.any_some, if_pos h]
  have Bf : ∀ (i : Nat) (r : AV), as[i]? = some r → r.isRoot ≠ true → B i = [] := fun i r e h => by
    show (if (as[i]?).any AV.isRoot = true then A' i else []) = []
    rw [e, Option.any_some, if_neg h]
  refine ⟨B, ⟨by rw [R.len]; unfold backP; rw [List.length_mapIdx], fun i q h2 => ?_, fun i h => ?_, fun i => ?_, fun i j a h1 h2 => R'.dj i j a (Bm i a h1).1 (Bm j a h2).1, fun i a h => R'.inp i a (Bm i a h).1, R'.al⟩,
    ⟨S.keep, S.dom, fun i b h => S.new i b (Bm i b h).1, S.sub, S.mono, by unfold backP; rw [List.length_mapIdx], fun i r h f => ⟨rfl, ?_⟩, fun i q h f => ?_⟩, fun i => ?_, Bt⟩
  · rw [backP_get] at h2
    obtain ⟨r, e, rfl⟩ := Option.map_eq_some_iff.mp h2
    by_cases hr : r.isRoot = true
    · rw [if_pos hr, Bt i r e hr]
      obtain ⟨e1, r', e2, e3⟩ := fx i r e hr
      rw [e2, ← e1]
      exact slot_flag _ (R'.sl i r' e2)
    · rw [if_neg hr, Bf i r e hr]
      have z := R.sl i r e
      have a0 : A i = [] := by
        cases r with
        | un => exact z
        | d x => exact z.1
        | sc x => exact z.1
        | r a b c => exact (hr rfl).elim
        | n a b c => exact (hr rfl).elim
      rw [a0] at z
      exact z.tr t fun c m => (List.not_mem_nil m).elim
  · rw [backP_get] at h
    have e := Option.map_eq_none_iff.mp h
    show (if (as[i]?).any AV.isRoot = true then A' i else []) = []
    rw [e]
    rfl
  · show List.Nodup (if (as[i]?).any AV.isRoot = true then A' i else [])
    split
    · exact R'.nd i
    · exact .nil
  · have hr := isRoot_of_isFix f
    obtain ⟨e1, r', e2, e3⟩ := fx i r h hr
    refine ⟨r'.flag r.isFix, by rw [backP_get, h]; simp only [Option.map_some, if_pos hr, e2, Option.getD_some], ?_⟩
    have efx : r.fixd = r := by
      cases r with
      | r a b c => cases f; rfl
      | n a b c => cases f; rfl
      | _ => rfl
    rw [efx] at e3
    have erf : r'.flag r.isFix = r' := by
      have z := e3.fx
      cases r' with
      | r a b c => rw [← z]; rfl
      | n a b c => rw [← z]; rfl
      | _ => rfl
    rw [erf]
    exact e3
  · rw [backP_get] at h
    obtain ⟨r, e, rfl⟩ := Option.map_eq_some_iff.mp h
    by_cases hr : r.isRoot = true
    · rw [if_pos hr] at f
      obtain ⟨e1, r', e2, e3⟩ := fx i r e hr
      rw [e2] at f
      have f' : (r'.flag r.isFix).isFix = true := f
      rw [flag_fix _ (by rw [e3.rt, fixd_root]; exact hr)] at f'
      exact ⟨r, e, f'⟩
    · rw [if_neg hr] at f
      exact ⟨r, e, f⟩
  · show (if (as[i]?).any AV.isRoot = true then A' i else []) = A' i ∨ (if (as[i]?).any AV.isRoot = true then A' i else []) = []
    split
    · exact .inl rfl
    · exact .inr rfl
/-- a slot of the def's own, handed back: new -/
theorem own_fresh {N : List Str} {vs : List V} {as : AS} {B : FT} {i : Nat} {q : AV} (R : Rel K p H (vs.map some) as A) (hN : as.length ≤ N.length) (R' : Rel K p' H' σ' α' A') (S : Step p H (start N vs) (startA N.length as) A p' H' σ' α' A')
    (hB : ∀ i, B i = A' i ∨ B i = []) (hBr : ∀ (i : Nat), (∀ r, as[i]? = some r → r.isRoot = false) → B i = []) (hq : α'[i]? = some q) (hr : q.isRoot = true) (hf : q.isFix = false) :
    (∀ b ∈ A' i, H b = none) ∧ (∀ b ∈ A' i, ∀ j, b ∉ B j) := by
  have noroot : ∀ r, as[i]? = some r → r.isRoot = false := fun r e => by
    cases z : r.isRoot with
    | false => rfl
    | true =>
      have hi : i < as.length := getElem?_lt e
      obtain ⟨_, r', e2, e3⟩ := S.fix i r.fixd (by rw [startA_get_lt hi, e]; rfl) (fixd_fix z)
      rw [hq] at e2
      cases e2
      rw [e3.fx, fixd_fix z] at hf
      cases hf
  have a0 : A i = [] := by
    cases e : as[i]? with
    | none => exact R.out i e
    | some r =>
      have z := R.sl i r e
      have n := noroot r e
      cases r with
      | un => exact z
      | d x => exact z.1
      | sc x => exact z.1
      | r a b c => cases n
      | n a b c => cases n
  refine ⟨fun b m => ?_, fun b m j mj => ?_⟩
  · rcases S.new i b m with z | z
    · rw [a0] at z; exact (List.not_mem_nil z).elim
    · exact z
  · rcases hB j with z | z
    · rw [z] at mj
      have e := R'.dj i j b m mj
      subst e
      rw [hBr i noroot] at z
      rw [← z] at mj
      exact List.not_mem_nil mj
    · rw [z] at mj; exact List.not_mem_nil mj
theorem res_one {v : V} {l : Lc} {r : R1} (R' : Rel K p' H' σ' α' A') (h : LocR K p' H' σ' v l) (e : resL1 α' l = some r) :
    (∃ x, r = .d x ∧ Dz K p' H' v x) ∨ ∃ i q a as w, l = .s i ∧ α'[i]? = some q ∧ q.isRoot = true ∧ q.isFix = false ∧ v = .ref a ∧ A' i = a :: as ∧ r = .w w ∧ NewR K p' H' a as w := by
  cases l with
  | d x => cases e; exact .inl ⟨x, rfl, h⟩
  | s i =>
    have h' : σ'[i]? = some (some v) := h
    simp only [resL1, Option.bind_eq_some_iff] at e
    obtain ⟨q, e1, e2⟩ := e
    have z := R'.sl i q e1
    rw [join_of h'] at z
    split at e2
    · cases e2; obtain ⟨_, w, e3, e4⟩ := z; cases e3; exact .inl ⟨_, rfl, e4⟩
    · cases e2; obtain ⟨a, e3, e4, e5⟩ := z; cases e3; exact .inr ⟨i, _, a, [], _, rfl, e1, rfl, rfl, rfl, e4, rfl, rfl, e5⟩
    · cases e2; obtain ⟨a, as, e3, e4, e5⟩ := z; cases e3; exact .inr ⟨i, _, a, as, _, rfl, e1, rfl, rfl, rfl, e4, rfl, e5⟩
    · cases e2
theorem res_many (R' : Rel K p' H' σ' α' A') : ∀ {vs : List V} {ls : List Lc} {rs : List R1}, LocA K p' H' σ' vs ls → resLs α' ls = some rs → (ls.filterMap (rootIx α')).Nodup →
    ∃ as, ResL K p' H' vs rs as ∧ as.Nodup ∧ ∀ b ∈ as, ∃ i q, .s i ∈ ls ∧ i ∈ ls.filterMap (rootIx α') ∧ α'[i]? = some q ∧ q.isRoot = true ∧ q.isFix = false ∧ b ∈ A' i
  | [], [], _, .nil, e, _ => by cases e; exact ⟨[], .nil, .nil, fun b m => (List.not_mem_nil m).elim⟩
  | v :: vs0, l :: ls0, _, .cons h t, e, nd => by
    simp only [resLs, Option.bind_eq_some_iff] at e
    obtain ⟨r, e1, rs, e2, e3⟩ := e
    cases e3
    have nd' := nd
    rw [List.filterMap_cons] at nd'
    have nds : (List.filterMap (rootIx α') ls0).Nodup := by
      split at nd'
      · exact nd'
      · exact (List.nodup_cons.mp nd').2
    obtain ⟨as, q1, q2, q3⟩ := res_many R' t e2 nds
    have wid : ∀ b ∈ as, ∃ i q, .s i ∈ l :: ls0 ∧ i ∈ (l :: ls0).filterMap (rootIx α') ∧ α'[i]? = some q ∧ q.isRoot = true ∧ q.isFix = false ∧ b ∈ A' i := fun b m => by
      obtain ⟨i, q, w1, w2, w3⟩ := q3 b m
      refine ⟨i, q, List.mem_cons_of_mem _ w1, ?_, w3⟩
      rw [List.filterMap_cons]
      split
      · exact w2
      · exact List.mem_cons_of_mem _ w2
    rcases res_one R' h e1 with ⟨x, rfl, dz⟩ | ⟨i, q, a, as1, w, rfl, hq, hr, hf, rfl, ha, rfl, nw⟩
    · exact ⟨as, .d dz q1, q2, wid⟩
    · have ri : rootIx α' (.s i) = some i := by simp only [rootIx, hq, Option.bind_some, if_pos hr]
      rw [ri] at nd'
      have ni := (List.nodup_cons.mp nd').1
      refine ⟨a :: as1 ++ as, .w nw q1, ?_, fun b m => ?_⟩
      · rw [← ha]
        refine List.nodup_append.mpr ⟨R'.nd i, q2, fun x hx y hy e => ?_⟩
        subst e
        obtain ⟨j, _, _, w2, _, _, _, w3⟩ := q3 x hy
        have := R'.dj i j x hx w3
        subst this
        exact ni w2
      · rw [← ha] at m
        rcases List.mem_append.mp m with m | m
        · refine ⟨i, q, List.mem_cons_self .., ?_, hq, hr, hf, m⟩
          rw [List.filterMap_cons, ri]
          exact List.mem_cons_self ..
        · exact wid b m
/-- a def's body, by its function -/
theorem body_ok {N : List Str} {vs : List V} {np : Nat} {b : MS} {t : TS} {Q : VK} {E : XK} (hb : RefS K t b) (hN : np ≤ N.length) (h : spV K (mDef np N.length b) vs H Q E) :
    t { nx := fun _ H' => Q .non H', rt := Q } (start N vs) H := by
  obtain ⟨p, as, A, r, as', R, e, q⟩ := h
  unfold mDef at e
  split at e
  · rename_i hnp
    simp only [Option.bind_eq_some_iff] at e
    obtain ⟨o, e1, e2⟩ := e
    have hN' : as.length ≤ N.length := by omega
    refine hb.go p H _ _ A o _ (rel_start R hN') e1 ?_
    cases o with
    | nx α =>
      cases e2
      intro p1 H1 σ1 A1 R1 S1
      obtain ⟨B, RB, SB, _, _⟩ := end_args R hN' R1 S1
      exact q p1 H1 B .non RB SB ⟨[], .d .non .nil, fun b m => (List.not_mem_nil m).elim, fun b m => (List.not_mem_nil m).elim, fun b m => (List.not_mem_nil m).elim, .nil⟩
    | rt l α =>
      simp only [Option.bind_eq_some_iff] at e2
      obtain ⟨r', e3, e4⟩ := e2
      cases e4
      intro p1 H1 σ1 A1 v R1 S1 z
      obtain ⟨B, RB, SB, hB, hBt⟩ := end_args R hN' R1 S1
      have hBr : ∀ (i : Nat), (∀ r, as[i]? = some r → r.isRoot = false) → B i = [] := fun i h => by
        cases e : as[i]? with
        | none =>
          apply RB.out i
          rw [backP_get, e]
          rfl
        | some x =>
          have n := h x e
          have z := RB.sl i x (by rw [backP_get, e]; simp only [Option.map_some]; rw [if_neg (by rw [n]; simp)])
          cases x with
          | un => exact z
          | d x => exact z.1
          | sc x => exact z.1
          | r a b c => cases n
          | n a b c => cases n
      refine q p1 H1 B v RB SB ?_
      cases l with
      | one l =>
        simp only [resRL, Option.bind_eq_some_iff] at e3
        obtain ⟨r1, e5, e6⟩ := e3
        cases e6
        rcases res_one R1 z e5 with ⟨x, rfl, dz⟩ | ⟨i, q, a, as1, w, rfl, hq, hr, hf, rfl, ha, rfl, nw⟩
        · exact ⟨[], .d dz .nil, fun b m => (List.not_mem_nil m).elim, fun b m => (List.not_mem_nil m).elim, fun b m => (List.not_mem_nil m).elim, .nil⟩
        · obtain ⟨f1, f2⟩ := own_fresh R hN' R1 S1 hB hBr hq hr hf
          refine ⟨a :: as1 ++ [], .w nw .nil, ?_⟩
          rw [List.append_nil, ← ha]
          exact ⟨fun b m => R1.inp i b m, f1, f2, R1.nd i⟩
      | tup ls =>
        simp only [resRL, Option.bind_eq_some_iff] at e3
        obtain ⟨rs, e5, e6⟩ := e3
        split at e6
        · rename_i nd
          cases e6
          obtain ⟨t, us, rfl, ht, hl, hz⟩ := z
          obtain ⟨as1, q1, q2, q3⟩ := res_many R1 hz e5 nd
          refine ⟨t, us, as1, rfl, ht, hl, q1, fun b m => ?_, fun b m => ?_, fun b m => ?_, q2⟩
          · obtain ⟨i, q, _, _, hq, hr, hf, mb⟩ := q3 b m
            exact R1.inp i b mb
          · obtain ⟨i, q, _, _, hq, hr, hf, mb⟩ := q3 b m
            exact (own_fresh R hN' R1 S1 hB hBr hq hr hf).1 b mb
          · obtain ⟨i, q, _, _, hq, hr, hf, mb⟩ := q3 b m
            exact (own_fresh R hN' R1 S1 hB hBr hq hr hf).2 b mb
        · cases e6
      | nw r =>
        cases e3
        obtain ⟨a, as1, rfl, fr, nw⟩ := z
        refine ⟨a :: as1 ++ [], .w nw .nil, ?_⟩
        rw [List.append_nil]
        refine ⟨fr.inp, fr.non, fun b m j mj => ?_, fr.nd⟩
        rcases hB j with y | y
        · rw [y] at mj; exact fr.noA b m j mj
        · rw [y] at mj; exact List.not_mem_nil mj
    | bk α => cases e2
    | ct α => cases e2
  · cases e
theorem spV_len {np n : Nat} {b : MS} {vs : List V} {Q : VK} {E : XK} (h : spV K (mDef np n b) vs H Q E) : vs.length = np := by
  obtain ⟨p, as, A, r, as', R, e, _⟩ := h
  unfold mDef at e
  split at e
  · rename_i z
    have := R.len
    rw [List.length_map] at this
    omega
  · cases e
end
end Vm

namespace Vm
open PySem PySem.Spec PyProof.Rows L2 Gk
section
variable {K : PySem.W.Frag} {p p' p2 : List Addr} {H H' H2 : Hp} {σ σ' σ2 : L2.St} {α α' α2 α0 : AS} {A A' A2 : FT}
/-! ### calls -/
def argOf (α : AS) : Lc → Option AV
  | .d x => some (.d x)
  | .s i => (α[i]?).bind fun q => match q with
    | .un => none
    | q => some q
def argsOf (α : AS) : List Lc → Option (List AV)
  | [] => some []
  | l :: r => (argOf α l).bind fun x => (argsOf α r).bind fun xs => some (x :: xs)
def isS (k : Nat) : Lc → Bool
  | .s i => decide (i = k)
  | .d _ => false
def putBack (α : AS) (ls : List Lc) (as : List AV) : AS := α.mapIdx fun k r => if r.isRoot = true then (match ls.findIdx? (isS k) with
  | some i => (as[i]?).getD r
  | none => r) else r
def callM (F : FV) (α : AS) (ls : List Lc) : Option (Rv × AS) := (argsOf α ls).bind fun as => (F as).bind fun r => if (ls.filterMap (rootIx α)).Nodup then some (r.1, putBack α ls r.2) else none
theorem argsOf_get : ∀ {ls : List Lc} {as : List AV}, argsOf α ls = some as → as.length = ls.length ∧ ∀ (i : Nat) (l : Lc), ls[i]? = some l → ∃ a, as[i]? = some a ∧ argOf α l = some a
  | [], as, e => by cases e; exact ⟨rfl, fun i l h => by simp at h⟩
  | l :: ls, as, e => by
    simp only [argsOf, Option.bind_eq_some_iff] at e
    obtain ⟨x, e1, xs, e2, e3⟩ := e
    cases e3
    obtain ⟨h1, h2⟩ := argsOf_get e2
    refine ⟨congrArg (· + 1) h1, fun i m h => ?_⟩
    cases i with
    | zero => cases h; exact ⟨x, rfl, e1⟩
    | succ i => exact h2 i m (by simpa using h)
theorem argOf_s {k : Nat} {a : AV} (h : argOf α (.s k) = some a) : α[k]? = some a ∧ a ≠ .un := by
  simp only [argOf, Option.bind_eq_some_iff] at h
  obtain ⟨r, e1, e2⟩ := h
  cases r <;> cases e2 <;> exact ⟨e1, by intro z; cases z⟩
theorem locA_get {vs : List V} {ls : List Lc} (h : LocA K p H σ vs ls) : vs.length = ls.length ∧ ∀ (i : Nat) (l : Lc), ls[i]? = some l → ∃ v, vs[i]? = some v ∧ LocR K p H σ v l := by
  induction h with
  | nil => exact ⟨rfl, fun i l h => by simp at h⟩
  | cons h t ih =>
    refine ⟨congrArg (· + 1) ih.1, fun i l e => ?_⟩
    cases i with
    | zero => cases e; exact ⟨_, rfl, h⟩
    | succ i => exact ih.2 i l (by simpa using e)
theorem nodup_fm {τ : Type} {f : τ → Option Nat} : ∀ {l : List τ}, (l.filterMap f).Nodup → ∀ {i j : Nat} {x y : τ} {k : Nat}, l[i]? = some x → l[j]? = some y → f x = some k → f y = some k → i = j
  | [], _, i, _, _, _, _, h, _, _, _ => by simp at h
  | a :: l, nd, 0, 0, _, _, _, _, _, _, _ => rfl
  | a :: l, nd, 0, j + 1, x, y, k, h1, h2, e1, e2 => by
    exfalso
    cases h1
    rw [List.filterMap_cons, e1] at nd
    have h2' : l[j]? = some y := by simpa using h2
    exact (List.nodup_cons.mp nd).1 (List.mem_filterMap.mpr ⟨y, List.mem_of_getElem? h2', e2⟩)
  | a :: l, nd, i + 1, 0, x, y, k, h1, h2, e1, e2 => by
    exfalso
    cases h2
    rw [List.filterMap_cons, e2] at nd
    have h1' : l[i]? = some x := by simpa using h1
    exact (List.nodup_cons.mp nd).1 (List.mem_filterMap.mpr ⟨x, List.mem_of_getElem? h1', e1⟩)
  | a :: l, nd, i + 1, j + 1, x, y, k, h1, h2, e1, e2 => by
    have nd' : (l.filterMap f).Nodup := by
      rw [List.filterMap_cons] at nd
      split at nd
      · exact nd
      · exact (List.nodup_cons.mp nd).2
    exact congrArg (· + 1) (nodup_fm nd' (by simpa using h1) (by simpa using h2) e1 e2)
theorem findIdx?_isS {k : Nat} : ∀ {ls : List Lc} {i : Nat}, ls.findIdx? (isS k) = some i → ls[i]? = some (.s k)
  | [], _, h => by simp at h
  | l :: ls, i, h => by
    rw [List.findIdx?_cons] at h
    split at h
    · rename_i hl
      cases h
      cases l with
      | d x => cases hl
      | s j => cases (of_decide_eq_true hl : j = k); rfl
    · obtain ⟨j, hj, rfl⟩ := Option.map_eq_some_iff.mp h
      have := findIdx?_isS hj
      simpa using this
theorem findIdx?_none {k : Nat} : ∀ {ls : List Lc}, ls.findIdx? (isS k) = none → ∀ i : Nat, ls[i]? ≠ some (Lc.s k)
  | [], _, i, e => by simp at e
  | l :: ls, h, i, e => by
    rw [List.findIdx?_cons] at h
    split at h
    · cases h
    · rename_i hl
      have h' := Option.map_eq_none_iff.mp h
      cases i with
      | zero => cases e; exact hl (decide_eq_true rfl)
      | succ i => exact findIdx?_none h' i (by simpa using e)
def argF (ls : List Lc) (A : FT) : FT := fun i => match ls[i]? with
  | some (.s k) => A k
  | _ => []
def pbF (α : AS) (ls : List Lc) (A B : FT) : FT := fun k => if (α[k]?).any AV.isRoot = true then (match ls.findIdx? (isS k) with
  | some i => B i
  | none => A k) else A k
theorem argF_mem {ls : List Lc} {i : Nat} {b : Addr} (h : b ∈ argF ls A i) : ∃ k, ls[i]? = some (.s k) ∧ b ∈ A k := by
  unfold argF at h
  split at h
  · exact ⟨_, by assumption, h⟩
  · exact (List.not_mem_nil h).elim
theorem slot_nil {o : Option V} {f : List Addr} {r : AV} (h : SlotR K p H o f r) (n : r.isRoot = false) : f = [] := by
  cases r with
  | un => exact h
  | d x => exact h.1
  | sc x => exact h.1
  | r a b c => cases n
  | n a b c => cases n
theorem call_core {F : FV} {vs : List V} {ls : List Lc} {r : Rv} {Q : VK} {E : XK} (R : Rel K p H σ α A) (hl : LocA K p H σ vs ls) (e : callM F α ls = some (r, α'))
    (h : ∀ p' H' A' v, Rel K p' H' σ α' A' → Step p H σ α A p' H' σ α' A' → ResR K H p' H' A' v r → Q v H') : spV K F vs H Q E := by
  simp only [callM, Option.bind_eq_some_iff] at e
  obtain ⟨as, e1, ⟨r0, as'⟩, e2, e3⟩ := e
  split at e3
  · rename_i nd
    cases e3
    obtain ⟨la, ga⟩ := argsOf_get e1
    obtain ⟨lv, gv⟩ := locA_get hl
    have uni : ∀ (i j k : Nat), ls[i]? = some (.s k) → ls[j]? = some (.s k) → ∀ b, b ∈ A k → i = j := fun i j k h1 h2 b m => by
      obtain ⟨q, hq⟩ := R.has_slot m
      have hr : q.isRoot = true := by
        cases z : q.isRoot with
        | true => rfl
        | false => have := slot_nil (R.sl k q hq) z; rw [this] at m; exact (List.not_mem_nil m).elim
      have ri : rootIx α (.s k) = some k := by simp only [rootIx, hq, Option.bind_some, if_pos hr]
      exact nodup_fm nd h1 h2 ri ri
    have RA : Rel K p H (vs.map some) as (argF ls A) := by
      refine ⟨by rw [List.length_map, lv, la], fun i x h2 => ?_, fun i h => ?_, fun i => ?_, fun i j a h1 h2 => ?_, fun i a h => ?_, R.al⟩
      · obtain ⟨l, hl1⟩ := get_of_lt (l := ls) (i := i) (by have := getElem?_lt h2; omega)
        obtain ⟨y, y1, y2⟩ := ga i l hl1
        obtain ⟨v, v1, v2⟩ := gv i l hl1
        rw [h2] at y1
        cases y1
        rw [List.getElem?_map, v1]
        cases l with
        | d z =>
          cases y2
          have : argF ls A i = [] := by unfold argF; rw [hl1]
          rw [this]
          exact ⟨rfl, v, rfl, v2⟩
        | s k =>
          have : argF ls A i = A k := by unfold argF; rw [hl1]
          rw [this]
          have z := R.sl k x (argOf_s y2).1
          rw [join_of v2] at z
          exact z
      · have : ls[i]? = none := List.getElem?_eq_none_iff.mpr (by have := List.getElem?_eq_none_iff.mp h; omega)
        unfold argF
        rw [this]
      · unfold argF
        split
        · exact R.nd _
        · exact .nil
      · obtain ⟨k, k1, k2⟩ := argF_mem h1
        obtain ⟨m, m1, m2⟩ := argF_mem h2
        have e := R.dj k m a k2 m2
        subst e
        exact uni i j k k1 m1 a k2
      · obtain ⟨k, k1, k2⟩ := argF_mem h
        exact R.inp k a k2
    refine ⟨p, as, argF ls A, _, as', RA, e2, fun p1 H1 B v R1 S1 rr => ?_⟩
    have t := S1.tr RA
    have fi : ∀ {k i : Nat}, ls.findIdx? (isS k) = some i → ls[i]? = some (.s k) ∧ argF ls A i = A k := fun {k i} hh => by
      have z := findIdx?_isS hh
      exact ⟨z, by unfold argF; rw [z]⟩
    have fn : ∀ {k : Nat}, ls.findIdx? (isS k) = none → ∀ b ∈ A k, ∀ i, b ∉ argF ls A i := fun {k} hh b m i z => by
      obtain ⟨k', k1, k2⟩ := argF_mem z
      have := R.dj k k' b m k2
      subst this
      exact findIdx?_none hh i k1
    have pr : ∀ {k : Nat} {q : AV}, α[k]? = some q → q.isRoot = true → pbF α ls A B k = match ls.findIdx? (isS k) with
        | some i => B i
        | none => A k := fun {k q} hq hr => by unfold pbF; rw [hq, Option.any_some, if_pos hr]
    have pn : ∀ {k : Nat} {q : AV}, α[k]? = some q → q.isRoot = false → pbF α ls A B k = [] := fun {k q} hq hr => by unfold pbF; rw [hq, Option.any_some, if_neg (by rw [hr]; simp)]; exact slot_nil (R.sl k q hq) hr
    have pm : ∀ {k : Nat} {b : Addr}, b ∈ pbF α ls A B k → (∃ i, ls.findIdx? (isS k) = some i ∧ b ∈ B i) ∨ (ls.findIdx? (isS k) = none ∧ b ∈ A k) := fun {k b} m => by
      cases hq : α[k]? with
      | none => unfold pbF at m; rw [hq] at m; simp only [Option.any_none, Bool.false_eq_true, if_false] at m; rw [R.out k hq] at m; exact (List.not_mem_nil m).elim
      | some q =>
        cases hr : q.isRoot with
        | false => rw [pn hq hr] at m; exact (List.not_mem_nil m).elim
        | true =>
          rw [pr hq hr] at m
          cases hh : ls.findIdx? (isS k) with
          | some i => rw [hh] at m; exact .inl ⟨i, rfl, m⟩
          | none => rw [hh] at m; exact .inr ⟨rfl, m⟩
    have pg : ∀ k, (putBack α ls as')[k]? = (α[k]?).map fun r => if r.isRoot = true then (match ls.findIdx? (isS k) with
        | some i => (as'[i]?).getD r
        | none => r) else r := fun k => by unfold putBack; rw [List.getElem?_mapIdx]
    have la' : as'.length = as.length := S1.ln
    -- a slot that was handed in
    have inn : ∀ {k i : Nat} {q : AV}, α[k]? = some q → ls.findIdx? (isS k) = some i → ∃ y, as'[i]? = some y ∧ as[i]? = some q := fun {k i q} hq hh => by
      obtain ⟨z1, z3⟩ := fi hh
      obtain ⟨a, a1, a2⟩ := ga i _ z1
      obtain ⟨b1, _⟩ := argOf_s a2
      rw [hq] at b1
      cases b1
      obtain ⟨y, hy⟩ := get_of_lt (l := as') (i := i) (by have := getElem?_lt a1; omega)
      exact ⟨y, hy, a1⟩
    refine h p1 H1 (pbF α ls A B) v ⟨by unfold putBack; rw [List.length_mapIdx]; exact R.len, fun k x h2 => ?_, fun k hk => ?_, fun k => ?_, fun k m a h1 h2 => ?_, fun k a hm => ?_, R1.al⟩
      ⟨fun b o eb n => S1.keep b o eb fun i z => ?_, S1.dom, fun k b z => ?_, S1.sub, fun b m => ?_, by unfold putBack; rw [List.length_mapIdx], fun k x ek f => ⟨rfl, ?_⟩, fun k x ek f => ?_⟩ ?_
    · rw [pg] at h2
      obtain ⟨q, hq, rfl⟩ := Option.map_eq_some_iff.mp h2
      have old : (∀ c ∈ A k, ∀ u, H c = some u → H1 c = some u) → SlotR K p1 H1 (σ[k]?).join (A k) q := fun hk => (R.sl k q hq).tr t hk
      by_cases hr : q.isRoot = true
      · rw [if_pos hr, pr hq hr]
        cases hh : ls.findIdx? (isS k) with
        | some i =>
          obtain ⟨z1, z3⟩ := fi hh
          obtain ⟨y, hy, _⟩ := inn hq hh
          dsimp only
          rw [hy]
          have z := R1.sl i y hy
          obtain ⟨w, w1, w2⟩ := gv i _ z1
          have w2' : σ[k]? = some (some w) := w2
          rw [List.getElem?_map, w1] at z
          rw [w2']
          exact z
        | none =>
          dsimp only
          exact old fun c m u eu => (S1.keep c u eu (fn hh c m)).exp (R.inp k c m)
      · rw [if_neg hr]
        have hr' : q.isRoot = false := by simpa using hr
        have a0 := slot_nil (R.sl k q hq) hr'
        rw [pn hq hr', ← a0]
        exact old fun c m => by rw [a0] at m; exact (List.not_mem_nil m).elim
    · rw [pg] at hk
      have hq := Option.map_eq_none_iff.mp hk
      unfold pbF
      rw [hq]
      exact R.out k hq
    · unfold pbF
      split
      · split
        · exact R1.nd _
        · exact R.nd k
      · exact R.nd k
    · rcases pm h1 with ⟨i, f1, m1⟩ | ⟨f1, m1⟩ <;> rcases pm h2 with ⟨j, f2, m2⟩ | ⟨f2, m2⟩
      · have := R1.dj i j a m1 m2
        subst this
        have a1 := (fi f1).1
        rw [(fi f2).1] at a1
        cases a1
        rfl
      · rcases S1.new i a m1 with z | z
        · rw [(fi f1).2] at z; exact R.dj k m a z m2
        · exact (R.in_al m2 z).elim
      · rcases S1.new j a m2 with z | z
        · rw [(fi f2).2] at z; exact R.dj k m a m1 z
        · exact (R.in_al m1 z).elim
      · exact R.dj k m a m1 m2
    · rcases pm hm with ⟨i, f1, m1⟩ | ⟨f1, m1⟩
      · exact R1.inp i a m1
      · rcases S1.mono a (R.inp k a m1) with z | ⟨i, z⟩
        · exact z
        · exact (fn f1 a m1 i z).elim
    · obtain ⟨k, _, k2⟩ := argF_mem z
      exact n k k2
    · rcases pm z with ⟨i, f1, m1⟩ | ⟨f1, m1⟩
      · rcases S1.new i b m1 with z | z
        · rw [(fi f1).2] at z; exact .inl z
        · exact .inr z
      · exact .inl m1
    · rcases S1.mono b m with z | ⟨i, z⟩
      · exact .inl z
      · obtain ⟨k, _, k2⟩ := argF_mem z
        exact .inr ⟨k, k2⟩
    · have hr := isRoot_of_isFix f
      cases hh : ls.findIdx? (isS k) with
      | none => exact ⟨x, by rw [pg, ek, hh]; simp only [Option.map_some, ite_self], .refl⟩
      | some i =>
        obtain ⟨y, hy, hx⟩ := inn ek hh
        obtain ⟨_, y', hy', kin⟩ := S1.fix i x hx f
        rw [hy] at hy'
        cases hy'
        exact ⟨y, by rw [pg, ek, hh]; simp only [Option.map_some, if_pos hr, hy, Option.getD_some], kin⟩
    · rw [pg] at ek
      obtain ⟨q, hq, rfl⟩ := Option.map_eq_some_iff.mp ek
      refine ⟨q, hq, ?_⟩
      by_cases hr : q.isRoot = true
      · rw [if_pos hr] at f
        cases hh : ls.findIdx? (isS k) with
        | none => rw [hh] at f; exact f
        | some i =>
          obtain ⟨y, hy, hx⟩ := inn hq hh
          rw [hh] at f
          dsimp only at f
          rw [hy] at f
          obtain ⟨q', e1, e2⟩ := S1.nof i y hy f
          rw [hx] at e1
          cases e1
          exact e2
      · rw [if_neg hr] at f; exact f
    · have fr : ∀ bs, Fresh p1 H B bs → Fresh p1 H (pbF α ls A B) bs := fun bs fr => by
        refine ⟨fr.inp, fr.non, fun b m k z => ?_, fr.nd⟩
        rcases pm z with ⟨i, f1, m1⟩ | ⟨f1, m1⟩
        · exact fr.noA b m i m1
        · exact R.in_al m1 (fr.non b m)
      show ResR K H p1 H1 (pbF α ls A B) v r0
      cases r0 with
      | one r => obtain ⟨bs, q1, q2⟩ := rr; exact ⟨bs, q1, fr bs q2⟩
      | tup rs => obtain ⟨t, us, bs, q1, q2, q3, q4, q5⟩ := rr; exact ⟨t, us, bs, q1, q2, q3, q4, fr bs q5⟩
  · cases e3
/-! the answer as data -/
theorem ResL.frz {q : List Addr} (l : ∀ b ∈ q, b ∈ p) : ∀ {vs : List V} {rs : List R1} {as : List Addr}, (∀ b ∈ as, b ∉ q) → ResL K p H vs rs as → DzA K q H vs (rs.map R1.da)
  | _, _, _, _, .nil => .nil
  | _, _, _, n, .d h t => .cons (h.tr (tr_less l)) (ResL.frz l n t)
  | _, _, _, n, .w (r := r) h t => by
    refine .cons ?_ (ResL.frz l (fun b m => n b (List.mem_append_right _ m)) t)
    cases r with
    | r x => exact h.2.frz l (n _ (List.mem_append_left _ (List.mem_cons_self ..)))
    | n x => exact h.frz l fun b m => n b (List.mem_append_left _ m)
theorem ResL.length : ∀ {vs : List V} {rs : List R1} {as : List Addr}, ResL K p H vs rs as → vs.length = rs.length
  | _, _, _, .nil => rfl
  | _, _, _, .d _ t => congrArg (· + 1) (ResL.length t)
  | _, _, _, .w _ t => congrArg (· + 1) (ResL.length t)
theorem drop_step {as : List Addr} (R : Rel K p H σ α A) (R1 : Rel K p' H' σ' α' A') (S1 : Step p H σ α A p' H' σ' α' A') (fr : Fresh p' H A' as) :
    Rel K (p'.filter fun b => decide (b ∉ as)) H' σ' α' A' ∧ Step p H σ α A (p'.filter fun b => decide (b ∉ as)) H' σ' α' A' := by
  refine ⟨rel_drop R1 fr.noA, S1.keep, S1.dom, S1.new, fun b m => S1.sub b (List.mem_filter.mp m).1, fun b m => ?_, S1.ln, S1.fix, S1.nof⟩
  rcases S1.mono b m with z | z
  · exact .inl (List.mem_filter.mpr ⟨z, decide_eq_true fun y => R.al b m (fr.non b y)⟩)
  · exact .inr z
theorem res_da {v : V} {r : Rv} (R : Rel K p H σ α A) (R1 : Rel K p' H' σ' α' A') (S1 : Step p H σ α A p' H' σ' α' A') (h : ResR K H p' H' A' v r) :
    ∃ p2, Rel K p2 H' σ' α' A' ∧ Step p H σ α A p2 H' σ' α' A' ∧ Dz K p2 H' v r.da := by
  have less : ∀ as : List Addr, ∀ b ∈ p'.filter (fun b => decide (b ∉ as)), b ∈ p' := fun as b m => (List.mem_filter.mp m).1
  have nin : ∀ as : List Addr, ∀ b ∈ as, b ∉ p'.filter (fun b => decide (b ∉ as)) := fun as b m z => of_decide_eq_true (List.mem_filter.mp z).2 m
  cases r with
  | one r =>
    obtain ⟨as, h1, fr⟩ := h
    obtain ⟨R2, S2⟩ := drop_step R R1 S1 fr
    have z := h1.frz (less as) (nin as)
    cases z with
    | cons z _ => exact ⟨_, R2, S2, z⟩
  | tup rs =>
    obtain ⟨t, us, as, rfl, ht, hl, h1, fr⟩ := h
    obtain ⟨R2, S2⟩ := drop_step R R1 S1 fr
    exact ⟨_, R2, S2, .tup ht hl (h1.frz (less as) (nin as))⟩
theorem call_data {F : FV} {vs : List V} {ls : List Lc} {Q : VK} {E : XK} {r : Rv} (R : Rel K p H σ α A) (hl : LocA K p H σ vs ls) (e : callM F α ls = some (r, α'))
    (h : ∀ p' H' A' v, Rel K p' H' σ α' A' → Step p H σ α A p' H' σ α' A' → Dz K p' H' v r.da → Q v H') : spV K F vs H Q E := by
  refine call_core R hl e fun p1 H1 A1 v R1 S1 rr => ?_
  obtain ⟨p2, R2, S2, d⟩ := res_da R R1 S1 rr
  exact h p2 H1 A1 v R2 S2 d
/-- a def's call: with what is left out (ds) behind -/
def eCall (F : FV) (ds : List Da) (ma : MA) : ME := fun α => (ma α).bind fun x => (callM F x.2 (x.1 ++ ds.map Lc.d)).bind fun y => some (.d y.1.da, y.2)
def fCall (F : FV) (ds : List Da) (ma : MA) : MF := fun α => (ma α).bind fun x => (callM F x.2 (x.1 ++ ds.map Lc.d)).bind fun y => match y.1 with
  | .one (.w r) => some (r, y.2)
  | _ => none
inductive DfA : List V → List Da → Prop
  | nil : DfA [] []
  | non {vs : List V} {ds : List Da} : DfA vs ds → DfA (.non :: vs) (.none :: ds)
  | bl {b : Bool} {vs : List V} {ds : List Da} : DfA vs ds → DfA (.bl b :: vs) (.bool b :: ds)
  | int {i : Int} {vs : List V} {ds : List Da} : DfA vs ds → DfA (.int i :: vs) (.int i :: ds)
theorem DfA.loc : ∀ {vs : List V} {ds : List Da}, DfA vs ds → LocA K p H σ vs (ds.map Lc.d)
  | _, _, .nil => .nil
  | _, _, .non r => .cons .non (DfA.loc r)
  | _, _, .bl r => .cons (.bl _) (DfA.loc r)
  | _, _, .int r => .cons (.int _) (DfA.loc r)
theorem paired_app {α β : Type} {R : α → β → Prop} : ∀ {xs ys : List α} {us ws : List β}, Paired R xs us → Paired R ys ws → Paired R (xs ++ ys) (us ++ ws)
  | _, _, _, _, .nil, s => s
  | _, _, _, _, .cons r t, s => .cons r (paired_app t s)
theorem ref_call {F : FV} {ta : TA} {ma : MA} {E : XK} {dvs : List V} {ds : List Da} (hd : DfA dvs ds) (ha : RefA K ta ma) : RefE K (tCall (spV K F) dvs E ta) (eCall F ds ma) := ⟨fun p H σ α A l α' Q R e h => by
  simp only [eCall, Option.bind_eq_some_iff] at e
  obtain ⟨⟨ls, α1⟩, e1, ⟨r, α2⟩, e2, e4⟩ := e
  cases e4
  refine ha.go p H σ α A ls α1 _ R e1 fun p1 H1 A1 vs R1 S1 q1 => ?_
  exact call_data R1 (paired_app q1 hd.loc) e2 fun p2 H2 A2 v R2 S2 dz => h p2 H2 A2 v R2 (S1.trans R S2) dz⟩
theorem ref_fCall {F : FV} {ta : TA} {ma : MA} {E : XK} {dvs : List V} {ds : List Da} (hd : DfA dvs ds) (ha : RefA K ta ma) : RefF K (tCall (spV K F) dvs E ta) (fCall F ds ma) := ⟨fun p H σ α A r α' Q R e h => by
  simp only [fCall, Option.bind_eq_some_iff] at e
  obtain ⟨⟨ls, α1⟩, e1, ⟨r', α2⟩, e2, e3⟩ := e
  split at e3
  · rename_i w hw
    cases e3
    dsimp only at hw
    subst hw
    refine ha.go p H σ α A ls α1 _ R e1 fun p1 H1 A1 vs R1 S1 q1 => ?_
    refine call_core R1 (paired_app q1 hd.loc) e2 fun p2 H2 A2 v R2 S2 rr => ?_
    obtain ⟨as, h1, fr⟩ := rr
    cases h1 with
    | w nw t =>
      cases t
      rw [List.append_nil] at fr
      exact h p2 H2 A2 _ _ R2 (S1.trans R S2) ⟨fr.inp, fun b m => S1.dom b (fr.non b m), fr.noA, fr.nd⟩ nw
  · cases e3⟩
/-- by names -/
structure Mix (gV : List V → List V → List V) (gL : List Lc → List Lc → List Lc) : Prop where
  go : ∀ {R : V → Lc → Prop} {vs zs : List V} {ls ms : List Lc}, Paired R vs ls → Paired R zs ms → Paired R (gV vs zs) (gL ls ms)
theorem mix_app : Mix (fun vs zs => vs ++ zs) (fun ls ms => ls ++ ms) := ⟨fun a b => paired_app a b⟩
def eCallN (n m : Nat) (F : FV) (gL : List Lc → List Lc → List Lc) (ma mk : MA) : ME := fun α => (ma α).bind fun x => (mk x.2).bind fun k => if x.1.length = n ∧ k.1.length = m then
  (callM F k.2 (gL x.1 k.1)).bind fun y => some (.d y.1.da, y.2) else none
theorem ref_callN {F : FV} {ta tk : TA} {ma mk : MA} {E : XK} {n m : Nat} {gV : List V → List V → List V} {gL : List Lc → List Lc → List Lc} (hm : Mix gV gL) (ha : RefA K ta ma) (hk : RefA K tk mk) :
    RefE K (L2.tCallN n m (spV K F) gV E ta tk) (eCallN n m F gL ma mk) := ⟨fun p H σ α A l α' Q R e h => by
  simp only [eCallN, Option.bind_eq_some_iff] at e
  obtain ⟨⟨ls, α1⟩, e1, ⟨ks, α2⟩, e2, e3⟩ := e
  split at e3
  · rename_i hn
    simp only [Option.bind_eq_some_iff] at e3
    obtain ⟨⟨r, α3⟩, e4, e6⟩ := e3
    cases e6
    refine ha.go p H σ α A ls α1 _ R e1 fun p1 H1 A1 vs R1 S1 q1 => ?_
    refine hk.go p1 H1 σ α1 A1 ks α2 _ R1 e2 fun p2 H2 A2 zs R2 S2 q2 => ?_
    refine ⟨by rw [(locA_get q1).1]; exact hn.1, by rw [(locA_get q2).1]; exact hn.2, ?_⟩
    exact call_data R2 (hm.go (q1.step R1 S2) q2) e4 fun p3 H3 A3 v R3 S3 dz => h p3 H3 A3 v R3 ((S1.trans R S2).trans R S3) dz
  · cases e3⟩
/-! a, b = f(..): the targets, with those that take the thing as their own -/
def setT (t : Nat × Bool) (r : R1) (α : AS) : Option AS := match r with
  | .d x => setD t.1 x α
  | .w w => if t.2 = true then setR t.1 w α else setD t.1 w.da α
def setTs : List (Nat × Bool) → List R1 → AS → Option AS
  | [], [], α => some α
  | t :: ts, r :: rs, α => (setT t r α).bind fun β => setTs ts rs β
  | _, _, _ => none
def gsOf : List (Nat × Bool) → TGs
  | [] => gNil
  | t :: ts => gCons (gName t.1) (gsOf ts)
theorem step_setG {p0 : List Addr} {H0 : Hp} {σ0 : L2.St} {A0 : FT} {i : Nat} {q r : AV} {o : Option V} {f : List Addr} (S : Step p0 H0 σ0 α0 A0 p H σ α A) (hi : α[i]? = some q) (hf : q.isFix = false) (hr : r.isFix = false) (hn : ∀ b ∈ f, H0 b = none) :
    Step p0 H0 σ0 α0 A0 p H (σ.set i o) (α.set i r) (setF A i f) := by
  have hia : i < α.length := (List.getElem?_eq_some_iff.mp hi).1
  refine ⟨S.keep, S.dom, fun j b m => ?_, S.sub, S.mono, by rw [List.length_set]; exact S.ln, fun j s e g => ?_, fun j s e g => ?_⟩
  · rcases setF_mem m with ⟨_, m⟩ | ⟨_, m⟩
    · exact .inr (hn b m)
    · exact S.new j b m
  · obtain ⟨e1, s1, e2, k⟩ := S.fix j s e g
    have ne : j ≠ i := fun z => by subst z; rw [hi] at e2; cases e2; rw [k.fx, g] at hf; cases hf
    rw [List.getElem?_set_ne (fun z => ne z.symm), List.getElem?_set_ne (fun z => ne z.symm)]
    exact ⟨e1, s1, e2, k⟩
  · by_cases z : j = i
    · subst z
      rw [List.getElem?_set_self hia] at e
      cases e
      rw [hr] at g; cases g
    · rw [List.getElem?_set_ne (fun y => z y.symm)] at e
      exact S.nof j s e g
theorem NewR.less {q : List Addr} {a : Addr} {as : List Addr} {r : Nw} (l : ∀ b ∈ q, b ∈ p) (h : NewR K p H a as r) : NewR K q H a as r := by
  cases r with
  | r x => exact ⟨h.1, h.2.tr (tr_less l) fun o e => e⟩
  | n x => exact Nest.tr (tr_less l) (fun c m o e => e) h
theorem ResL.less {q : List Addr} (l : ∀ b ∈ q, b ∈ p) : ∀ {vs : List V} {rs : List R1} {as : List Addr}, ResL K p H vs rs as → ResL K q H vs rs as
  | _, _, _, .nil => .nil
  | _, _, _, .d h t => .d (h.tr (tr_less l)) (ResL.less l t)
  | _, _, _, .w h t => .w (h.less l) (ResL.less l t)
theorem set_many : ∀ {ts : List (Nat × Bool)} {vs : List V} {rs : List R1} {as : List Addr} {p : List Addr} {H : Hp} {σ : L2.St} {α : AS} {A : FT} {p0 : List Addr} {H0 : Hp} {σ0 : L2.St} {α0 : AS} {A0 : FT} {Q : L2.St → Hp → Prop}, Rel K p0 H0 σ0 α0 A0 → Step p0 H0 σ0 α0 A0 p H σ α A → Rel K p H σ α A → ResL K p H vs rs as → Fresh p H0 A as → setTs ts rs α = some α' →
    (∀ p' σ' A', Rel K p' H σ' α' A' → Step p0 H0 σ0 α0 A0 p' H σ' α' A' → Q σ' H) → gsOf ts vs σ H Q
  | [], vs, rs, as, p, H, σ, α, A, p0, H0, σ0, α0, A0, Q, R0, S, R, h, fr, e, q => by
    cases h with
    | nil => cases e; exact ⟨rfl, q p σ A R S⟩
    | d _ _ => cases e
    | w _ _ => cases e
  | t :: ts, vs, rs, as, p, H, σ, α, A, p0, H0, σ0, α0, A0, Q, R0, S, R, h, fr, e, q => by
    cases h with
    | nil => cases e
    | @d v x vs' rs' bs dz h2 =>
      simp only [setTs, Option.bind_eq_some_iff] at e
      obtain ⟨β, e1, e2⟩ := e
      obtain ⟨r, f1, f2, rfl⟩ := setD_some (show setD t.1 x α = some β from e1)
      have ⟨R1, S1⟩ := rel_setD R dz f1 f2
      refine ⟨_, _, rfl, ?_⟩
      refine set_many R0 (S.trans R0 S1) R1 h2 ⟨fr.inp, fr.non, fun b m i z => ?_, fr.nd⟩ e2 q
      rcases setF_mem z with ⟨_, z⟩ | ⟨_, z⟩
      · exact List.not_mem_nil z
      · exact fr.noA b m i z
    | @w a as1 w vs' rs' bs nw h2 =>
      simp only [setTs, Option.bind_eq_some_iff] at e
      obtain ⟨β, e1, e2⟩ := e
      have nds := List.nodup_append.mp fr.nd
      refine ⟨_, _, rfl, ?_⟩
      simp only [setT] at e1
      split at e1
      · obtain ⟨r, f1, f2, rfl⟩ := setR_some e1
        have R1 := rel_put R f1 (new_slot nw) nds.1 (fun b m => fr.inp b (List.mem_append_left _ m)) fun b m j _ => fr.noA b (List.mem_append_left _ m) j
        have S1 := step_setG (o := some (.ref a)) S f1 f2 (av_fix w) fun b m => fr.non b (List.mem_append_left _ m)
        refine set_many R0 S1 R1 h2 ⟨fun b m => fr.inp b (List.mem_append_right _ m), fun b m => fr.non b (List.mem_append_right _ m), fun b m i z => ?_, nds.2.1⟩ e2 q
        rcases setF_mem z with ⟨_, z⟩ | ⟨_, z⟩
        · exact nds.2.2 b z b m rfl
        · exact fr.noA b (List.mem_append_right _ m) i z
      · obtain ⟨r, f1, f2, rfl⟩ := setD_some e1
        have fr1 : Fresh p H0 A (a :: as1) := ⟨fun b m => fr.inp b (List.mem_append_left _ m), fun b m => fr.non b (List.mem_append_left _ m), fun b m => fr.noA b (List.mem_append_left _ m), nds.1⟩
        obtain ⟨R1, S1⟩ := drop_step R0 R S fr1
        have less : ∀ b ∈ p.filter (fun b => decide (b ∉ a :: as1)), b ∈ p := fun b m => (List.mem_filter.mp m).1
        have nin : ∀ b ∈ a :: as1, b ∉ p.filter (fun b => decide (b ∉ a :: as1)) := fun b m z => of_decide_eq_true (List.mem_filter.mp z).2 m
        have dz : Dz K (p.filter fun b => decide (b ∉ a :: as1)) H (.ref a) w.da := by
          cases w with
          | r x => exact nw.2.frz less (nin a (List.mem_cons_self ..))
          | n x => exact Nest.frz nw less nin
        have ⟨R2, S2⟩ := rel_setD R1 dz f1 f2
        refine set_many R0 (S1.trans R0 S2) R2 (h2.less less) ⟨fun b m => List.mem_filter.mpr ⟨fr.inp b (List.mem_append_right _ m), decide_eq_true fun z => nds.2.2 b z b m rfl⟩, fun b m => fr.non b (List.mem_append_right _ m), fun b m i z => ?_, nds.2.1⟩ e2 q
        rcases setF_mem z with ⟨_, z⟩ | ⟨_, z⟩
        · exact List.not_mem_nil z
        · exact fr.noA b (List.mem_append_right _ m) i z
def sAsgC (ts : List (Nat × Bool)) (F : FV) (ds : List Da) (ma : MA) : MS := fun α => (ma α).bind fun x => (callM F x.2 (x.1 ++ ds.map Lc.d)).bind fun y => match y.1 with
  | .tup rs => if rs.length = ts.length then (setTs ts rs y.2).bind fun β => some (.nx β) else none
  | _ => none
theorem ref_asgC {F : FV} {ta : TA} {ma : MA} {E : XK} {dvs : List V} {ds : List Da} {ts : List (Nat × Bool)} (hd : DfA dvs ds) (ha : RefA K ta ma) : RefS K (tAsg (tCall (spV K F) dvs E ta) (gTup K ts.length (gsOf ts))) (sAsgC ts F ds ma) := ⟨fun p H σ α A o D R e h => by
  simp only [sAsgC, Option.bind_eq_some_iff] at e
  obtain ⟨⟨ls, α1⟩, e1, ⟨r', α2⟩, e2, e3⟩ := e
  split at e3
  · rename_i rs hw
    dsimp only at hw
    subst hw
    split at e3
    · rename_i hl
      simp only [Option.bind_eq_some_iff] at e3
      obtain ⟨β, e4, e5⟩ := e3
      cases e5
      refine ha.go p H σ α A ls α1 _ R e1 fun p1 H1 A1 vs R1 S1 q1 => ?_
      refine call_core R1 (paired_app q1 hd.loc) e2 fun p2 H2 A2 v R2 S2 rr => ?_
      obtain ⟨t, us, as, rfl, ht, hll, h1, fr⟩ := rr
      refine ⟨t, us, rfl, .of ht, by rw [h1.length]; exact hl, ?_⟩
      exact set_many R (S1.trans R S2) R2 h1 ⟨fr.inp, fun b m => S1.dom b (fr.non b m), fr.noA, fr.nd⟩ e4 fun p3 σ3 A3 R3 S3 => h p3 H2 σ3 A3 R3 S3
    · cases e3
  · cases e3⟩
end
end Vm

namespace Vm
open PySem PySem.Spec PyProof.Rows L2 Gk
/-! ### operators, whatever the things are -/
def rOr (r s : R2) : R2 := fun x y H Q => r x y H Q ∨ s x y H Q
section
variable {X : Cx}
theorem opr_or {f : Value → Value → Sem Value} {r s : R2} (a : OpR X f r) (b : OpR X f s) : OpR X f (rOr r s) :=
  fun pins st σ H x y v u Q I rx ry q => q.elim (a pins st σ H x y v u Q I rx ry) (b pins st σ H x y v u Q I rx ry)
theorem opr_imp {g : Value → Value → Sem Value} {r r' : R2} (h : OpR X g r) (i : ∀ x y H Q, r' x y H Q → r x y H Q) : OpR X g r' :=
  fun pins s σ H x y v u Q I rx ry q => h pins s σ H x y v u Q I rx ry (i _ _ _ _ q)
theorem ixr_or {r s : R2} (a : IxR X r) (b : IxR X s) : IxR X (rOr r s) :=
  fun value slice pins st σ H x y v u Q I rx ry h hs => h.elim (fun h => a value slice pins st σ H x y v u Q I rx ry h hs) (fun h => b value slice pins st σ H x y v u Q I rx ry h hs)
def rCatU : R2 := fun x y H Q => ∃ a b xs ys, x = .ref a ∧ y = .ref b ∧ H a = some (.tup xs) ∧ H b = some (.tup ys) ∧ xs.length + ys.length ≤ sizeLine ∧
    ∀ u H', Same H H' → H' u = some (.tup (xs ++ ys)) → Q (.ref u) H'
theorem op_catU : OpR X (binaryOp .Add) rCatU :=
  opr_imp op_catA fun x y H Q h => by
    obtain ⟨a, b, xs, ys, e1, e2, ha, hb, hl, q⟩ := h
    refine ⟨a, b, xs, ys, e1, e2, .inl (.inl ha), .inl (.inl hb), hl, fun e => ?_, fun _ e => ?_, fun _ _ p hp => ?_⟩
    · exact q b H (Same.refl H) (by rw [e, List.nil_append]; exact hb)
    · exact q a H (Same.refl H) (by rw [e, List.append_nil]; exact ha)
    · exact q p _ (same_new hp) upd_same
def rSlU : V → Option Int → Option Int → Hp → VK → Prop := fun x lo hi H Q => (∃ a xs, x = .ref a ∧ H a = some (.tup xs) ∧ ∀ u H', Same H H' → H' u = some (.tup (cutV xs lo hi)) → Q (.ref u) H') ∨
  (∃ a xs, x = .ref a ∧ H a = some (.lst xs) ∧ ∀ p, H p = none → Q (.ref p) (L2.upd H p (.lst (cutV xs lo hi)))) ∨ rSlS x lo hi H Q
theorem sl_any : SlR X rSlU := by
  intro pins s σ H x v vl vu lo hi sl Q I rx hs pl pu q
  rcases q with ⟨a, xs, e, ha, q⟩ | ⟨a, xs, e, ha, q⟩ | q
  · refine sl_tupA pins s σ H x v vl vu lo hi sl Q I rx hs pl pu ?_
    refine ⟨a, xs, e, .inl (.inl ha), fun z => ?_, fun _ p hp => q p _ (same_new hp) upd_same⟩
    refine q a H (Same.refl H) ?_
    have ec : cutV xs lo hi = xs := by
      unfold cutV
      rw [z.1, z.2, List.drop_zero, Nat.sub_zero, List.take_length]
    rw [ec]
    exact ha
  · exact sl_list pins s σ H x v vl vu lo hi sl Q I rx hs pl pu ⟨a, xs, e, .inl (.inl ha), q⟩
  · exact sl_str pins s σ H x v vl vu lo hi sl Q I rx hs pl pu q
/-- + -/
def rAddI : R2 := rI0 fun i j => .int (i + j)
def rAddS : R2 := fun x y H Q => ∃ i j, x = .str i ∧ y = .str j ∧ i.length + j.length ≤ sizeLine ∧ Q (.str (i ++ j)) H
def rAddA : R2 := rOr rAddI (rOr rAddS (rOr rCatU rCat))
theorem op_addA : OpR X (binaryOp .Add) rAddA := opr_or op_add (opr_or op_add_str (opr_or op_catU op_cat))
/-- x[i] -/
def rIxTH : R2 := fun x y H Q => ∃ p xs i v, x = .ref p ∧ y = .int i ∧ H p = some (.tup xs) ∧ atI xs i = some v ∧ Q v H
def rIxLH : R2 := fun x y H Q => ∃ p xs i v, x = .ref p ∧ y = .int i ∧ H p = some (.lst xs) ∧ atI xs i = some v ∧ Q v H
def rIxA : R2 := rOr rIxLH (rOr rIxTH rIxS)
theorem ix_any : IxR X rIxA := ixr_or ix_lstH (ixr_or ix_tupH ix_str)
/-- len -/
def rLenA : List V → Hp → VK → Prop := fun xs H Q => (∃ p ys, xs = [.ref p] ∧ HasSeq H p ys ∧ Q (.int ys.length) H) ∨ (∃ z : Str, xs = [.str z] ∧ z.length ≤ sizeLine ∧ Q (.int (z.length : Nat)) H)
theorem len_any : CallR X (.builtin "len") rLenA := by
  intro pins s σ H xs us Q I r h
  rcases h with h | ⟨z, e, hz, q⟩
  · exact len_H pins s σ H xs us Q I r h
  · exact call_len pins s σ H xs us Q I r ⟨.str z, z.length, e, ⟨hz, rfl⟩, q⟩
/-- tuple(..) of a list, of a tuple -/
def rTupA : List V → Hp → VK → Prop := fun xs H Q => ∃ p ys, xs = [.ref p] ∧ HasSeq H p ys ∧ ∀ u H', Same H H' → H' u = some (.tup ys) → Q (.ref u) H'
theorem tuple_any : CallR X (.type "tuple") rTupA := by
  intro pins s σ H xs us Q I r h
  obtain ⟨p, ys, e, hp, q⟩ := h
  refine call_tuple_of pins s σ H xs us Q I r ⟨p, ys, e, ?_⟩
  rcases hp with hp | hp
  · exact .inl ⟨.of hp, fun l hl => q l _ (same_new hl) upd_same⟩
  · exact .inr ⟨.of hp, q p H (Same.refl H) hp⟩
/-- list(..) -/
def rLstA : List V → Hp → VK → Prop := fun xs H Q => (∃ p ys, xs = [.ref p] ∧ HasSeq H p ys ∧ ∀ l, H l = none → Q (.ref l) (L2.upd H l (.lst ys))) ∨
  ∃ z : Str, xs = [.str z] ∧ z.length ≤ 100000 ∧ ∀ l, H l = none → Q (.ref l) (L2.upd H l (.lst (signsV z)))
theorem list_any (calm : X.calm = true) : CallR X (.type "list") rLstA := by
  intro pins s σ H xs us Q I r h
  rcases h with h | h
  · exact list_ofH pins s σ H xs us Q I r h
  · exact call_listS calm pins s σ H xs us Q I r h
/-- all, any of a list of truths -/
def rAllH : List V → Hp → VK → Prop := fun vs H Q => ∃ (a : Addr) (bs : List Bool), vs = [V.ref a] ∧ H a = some (.lst (bs.map V.bl)) ∧ Q (.bl (bs.all id)) H
def rAnyH : List V → Hp → VK → Prop := fun vs H Q => ∃ (a : Addr) (bs : List Bool), vs = [V.ref a] ∧ H a = some (.lst (bs.map V.bl)) ∧ Q (.bl (bs.any id)) H
theorem all_H (hc : X.calm = true) : CallR X (.builtin "all") rAllH := by
  intro pins s σ H xs us Q I r h
  obtain ⟨a, bs, e, ha, q⟩ := h
  exact cr_all hc pins s σ H xs us Q I r ⟨a, bs, e, .of ha, q⟩
theorem any_H (hc : X.calm = true) : CallR X (.builtin "any") rAnyH := by
  intro pins s σ H xs us Q I r h
  obtain ⟨a, bs, e, ha, q⟩ := h
  exact cr_any hc pins s σ H xs us Q I r ⟨a, bs, e, .of ha, q⟩
end
/-! ### the same of data -/
section
variable {K : PySem.W.Frag} {p p' p2 : List Addr} {H H' H2 : Hp} {σ σ' σ2 : L2.St} {α α' α2 α0 : AS} {A A' A2 : FT}
theorem sline (n : Nat) (h : n ≤ SLIM) : n ≤ sizeLine := Nat.le_trans h (by rw [sizeLine_eq]; decide)
theorem dz_tup_new {xs : List V} {ds : List Da} {u : Addr} (s : Same H H') (hu : H' u = some (.tup xs)) (hl : xs.length ≤ LIM) (d : DzA K p H xs ds) : Dz K p H' (.ref u) (.tuple ds) := .tup hu hl (d.tr (tr_same s))
def fAdd : Da → Da → Option Da
  | .int i, .int j => some (.int (i + j))
  | .str x, .str y => if (x ++ y).length ≤ SLIM ∧ x.length + y.length ≤ SLIM then some (.str (x ++ y)) else none
  | .tuple xs, .tuple ys => if xs.length + ys.length ≤ LIM then some (.tuple (xs ++ ys)) else none
  | .list xs, .list ys => if xs.length + ys.length ≤ LIM then some (.list (xs ++ ys)) else none
  | _, _ => none
/-- data hold nothing at a free place -/
theorem rr_add : RefR2 K rAddA fAdd := by
  intro p H x y a b c Q al ha hb e q
  unfold fAdd at e
  split at e
  · cases e; cases vz_int ha; cases vz_int hb
    exact .inl ⟨_, _, rfl, rfl, q _ H (Same.refl H) (.int _)⟩
  · split at e
    · rename_i hl
      cases e
      obtain ⟨rfl, h1⟩ := vz_str ha
      obtain ⟨rfl, h2⟩ := vz_str hb
      exact .inr (.inl ⟨_, _, rfl, rfl, sline _ hl.2, q _ H (Same.refl H) (.str _ hl.1)⟩)
    · cases e
  · split at e
    · rename_i hl
      cases e
      obtain ⟨a, vs, rfl, h1, h2, h3⟩ := vz_tup ha
      obtain ⟨b, ws, rfl, g1, g2, g3⟩ := vz_tup hb
      have hv : vs.length + ws.length ≤ LIM := by rw [h3.length, g3.length]; exact hl
      exact .inr (.inr (.inl ⟨a, b, vs, ws, rfl, rfl, h1, g1, line_of hv, fun u H' s hu => q _ H' s (dz_tup_new s hu (by rw [List.length_append]; exact hv) (h3.append g3))⟩))
    · cases e
  · split at e
    · rename_i hl
      cases e
      obtain ⟨a, vs, rfl, h1, h2, h3⟩ := vz_lst ha
      obtain ⟨b, ws, rfl, g1, g2, g3⟩ := vz_lst hb
      have hv : vs.length + ws.length ≤ LIM := by rw [h3.length, g3.length]; exact hl
      refine .inr (.inr (.inr ⟨a, b, vs, ws, rfl, rfl, h1, g1, line_of hv, fun l hl => q _ _ (same_new hl) (.lst (fun m => al l m hl) upd_same (by rw [List.length_append]; exact hv) ((h3.append g3).tr (tr_same (same_new hl))))⟩))
    · cases e
  · cases e
/-! ints -/
def fI (g : Int → Int → Int) : Da → Da → Option Da
  | .int i, .int j => some (.int (g i j))
  | _, _ => none
def fIB (g : Int → Int → Bool) : Da → Da → Option Da
  | .int i, .int j => some (.bool (g i j))
  | _, _ => none
theorem rr_I {g : Int → Int → Int} : RefR2 K (rI0 fun i j => .int (g i j)) (fI g) := by
  intro p H x y a b c Q al ha hb e q
  unfold fI at e
  split at e
  · cases e; cases vz_int ha; cases vz_int hb
    exact ⟨_, _, rfl, rfl, q _ H (Same.refl H) (.int _)⟩
  · cases e
theorem rr_IB {g : Int → Int → Bool} : RefR2 K (rI0 fun i j => .bl (g i j)) (fIB g) := by
  intro p H x y a b c Q al ha hb e q
  unfold fIB at e
  split at e
  · cases e; cases vz_int ha; cases vz_int hb
    exact ⟨_, _, rfl, rfl, q _ H (Same.refl H) (.bl _)⟩
  · cases e
abbrev fSub := fI fun i j => i - j
abbrev fLt := fIB fun i j => decide (i < j)
abbrev fLe := fIB fun i j => decide (i ≤ j)
abbrev fGt := fIB fun i j => decide (j < i)
abbrev fGe := fIB fun i j => decide (j ≤ i)
def fMul : Da → Da → Option Da
  | .int i, .int j => if (-(2 ^ 64) < i ∧ i < 2 ^ 64) ∨ (-(2 ^ 64) < j ∧ j < 2 ^ 64) then some (.int (i * j)) else none
  | _, _ => none
def fMod : Da → Da → Option Da
  | .int i, .int j => if 0 < j then some (.int (i % j)) else none
  | _, _ => none
def fDiv : Da → Da → Option Da
  | .int i, .int j => if 0 < j ∧ j < 1073741824 then some (.int (i / j)) else none
  | _, _ => none
def fPow : Da → Da → Option Da
  | .int i, .int j => if 0 ≤ j ∧ j ≤ 1000000 ∧ i.natAbs < 2 ^ 64 then some (.int (i ^ j.toNat)) else none
  | _, _ => none
theorem rr_mul : RefR2 K (rI CMul fun i j => .int (i * j)) fMul := by
  intro p H x y a b c Q al ha hb e q
  unfold fMul at e
  split at e
  · split at e
    · rename_i hc
      cases e; cases vz_int ha; cases vz_int hb
      exact ⟨_, _, rfl, rfl, hc, q _ H (Same.refl H) (.int _)⟩
    · cases e
  · cases e
theorem rr_mod : RefR2 K (rI (fun _ j => 0 < j) fun i j => .int (i % j)) fMod := by
  intro p H x y a b c Q al ha hb e q
  unfold fMod at e
  split at e
  · split at e
    · rename_i hc
      cases e; cases vz_int ha; cases vz_int hb
      exact ⟨_, _, rfl, rfl, hc, q _ H (Same.refl H) (.int _)⟩
    · cases e
  · cases e
theorem rr_div : RefR2 K (rI CDiv fun i j => .int (i / j)) fDiv := by
  intro p H x y a b c Q al ha hb e q
  unfold fDiv at e
  split at e
  · split at e
    · rename_i hc
      cases e; cases vz_int ha; cases vz_int hb
      exact ⟨_, _, rfl, rfl, hc, q _ H (Same.refl H) (.int _)⟩
    · cases e
  · cases e
theorem rr_pow : RefR2 K (rI CPow fun i j => .int (i ^ j.toNat)) fPow := by
  intro p H x y a b c Q al ha hb e q
  unfold fPow at e
  split at e
  · split at e
    · rename_i hc
      cases e; cases vz_int ha; cases vz_int hb
      exact ⟨_, _, rfl, rfl, hc, q _ H (Same.refl H) (.int _)⟩
    · cases e
  · cases e
def fNeg : Da → Option Da
  | .int i => some (.int (-i))
  | _ => none
theorem rr_neg : RefR1 K (rU fun i => .int (-i)) fNeg := by
  intro p H x a c Q al ha e q
  unfold fNeg at e
  split at e
  · cases e; cases vz_int ha
    exact ⟨_, rfl, q _ H (Same.refl H) (.int _)⟩
  · cases e
/-! x[i] -/
theorem atI_dz {vs : List V} {ds : List Da} {i : Int} {d : Da} (h : DzA K p H vs ds) (e : atI ds i = some d) : ∃ v, atI vs i = some v ∧ Dz K p H v d := by
  unfold atI at e ⊢
  rw [h.length]
  obtain ⟨j, e1, e2⟩ := Option.bind_eq_some_iff.mp e
  obtain ⟨v, v1, v2⟩ := h.get e2
  exact ⟨v, by rw [e1]; exact v1, v2⟩
def fIx : Da → Da → Option Da
  | .list xs, .int i => atI xs i
  | .tuple xs, .int i => atI xs i
  | .str z, .int i => (atI z.cps.toList i).map fun c => .str ⟨#[c]⟩
  | _, _ => none
theorem rr_ix : RefR2 K rIxA fIx := by
  intro p H x y a b c Q al ha hb e q
  unfold fIx at e
  split at e
  · cases vz_int hb
    obtain ⟨a, vs, rfl, h1, h2, h3⟩ := vz_lst ha
    obtain ⟨v, v1, v2⟩ := atI_dz h3 e
    exact .inl ⟨a, vs, _, v, rfl, rfl, h1, v1, q v H (Same.refl H) v2⟩
  · cases vz_int hb
    obtain ⟨a, vs, rfl, h1, h2, h3⟩ := vz_tup ha
    obtain ⟨v, v1, v2⟩ := atI_dz h3 e
    exact .inr (.inl ⟨a, vs, _, v, rfl, rfl, h1, v1, q v H (Same.refl H) v2⟩)
  · cases vz_int hb
    obtain ⟨rfl, hz⟩ := vz_str ha
    obtain ⟨k, e1, rfl⟩ := Option.map_eq_some_iff.mp e
    exact .inr (.inr ⟨_, _, k, rfl, rfl, sline _ hz, e1, q _ H (Same.refl H) (.str _ (by show 1 ≤ SLIM; decide))⟩)
  · cases e
/-! x[a:b] -/
abbrev MO := AS → Option (Option Int × AS)
structure RefO (K : PySem.W.Frag) (t : TO) (m : MO) : Prop where
  go : ∀ p H σ α A l α' Q, Rel K p H σ α A → m α = some (l, α') → (∀ p' H' A', Rel K p' H' σ α' A' → Step p H σ α A p' H' σ α' A' → Q l H') → t σ H Q
def oNone : MO := fun α => some (none, α)
def oSome (m : ME) : MO := fun α => (m α).bind fun x => (res x.2 x.1).bind fun a => match a with
  | .int i => some (some i, x.2)
  | _ => none
theorem ref_oNone : RefO K tNoPart oNone := ⟨fun p H σ α A l α' Q R e h => by cases e; exact h p H A R .refl⟩
theorem ref_oSome {t : TE} {m : ME} (he : RefE K t m) : RefO K (tPart t) (oSome m) := ⟨fun p H σ α A l α' Q R e h => by
  simp only [oSome, Option.bind_eq_some_iff] at e
  obtain ⟨⟨x, α1⟩, e1, a, e2, e3⟩ := e
  split at e3
  · cases e3
    refine he.go p H σ α A x α1 _ R e1 fun p1 H1 A1 v R1 S1 q => ?_
    cases vz_int (res_vz R1 q e2)
    exact ⟨_, rfl, h p1 H1 A1 R1 S1⟩
  · cases e3⟩
def cutD (xs : List Da) (lo hi : Option Int) : List Da := (xs.drop (HT.sIx xs.length 0 lo)).take (HT.sIx xs.length xs.length hi - HT.sIx xs.length 0 lo)
theorem cut_dz {vs : List V} {ds : List Da} {lo hi : Option Int} (h : DzA K p H vs ds) : DzA K p H (cutV vs lo hi) (cutD ds lo hi) := by
  unfold cutV cutD
  rw [h.length]
  exact (h.drop _).take _
theorem cutV_len {vs : List V} {lo hi : Option Int} : (cutV vs lo hi).length ≤ vs.length := by
  unfold cutV
  rw [List.length_take, List.length_drop]
  omega
def fSl (lo hi : Option Int) : Da → Option Da
  | .list xs => some (.list (cutD xs lo hi))
  | .tuple xs => some (.tuple (cutD xs lo hi))
  | .str z => if (cutS z lo hi).length ≤ SLIM then some (.str (cutS z lo hi)) else none
  | _ => none
def eSl (me : ME) (ml mh : MO) : ME := fun α => (me α).bind fun x => (ml x.2).bind fun l => (mh l.2).bind fun u => (res u.2 x.1).bind fun a => (fSl l.1 u.1 a).bind fun c => some (.d c, u.2)
theorem ref_sl {te : TE} {tl th : TO} {me : ME} {ml mh : MO} (he : RefE K te me) (hl : RefO K tl ml) (hh : RefO K th mh) : RefE K (tSl rSlU te tl th) (eSl me ml mh) := ⟨fun p H σ α A l α' Q R e h => by
  simp only [eSl, Option.bind_eq_some_iff] at e
  obtain ⟨⟨x, α1⟩, e1, ⟨lo, α2⟩, e2, ⟨hi, α3⟩, e3, a, e4, c, e5, e6⟩ := e
  cases e6
  refine he.go p H σ α A x α1 _ R e1 fun p1 H1 A1 v R1 S1 q1 => ?_
  refine hl.go p1 H1 σ α1 A1 lo α2 _ R1 e2 fun p2 H2 A2 R2 S2 => ?_
  refine hh.go p2 H2 σ α2 A2 hi α3 _ R2 e3 fun p3 H3 A3 R3 S3 => ?_
  have z := res_vz R3 ((q1.step R1 S2).step R2 S3) e4
  have S := (S1.trans R S2).trans R S3
  unfold fSl at e5
  split at e5
  · cases e5
    obtain ⟨a, vs, rfl, h1, h2, h3⟩ := vz_lst z
    refine .inr (.inl ⟨a, vs, rfl, h1, fun l hl => ?_⟩)
    have s := same_new (o := .lst (cutV vs lo hi)) hl
    exact h p3 _ A3 _ (R3.same s) (S.trans R (.same s)) (.lst (not_in_of_none R3 hl) upd_same (Nat.le_trans cutV_len h2) ((cut_dz h3).tr (tr_same s)))
  · cases e5
    obtain ⟨a, vs, rfl, h1, h2, h3⟩ := vz_tup z
    exact .inl ⟨a, vs, rfl, h1, fun u H' s hu => h p3 H' A3 _ (R3.same s) (S.trans R (.same s)) (dz_tup_new s hu (Nat.le_trans cutV_len h2) (cut_dz h3))⟩
  · split at e5
    · rename_i hz
      cases e5
      obtain ⟨rfl, hs⟩ := vz_str z
      exact .inr (.inr ⟨_, rfl, sline _ hs, h p3 H3 A3 _ R3 S (.str _ hz)⟩)
    · cases e5
  · cases e5⟩
/-! len, tuple, list, all, any -/
def fLen : List Da → Option Da
  | [.list xs] => some (.int (xs.length : Nat))
  | [.tuple xs] => some (.int (xs.length : Nat))
  | [.str z] => some (.int (z.length : Nat))
  | _ => none
theorem rr_len : RefRA K rLenA fLen := by
  intro p H xs as c Q al ha e q
  unfold fLen at e
  split at e
  · cases e
    cases ha with
    | cons h r =>
      cases r
      obtain ⟨a, vs, rfl, h1, h2, h3⟩ := vz_lst h
      refine .inl ⟨a, vs, rfl, .inl h1, ?_⟩
      rw [h3.length]
      exact q _ H (Same.refl H) (.int _)
  · cases e
    cases ha with
    | cons h r =>
      cases r
      obtain ⟨a, vs, rfl, h1, h2, h3⟩ := vz_tup h
      refine .inl ⟨a, vs, rfl, .inr h1, ?_⟩
      rw [h3.length]
      exact q _ H (Same.refl H) (.int _)
  · cases e
    cases ha with
    | cons h r =>
      cases r
      obtain ⟨rfl, hz⟩ := vz_str h
      exact .inr ⟨_, rfl, sline _ hz, q _ H (Same.refl H) (.int _)⟩
  · cases e
def fTuple : List Da → Option Da
  | [.list xs] => some (.tuple xs)
  | [.tuple xs] => some (.tuple xs)
  | _ => none
theorem rr_tuple : RefRA K rTupA fTuple := by
  intro p H xs as c Q al ha e q
  unfold fTuple at e
  split at e
  · cases e
    cases ha with
    | cons h r =>
      cases r
      obtain ⟨a, vs, rfl, h1, h2, h3⟩ := vz_lst h
      exact ⟨a, vs, rfl, .inl h1, fun u H' s hu => q _ H' s (dz_tup_new s hu h2 h3)⟩
  · cases e
    cases ha with
    | cons h r =>
      cases r
      obtain ⟨a, vs, rfl, h1, h2, h3⟩ := vz_tup h
      exact ⟨a, vs, rfl, .inr h1, fun u H' s hu => q _ H' s (dz_tup_new s hu h2 h3)⟩
  · cases e
def signsD (z : Str) : List Da := z.cps.toList.map fun c => .str ⟨#[c]⟩
theorem signs_dz (z : Str) : DzA K p H (signsV z) (signsD z) := by
  unfold signsV signsD
  induction z.cps.toList with
  | nil => exact .nil
  | cons c r ih => exact .cons (.str _ (by show 1 ≤ SLIM; decide)) ih
def fList : List Da → Option (List Da)
  | [.list xs] => some xs
  | [.tuple xs] => some xs
  | [.str z] => if z.length ≤ 100000 then some (signsD z) else none
  | _ => none
def fListM (ma : MA) : MF := fun α => (ma α).bind fun x => (resA x.2 x.1).bind fun a => (fList a).bind fun c => some (.r (.list c), x.2)
theorem ref_fList {ta : TA} {ma : MA} (ha : RefA K ta ma) : RefF K (tCB rLstA ta) (fListM ma) := ⟨fun p H σ α A r α' Q R e h => by
  simp only [fListM, Option.bind_eq_some_iff] at e
  obtain ⟨⟨ls, α1⟩, e1, a, e2, c, e3, e4⟩ := e
  cases e4
  refine ha.go p H σ α A ls α1 _ R e1 fun p1 H1 A1 vs R1 S1 q1 => ?_
  have z := resA_vz R1 q1 e2
  have fin : ∀ (ys : List V) (l : Addr), ys.length ≤ LIM → DzA K p1 H1 ys c → H1 l = none → Q (.ref l) (L2.upd H1 l (.lst ys)) := fun ys l hy dy hl => by
    obtain ⟨R2, S2, nr⟩ := rel_new (o := .lst ys) R1 hl
    exact h _ _ A1 l [] R2 (S1.trans R S2) (fresh_one (List.mem_cons_self ..) (S1.dom l hl) nr) ⟨rfl, ys, upd_same, hy, dy.tr (tr_new hl (same_new hl))⟩
  unfold fList at e3
  split at e3
  · cases e3
    cases z with
    | cons h r =>
      cases r
      obtain ⟨a, vs, rfl, h1, h2, h3⟩ := vz_lst h
      exact .inl ⟨a, vs, rfl, .inl h1, fun l hl => fin vs l h2 h3 hl⟩
  · cases e3
    cases z with
    | cons h r =>
      cases r
      obtain ⟨a, vs, rfl, h1, h2, h3⟩ := vz_tup h
      exact .inl ⟨a, vs, rfl, .inr h1, fun l hl => fin vs l h2 h3 hl⟩
  · split at e3
    · rename_i hz
      cases e3
      cases z with
      | cons h r =>
        cases r
        obtain ⟨rfl, _⟩ := vz_str h
        refine .inr ⟨_, rfl, hz, fun l hl => fin _ l ?_ (signs_dz _) hl⟩
        unfold signsV
        rw [List.length_map]
        exact Nat.le_trans hz (by decide)
    · cases e3
  · cases e3⟩
def blsD : List Da → Option (List Bool)
  | [] => some []
  | .bool b :: r => (blsD r).bind fun s => some (b :: s)
  | _ :: _ => none
theorem bls_dz : ∀ {vs : List V} {ds : List Da} {bs : List Bool}, DzA K p H vs ds → blsD ds = some bs → vs = bs.map V.bl
  | _, _, _, .nil, e => by cases e; rfl
  | _, _, _, .cons (d := d) h r, e => by
    cases d with
    | bool b =>
      simp only [blsD, Option.bind_eq_some_iff] at e
      obtain ⟨s, e1, e2⟩ := e
      cases e2
      cases h
      rw [bls_dz r e1]
      rfl
    | _ => cases e
def fAll : List Da → Option Da
  | [.list xs] => (blsD xs).bind fun bs => some (.bool (bs.all id))
  | _ => none
def fAny : List Da → Option Da
  | [.list xs] => (blsD xs).bind fun bs => some (.bool (bs.any id))
  | _ => none
theorem rr_all : RefRA K rAllH fAll := by
  intro p H xs as c Q al ha e q
  unfold fAll at e
  split at e
  · obtain ⟨bs, e1, e2⟩ := Option.bind_eq_some_iff.mp e
    cases e2
    cases ha with
    | cons h r =>
      cases r
      obtain ⟨a, vs, rfl, h1, h2, h3⟩ := vz_lst h
      cases bls_dz h3 e1
      exact ⟨a, bs, rfl, h1, q _ H (Same.refl H) (.bl _)⟩
  · cases e
theorem rr_any : RefRA K rAnyH fAny := by
  intro p H xs as c Q al ha e q
  unfold fAny at e
  split at e
  · obtain ⟨bs, e1, e2⟩ := Option.bind_eq_some_iff.mp e
    cases e2
    cases ha with
    | cons h r =>
      cases r
      obtain ⟨a, vs, rfl, h1, h2, h3⟩ := vz_lst h
      cases bls_dz h3 e1
      exact ⟨a, bs, rfl, h1, q _ H (Same.refl H) (.bl _)⟩
  · cases e
end
end Vm

namespace Vm
open PySem PySem.Spec PyProof.Rows L2 Gk
/-! ### readings put together -/
def tOrE (t u : TE) : TE := fun σ H Q => t σ H Q ∨ u σ H Q
def tOrS (t u : TS) : TS := fun D σ H => t D σ H ∨ u D σ H
theorem pe_orE {X : Cx} {e : Expr} {t u : TE} (a : PE X e t) (b : PE X e u) : PE X e (tOrE t u) := ⟨fun pins s σ H Q I h => h.elim (a.run pins s σ H Q I) (b.run pins s σ H Q I)⟩
theorem ps_orS {X : Cx} {e : Stmt} {t u : TS} (a : PS X e t) (b : PS X e u) : PS X e (tOrS t u) := ⟨fun pins s σ H D I h => h.elim (a.run pins s σ H D I) (b.run pins s σ H D I)⟩
/-! ### data as the library has it -/
mutual
def toPy : Da → Option PyData
  | .none => some .none
  | .bool b => some (.bool b)
  | .int i => some (.int i)
  | .str s => some (.str s)
  | .list xs => (toPys xs).map .list
  | .tuple xs => (toPys xs).map .tuple
  | .dk _ => none
  | .dt _ => none
def toPys : List Da → Option (List PyData)
  | [] => some []
  | x :: xs => (toPy x).bind fun d => (toPys xs).bind fun ds => some (d :: ds)
end
section
variable {K : PySem.W.Frag} {p p' p2 : List Addr} {H H' H2 : Hp} {σ σ' σ2 : L2.St} {α α' α2 α0 : AS} {A A' A2 : FT}
mutual
theorem dz_dp : ∀ {v : V} {x : Da} {d : PyData}, Dz K p H v x → toPy x = some d → Dp K H v d
  | _, _, _, .non, e => by cases e; exact .non
  | _, _, _, .bl b, e => by cases e; exact .bl b
  | _, _, _, .int i, e => by cases e; exact .int i
  | _, _, _, .str x h, e => by cases e; exact .str x
  | _, _, _, .lst n r l h, e => by
    simp only [toPy, Option.map_eq_some_iff] at e
    obtain ⟨ds, e1, rfl⟩ := e
    exact .lst (.of r) (dzA_dp h e1)
  | _, _, _, .tup r l h, e => by
    simp only [toPy, Option.map_eq_some_iff] at e
    obtain ⟨ds, e1, rfl⟩ := e
    exact .tup (.of r) (dzA_dp h e1)
  | _, _, _, .dk _ _ _ _, e => by cases e
  | _, _, _, .dt _ _ _ _, e => by cases e
theorem dzA_dp : ∀ {vs : List V} {xs : List Da} {ds : List PyData}, DzA K p H vs xs → toPys xs = some ds → DpAll K H vs ds
  | _, _, _, .nil, e => by cases e; exact .nil
  | _, _, _, .cons h t, e => by
    simp only [toPys, Option.bind_eq_some_iff] at e
    obtain ⟨d, e1, ds, e2, e3⟩ := e
    cases e3
    exact .cons (dz_dp h e1) (dzA_dp t e2)
end
theorem vz_dp {v : V} {x : Da} {d : PyData} (h : Vz K p H v x) (e : toPy x = some d) : Dp K H v d := by
  cases h with
  | of h => exact dz_dp h e
  | top h =>
    cases x with
    | list xs =>
      obtain ⟨vs, h1, h2, h3⟩ := h
      simp only [toPy, Option.map_eq_some_iff] at e
      obtain ⟨ds, e1, rfl⟩ := e
      exact .lst (.of h1) (dzA_dp h3 e1)
    | dk xs => cases e
    | dt xs => cases e
    | _ => exact h.elim
/-! == -/
theorem op_eqK {X : Cx} (hK : X.K = K) (hu : X.A.units + 64 < cLine) : OpR X (compareOp .Eq) (rOr rEq (rEqD K)) := by subst hK; exact opr_or op_eq (op_eqD hu)
theorem op_neK {X : Cx} (hK : X.K = K) (hu : X.A.units + 64 < cLine) : OpR X (compareOp .NotEq) (rOr rNe (rNeD K)) := by subst hK; exact opr_or op_ne (op_neD hu)
def rEmp (neg : Bool) : R2 := fun x y H Q => ∃ a b, x = .ref a ∧ y = .ref b ∧ H b = some (.dK []) ∧ ((∃ kvs, Rd H a (.dK kvs) ∧ Q (.bl (if neg = true then decide (kvs.length ≠ 0) else decide (kvs.length = 0))) H))
theorem op_neEmp {X : Cx} (hu : X.A.units + 1 < cLine) : OpR X (compareOp .NotEq) (rEmp true) := by
  intro pins s σ H x y v u Q I rx ry h
  obtain ⟨a, b, rfl, rfl, hb, kvs, ha, q⟩ := h
  cases (show v = Value.ref a from rx)
  cases (show u = Value.ref b from ry)
  obtain ⟨_, ya, va, ra, da⟩ := dk_rd I.hok ha
  obtain ⟨_, yb, vb, rb, db⟩ := dk_of I.hok hb
  have hl : va.length = kvs.length := ra.length.symm
  have hl0 : vb.length = 0 := rb.length.symm
  refine PySem.W.keq_ne (knd := mixKind X.prog X.w) (r := true) ya yb da db (by omega) (fun e => ?_) ⟨.bl _, H, I, ?_, q⟩
  · have : va = [] := List.length_eq_zero_iff.mp (by omega)
    subst this
    exact .nil
  · show Value.bool _ = Value.bool _
    rw [hl, hl0]
    by_cases z : kvs.length = 0
    · simp [z]
    · simp [z]
theorem op_eqEmp {X : Cx} (hu : X.A.units + 1 < cLine) : OpR X (compareOp .Eq) (rEmp false) := by
  intro pins s σ H x y v u Q I rx ry h
  obtain ⟨a, b, rfl, rfl, hb, kvs, ha, q⟩ := h
  cases (show v = Value.ref a from rx)
  cases (show u = Value.ref b from ry)
  obtain ⟨_, ya, va, ra, da⟩ := dk_rd I.hok ha
  obtain ⟨_, yb, vb, rb, db⟩ := dk_of I.hok hb
  have hl : va.length = kvs.length := ra.length.symm
  have hl0 : vb.length = 0 := rb.length.symm
  refine PySem.W.keq_eq (knd := mixKind X.prog X.w) (r := true) ya yb da db (by omega) (fun e => ?_) ⟨.bl _, H, I, ?_, q⟩
  · have : va = [] := List.length_eq_zero_iff.mp (by omega)
    subst this
    exact .nil
  · show Value.bool _ = Value.bool _
    rw [hl, hl0]
    by_cases z : kvs.length = 0
    · simp [z]
    · simp [z]
/-- two texts are compared whatever stands in them -/
def strs2 : Da → Da → Option Bool
  | .str x, .str y => some (x == y)
  | _, _ => none
def fEqP (a b : Da) : Option Bool := (strs2 a b).or ((toPy a).bind fun d => (toPy b).bind fun e => if SeqAt.shaped d = true ∧ SeqAt.shaped e = true then some (PyData.eqv d e) else none)
def fEq : Da → Da → Option Da
  | .dk xs, .dk [] => some (.bool (decide (xs.length = 0)))
  | a, b => (fEqP a b).map .bool
def fNe : Da → Da → Option Da
  | .dk xs, .dk [] => some (.bool (decide (xs.length ≠ 0)))
  | a, b => (fEqP a b).map fun k => .bool (!k)
theorem strs2_some {a b : Da} {k : Bool} (e : strs2 a b = some k) : ∃ x y, a = .str x ∧ b = .str y ∧ k = (x == y) := by
  unfold strs2 at e
  split at e
  · cases e; exact ⟨_, _, rfl, rfl, rfl⟩
  · cases e
theorem eqP_some {a b : Da} {k : Bool} (e : fEqP a b = some k) : (∃ x y, a = .str x ∧ b = .str y ∧ k = (x == y)) ∨ ∃ d e, toPy a = some d ∧ toPy b = some e ∧ SeqAt.shaped d = true ∧ SeqAt.shaped e = true ∧ k = PyData.eqv d e := by
  unfold fEqP at e
  cases h : strs2 a b with
  | some j =>
    rw [h] at e
    cases e
    exact .inl (strs2_some h)
  | none =>
    rw [h, Option.none_or] at e
    simp only [Option.bind_eq_some_iff] at e
    obtain ⟨d, e1, f, e2, e3⟩ := e
    split at e3
    · rename_i h; cases e3; exact .inr ⟨d, f, e1, e2, h.1, h.2, rfl⟩
    · cases e3
/-- an empty dict that stands now as it was made: its own -/
theorem rr_eqP : ∀ p H x y a b k Q, Vz K p H x a → Vz K p H y b → fEqP a b = some k → Q (.bl k) H → rOr rEq (rEqD K) x y H Q := fun p H x y a b k Q va vb e q => by
  rcases eqP_some e with ⟨x, y, rfl, rfl, rfl⟩ | ⟨d, f, e1, e2, e3, e4, rfl⟩
  · obtain ⟨rfl, _⟩ := vz_str va
    obtain ⟨rfl, _⟩ := vz_str vb
    exact .inl ⟨rfl, by rw [dec_str]; exact q⟩
  · exact .inr ⟨d, f, vz_dp va e1, vz_dp vb e2, e3, e4, q⟩
theorem rr_neP : ∀ p H x y a b k Q, Vz K p H x a → Vz K p H y b → fEqP a b = some k → Q (.bl (!k)) H → rOr rNe (rNeD K) x y H Q := fun p H x y a b k Q va vb e q => by
  rcases eqP_some e with ⟨x, y, rfl, rfl, rfl⟩ | ⟨d, f, e1, e2, e3, e4, rfl⟩
  · obtain ⟨rfl, _⟩ := vz_str va
    obtain ⟨rfl, _⟩ := vz_str vb
    exact .inl ⟨rfl, by rw [dec_str]; exact q⟩
  · exact .inr ⟨d, f, vz_dp va e1, vz_dp vb e2, e3, e4, q⟩
def fEqS (a b : Da) : Option Da := (fEqP a b).map .bool
def fNeS (a b : Da) : Option Da := (fEqP a b).map fun k => .bool (!k)
theorem rr_eq : RefR2 K (rOr rEq (rEqD K)) fEqS := fun p H x y a b c Q al va vb e q => by
  obtain ⟨k, e1, rfl⟩ := Option.map_eq_some_iff.mp e
  exact rr_eqP p H x y a b k Q va vb e1 (q _ H (Same.refl H) (.bl k))
theorem rr_ne : RefR2 K (rOr rNe (rNeD K)) fNeS := fun p H x y a b c Q al va vb e q => by
  obtain ⟨k, e1, rfl⟩ := Option.map_eq_some_iff.mp e
  exact rr_neP p H x y a b k Q va vb e1 (q _ H (Same.refl H) (.bl _))
/-- e == {}, e != {} -/
def eEmp (neg : Bool) (ma : ME) : ME := fun α => (ma α).bind fun x => (res x.2 x.1).bind fun a => match a with
  | .dk kvs => some (.d (.bool (if neg = true then decide (kvs.length ≠ 0) else decide (kvs.length = 0))), x.2)
  | _ => none
theorem ref_emp {ta : TE} {ma : ME} {neg : Bool} (ha : RefE K ta ma) : RefE K (tOp (rEmp neg) ta tDNewK) (eEmp neg ma) := ⟨fun p H σ α A l α' Q R e h => by
  simp only [eEmp, Option.bind_eq_some_iff] at e
  obtain ⟨⟨l1, α1⟩, e1, a, e2, e3⟩ := e
  split at e3
  · rename_i kvs
    cases e3
    refine ha.go p H σ α A l1 α1 _ R e1 fun p1 H1 A1 v R1 S1 q => ?_
    intro b hb
    obtain ⟨a, xs, rfl, h1, h2, h3⟩ := vz_dk (res_vz R1 q e2)
    have s := same_new (o := .dK []) hb
    refine ⟨a, b, rfl, rfl, upd_same, xs, Rd.same (fun o e => s a o e) h1, ?_⟩
    rw [h3.length]
    exact h p1 _ A1 _ (R1.same s) (S1.trans R (.same s)) (.bl _)
  · cases e3⟩
/-! dicts: reading -/
def valA {κ τ : Type} [DecidableEq κ] (kvs : List (κ × τ)) (k : κ) : Option τ := (kvs.find? fun kv => decide (kv.1 = k)).map (·.2)
def lookD : Da → Da → Option (Option Da)
  | .dk kvs, x => (keyD x).bind fun k => some (valA kvs k)
  | .dt kvs, x => (keyT x).bind fun k => some (valA kvs k)
  | _, _ => none
theorem DzK.val (k : Key) : ∀ {xs : List (Key × V)} {ds : List (Key × Da)}, DzK K p H xs ds → (valA ds k = none ∧ valV xs k = none) ∨ ∃ v d, valA ds k = some d ∧ valV xs k = some v ∧ Dz K p H v d
  | _, _, .nil => .inl ⟨rfl, rfl⟩
  | _, _, .cons (k := j) h d t => by
    by_cases e : j = k
    · exact .inr ⟨_, _, by simp [valA, e], by rw [valV_pos (by exact e)], d⟩
    · rcases DzK.val k t with ⟨h1, h2⟩ | ⟨v, d', h1, h2, h3⟩
      · exact .inl ⟨by simpa [valA, List.find?_cons, e] using h1, by rw [valV_neg (by exact e)]; exact h2⟩
      · exact .inr ⟨v, d', by simpa [valA, List.find?_cons, e] using h1, by rw [valV_neg (by exact e)]; exact h2, h3⟩
theorem DzT.val (k : List Key) : ∀ {xs : List (List Key × V)} {ds : List (List Key × Da)}, DzT K p H xs ds → (valA ds k = none ∧ valV xs k = none) ∨ ∃ v d, valA ds k = some d ∧ valV xs k = some v ∧ Dz K p H v d
  | _, _, .nil => .inl ⟨rfl, rfl⟩
  | _, _, .cons (k := j) h d t => by
    by_cases e : j = k
    · exact .inr ⟨_, _, by simp [valA, e], by rw [valV_pos (by exact e)], d⟩
    · rcases DzT.val k t with ⟨h1, h2⟩ | ⟨v, d', h1, h2, h3⟩
      · exact .inl ⟨by simpa [valA, List.find?_cons, e] using h1, by rw [valV_neg (by exact e)]; exact h2⟩
      · exact .inr ⟨v, d', by simpa [valA, List.find?_cons, e] using h1, by rw [valV_neg (by exact e)]; exact h2, h3⟩
theorem vz_key {v : V} {x : Da} {k : Key} (h : Vz K p H v x) (e : keyD x = some k) : v = kV k ∧ KeyOk k := by
  cases x with
  | int i => cases e; exact ⟨vz_int h, trivial⟩
  | str s => cases e; exact ⟨(vz_str h).1, (vz_str h).2⟩
  | _ => cases e
theorem dzA_keys : ∀ {vs : List V} {xs : List Da} {ks : List Key}, DzA K p H vs xs → keysD xs = some ks → vs = ks.map kV ∧ (∀ k ∈ ks, KeyOk k) ∧ ks.length = xs.length
  | _, _, _, .nil, e => by cases e; exact ⟨rfl, fun k m => (List.not_mem_nil m).elim, rfl⟩
  | _, _, _, .cons h t, e => by
    simp only [keysD, Option.bind_eq_some_iff] at e
    obtain ⟨k, e1, ks, e2, e3⟩ := e
    cases e3
    obtain ⟨h1, h2⟩ := vz_key (.of h) e1
    obtain ⟨h3, h4, h5⟩ := dzA_keys t e2
    refine ⟨by rw [h1, h3]; rfl, fun j m => ?_, congrArg (· + 1) h5⟩
    rcases List.mem_cons.mp m with rfl | m
    · exact h2
    · exact h4 j m
theorem vz_keyT {v : V} {x : Da} {k : List Key} (h : Vz K p H v x) (e : keyT x = some k) : ∃ b, v = .ref b ∧ H b = some (.tup (k.map kV)) ∧ (∀ j ∈ k, KeyOk j) ∧ k.length ≤ LIM := by
  cases x with
  | tuple xs =>
    obtain ⟨a, vs, rfl, h1, h2, h3⟩ := vz_tup h
    obtain ⟨h4, h5, h6⟩ := dzA_keys h3 e
    subst h4
    exact ⟨a, rfl, h1, h5, by rw [h6, ← h3.length]; exact h2⟩
  | _ => cases e
theorem look_get {vd vk : V} {x k : Da} {r : Option Da} (hd : Vz K p H vd x) (hk : Vz K p H vk k) (e : lookD x k = some r) :
    ∃ a o, vd = .ref a ∧ DGet H a vk o ∧ IsD H a ∧ ((r = none ∧ o = none) ∨ ∃ v d, r = some d ∧ o = some v ∧ Dz K p H v d) := by
  cases x with
  | dk kvs =>
    simp only [lookD, Option.bind_eq_some_iff] at e
    obtain ⟨j, e1, e2⟩ := e
    cases e2
    obtain ⟨rfl, _⟩ := vz_key hk e1
    obtain ⟨a, xs, rfl, h1, h2, h3⟩ := vz_dk hd
    refine ⟨a, valV xs j, rfl, .inl ⟨xs, j, h1, rfl, rfl⟩, .inl ⟨_, h1⟩, ?_⟩
    rcases h3.val j with ⟨q1, q2⟩ | ⟨v, d, q1, q2, q3⟩
    · exact .inl ⟨q1, q2⟩
    · exact .inr ⟨v, d, q1, q2, q3⟩
  | dt kvs =>
    simp only [lookD, Option.bind_eq_some_iff] at e
    obtain ⟨j, e1, e2⟩ := e
    cases e2
    obtain ⟨b, rfl, hb, _, _⟩ := vz_keyT hk e1
    obtain ⟨a, xs, rfl, h1, h2, h3⟩ := vz_dt hd
    refine ⟨a, valV xs j, rfl, .inr ⟨xs, j, b, h1, rfl, hb, rfl⟩, .inr ⟨_, h1⟩, ?_⟩
    rcases h3.val j with ⟨q1, q2⟩ | ⟨v, d, q1, q2, q3⟩
    · exact .inl ⟨q1, q2⟩
    · exact .inr ⟨v, d, q1, q2, q3⟩
  | _ => cases e
def Da.isDict : Da → Bool
  | .dk _ => true
  | .dt _ => true
  | _ => false
/-- x[i], d[k] -/
def fSubs (a b : Da) : Option Da := if a.isDict = true then (lookD a b).bind id else fIx a b
theorem ref_sub {ta tb : TE} {ma mb : ME} (ha : RefE K ta ma) (hb : RefE K tb mb) : RefE K (tOrE (tOp rIxA ta tb) (tDGet ta tb)) (eOp fSubs ma mb) := ⟨fun p H σ α A l α' Q R e h => by
  have e0 := e
  simp only [eOp, Option.bind_eq_some_iff] at e
  obtain ⟨⟨l1, α1⟩, e1, ⟨l2, α2⟩, e2, a, e3, b, e4, c, e5, e6⟩ := e
  cases e6
  by_cases hd : a.isDict = true
  · right
    unfold fSubs at e5
    rw [if_pos hd] at e5
    obtain ⟨r, e7, e8⟩ := Option.bind_eq_some_iff.mp e5
    refine ha.go p H σ α A l1 α1 _ R e1 fun p1 H1 A1 v R1 S1 q1 => ?_
    refine hb.go p1 H1 σ α1 A1 l2 α2 _ R1 e2 fun p2 H2 A2 w R2 S2 q2 => ?_
    obtain ⟨ad, o, rfl, g, _, z⟩ := look_get (res_vz R2 (q1.step R1 S2) e3) (res_vz R2 q2 e4) e7
    rcases z with ⟨z, _⟩ | ⟨v, d, z1, z2, z3⟩
    · subst z; cases e8
    · subst z1
      cases e8
      subst z2
      exact ⟨ad, v, rfl, g, h p2 H2 A2 v R2 (S1.trans R S2) z3⟩
  · left
    refine (ref_op rr_ix ha hb).go p H σ α A _ α2 Q R ?_ h
    simp only [eOp, Option.bind_eq_some_iff]
    unfold fSubs at e5
    rw [if_neg hd] at e5
    exact ⟨⟨l1, α1⟩, e1, ⟨l2, α2⟩, e2, a, e3, b, e4, c, e5, rfl⟩⟩
/-- d.get(k), d.get(k, x) -/
def eGet1 (ma mb : ME) : ME := fun α => (ma α).bind fun x => (res x.2 x.1).bind fun a0 => if a0.isDict = true then (mb x.2).bind fun y => (res y.2 x.1).bind fun a => (res y.2 y.1).bind fun b => (lookD a b).bind fun r => some (.d (r.getD .none), y.2) else none
theorem isd_of {v : V} {x : Da} (h : Vz K p H v x) (d : x.isDict = true) : ∃ a, v = .ref a ∧ IsD H a := by
  cases x with
  | dk kvs => obtain ⟨a, xs, rfl, h1, _⟩ := vz_dk h; exact ⟨a, rfl, .inl ⟨_, h1⟩⟩
  | dt kvs => obtain ⟨a, xs, rfl, h1, _⟩ := vz_dt h; exact ⟨a, rfl, .inr ⟨_, h1⟩⟩
  | _ => cases d
theorem ref_get1 {ta tb : TE} {ma mb : ME} (ha : RefE K ta ma) (hb : RefE K tb mb) : RefE K (tDGet1 ta tb) (eGet1 ma mb) := ⟨fun p H σ α A l α' Q R e h => by
  simp only [eGet1, Option.bind_eq_some_iff] at e
  obtain ⟨⟨l1, α1⟩, e1, a0, e0, e⟩ := e
  split at e
  · rename_i hd
    simp only [Option.bind_eq_some_iff] at e
    obtain ⟨⟨l2, α2⟩, e2, a, e3, b, e4, r, e5, e6⟩ := e
    cases e6
    refine ha.go p H σ α A l1 α1 _ R e1 fun p1 H1 A1 v R1 S1 q1 => ?_
    obtain ⟨ad, rfl, isd⟩ := isd_of (res_vz R1 q1 e0) hd
    refine ⟨ad, rfl, isd, ?_⟩
    refine hb.go p1 H1 σ α1 A1 l2 α2 _ R1 e2 fun p2 H2 A2 w R2 S2 q2 => ?_
    obtain ⟨ad', o, ed, g, _, z⟩ := look_get (res_vz R2 (q1.step R1 S2) e3) (res_vz R2 q2 e4) e5
    cases ed
    refine ⟨o, g, ?_⟩
    rcases z with ⟨rfl, rfl⟩ | ⟨v, d, rfl, rfl, z3⟩
    · exact h p2 H2 A2 _ R2 (S1.trans R S2) .non
    · exact h p2 H2 A2 v R2 (S1.trans R S2) z3
  · cases e⟩
def eGet2 (ma mb mc : ME) : ME := fun α => (ma α).bind fun x => (res x.2 x.1).bind fun a0 => if a0.isDict = true then (mb x.2).bind fun y => (mc y.2).bind fun z => (res z.2 x.1).bind fun a => (res z.2 y.1).bind fun b => (own z.2 z.1).bind fun c => (lookD a b).bind fun r => some (.d (r.getD c), z.2) else none
theorem ref_get2 {ta tb tc : TE} {ma mb mc : ME} (ha : RefE K ta ma) (hb : RefE K tb mb) (hc : RefE K tc mc) : RefE K (tDGet2 ta tb tc) (eGet2 ma mb mc) := ⟨fun p H σ α A l α' Q R e h => by
  simp only [eGet2, Option.bind_eq_some_iff] at e
  obtain ⟨⟨l1, α1⟩, e1, a0, e0, e⟩ := e
  split at e
  · rename_i hd
    simp only [Option.bind_eq_some_iff] at e
    obtain ⟨⟨l2, α2⟩, e2, ⟨l3, α3⟩, e7, a, e3, b, e4, c, e8, r, e5, e6⟩ := e
    cases e6
    refine ha.go p H σ α A l1 α1 _ R e1 fun p1 H1 A1 v R1 S1 q1 => ?_
    obtain ⟨ad, rfl, isd⟩ := isd_of (res_vz R1 q1 e0) hd
    refine ⟨ad, rfl, isd, ?_⟩
    refine hb.go p1 H1 σ α1 A1 l2 α2 _ R1 e2 fun p2 H2 A2 w R2 S2 q2 => ?_
    refine hc.go p2 H2 σ α2 A2 l3 α3 _ R2 e7 fun p3 H3 A3 u R3 S3 q3 => ?_
    obtain ⟨ad', o, ed, g, _, z⟩ := look_get (res_vz R3 ((q1.step R1 S2).step R2 S3) e3) (res_vz R3 (q2.step R2 S3) e4) e5
    cases ed
    refine ⟨o, g, ?_⟩
    have S := (S1.trans R S2).trans R S3
    rcases z with ⟨rfl, rfl⟩ | ⟨v, d, rfl, rfl, z3⟩
    · exact h p3 H3 A3 u R3 S (own_dz R3 q3 e8)
    · exact h p3 H3 A3 v R3 S z3
  · cases e⟩
/-! in -/
def flatD : Da → Bool
  | .none => true
  | .bool _ => true
  | .int _ => true
  | .str _ => true
  | _ => false
def eqF : Da → Da → Bool
  | .none, .none => true
  | .bool a, .bool b => a == b
  | .bool a, .int b => (if a then 1 else 0) == b
  | .int a, .bool b => a == (if b then 1 else 0)
  | .int a, .int b => a == b
  | .str a, .str b => a == b
  | _, _ => false
def rInH (neg : Bool) : R2 := fun x y H Q => ∃ p xs, y = .ref p ∧ HasSeq H p xs ∧ flatV x = true ∧ xs.all flatV = true ∧ Q (.bl (if neg = true then !inV x xs else inV x xs)) H
theorem op_inH {X : Cx} : OpR X (compareOp .In) (rInH false) := opr_imp in_H fun x y H Q ⟨p, xs, h1, h2, h3, h4, h5⟩ => ⟨p, xs, h1, h2, h3, h4, h5⟩
theorem op_notInH {X : Cx} : OpR X (compareOp .NotIn) (rInH true) := opr_imp op_notIn_seq fun x y H Q ⟨p, xs, h1, h2, h3, h4, h5⟩ => ⟨p, xs, h1, h2.elim (fun z => .inl (.of z)) (fun z => .inr (.of z)), h3, h4, h5⟩
def rInS (neg : Bool) : R2 := fun x y H Q => ∃ (c : Nat) (z : Str), x = .str ⟨#[c]⟩ ∧ y = .str z ∧ Q (.bl (if neg = true then !decide (c ∈ z.cps.toList) else decide (c ∈ z.cps.toList))) H
theorem op_inSg {X : Cx} : OpR X (compareOp .In) (rInS false) := opr_imp op_in_sign fun x y H Q ⟨c, z, h1, h2, h3⟩ => ⟨c, z, h1, h2, h3⟩
theorem op_notInSg {X : Cx} : OpR X (compareOp .NotIn) (rInS true) := opr_imp op_notIn_sign fun x y H Q ⟨c, z, h1, h2, h3⟩ => ⟨c, z, h1, h2, h3⟩
def rInDl (neg : Bool) (K : PySem.W.Frag) : R2 := fun x y H Q => ∃ d ds, Dp K H x d ∧ Dp K H y (.list ds) ∧ SeqAt.shaped d = true ∧ SeqAt.shaped (.list ds) = true ∧ Q (.bl (if neg = true then !(ds.any fun z => PyData.eqv z d) else ds.any fun z => PyData.eqv z d)) H
theorem op_inDl {X : Cx} (hK : X.K = K) (hu : X.A.units + 65 < cLine) : OpR X (compareOp .In) (rInDl false K) := by subst hK; exact opr_imp (op_inD hu) fun x y H Q h => h
theorem op_notInDl {X : Cx} (hK : X.K = K) (hu : X.A.units + 65 < cLine) : OpR X (compareOp .NotIn) (rInDl true K) := by subst hK; exact opr_imp (op_notInD hu) fun x y H Q h => h
def rInA (neg : Bool) (K : PySem.W.Frag) : R2 := rOr (rInH neg) (rOr (rInS neg) (rInDl neg K))
theorem op_inA {X : Cx} (hK : X.K = K) (hu : X.A.units + 65 < cLine) : OpR X (compareOp .In) (rInA false K) := opr_or op_inH (opr_or op_inSg (op_inDl hK hu))
theorem op_notInA {X : Cx} (hK : X.K = K) (hu : X.A.units + 65 < cLine) : OpR X (compareOp .NotIn) (rInA true K) := opr_or op_notInH (opr_or op_notInSg (op_notInDl hK hu))
theorem flat_v {v : V} {x : Da} (h : Vz K p H v x) (f : flatD x = true) : flatV v = true ∧ ∀ {w : V} {y : Da}, Vz K p H w y → flatD y = true → eqV w v = eqF y x := by
  have nx : ∀ {w : V} {y : Da}, Vz K p H w y → flatD y = true → (w = .non ∧ y = .none) ∨ (∃ b, w = .bl b ∧ y = .bool b) ∨ (∃ i, w = .int i ∧ y = .int i) ∨ ∃ s, w = .str s ∧ y = .str s := fun {w y} h f => by
    cases y with
    | none => exact .inl ⟨vz_non h, rfl⟩
    | bool b => exact .inr (.inl ⟨b, vz_bl h, rfl⟩)
    | int i => exact .inr (.inr (.inl ⟨i, vz_int h, rfl⟩))
    | str s => exact .inr (.inr (.inr ⟨s, (vz_str h).1, rfl⟩))
    | _ => cases f
  refine ⟨?_, fun {w y} hw fw => ?_⟩
  · rcases nx h f with ⟨rfl, rfl⟩ | ⟨b, rfl, rfl⟩ | ⟨i, rfl, rfl⟩ | ⟨s, rfl, rfl⟩ <;> rfl
  · rcases nx h f with ⟨rfl, rfl⟩ | ⟨b, rfl, rfl⟩ | ⟨i, rfl, rfl⟩ | ⟨s, rfl, rfl⟩ <;> rcases nx hw fw with ⟨rfl, rfl⟩ | ⟨c, rfl, rfl⟩ | ⟨j, rfl, rfl⟩ | ⟨t, rfl, rfl⟩ <;> rfl
theorem flat_all {v : V} {x : Da} (h : Vz K p H v x) (f : flatD x = true) : ∀ {vs : List V} {xs : List Da}, DzA K p H vs xs → xs.all flatD = true → vs.all flatV = true ∧ inV v vs = xs.any fun y => eqF y x
  | _, _, .nil, _ => ⟨rfl, rfl⟩
  | _, _, .cons h1 t, fa => by
    rw [List.all_cons, Bool.and_eq_true] at fa
    obtain ⟨a, b⟩ := flat_all h f t fa.2
    refine ⟨by rw [List.all_cons, (flat_v (.of h1) fa.1).1, a]; rfl, ?_⟩
    show List.any _ _ = _
    rw [List.any_cons, List.any_cons, (flat_v h f).2 (.of h1) fa.1]
    exact congrArg _ b
def itemsD : Da → Option (List Da)
  | .list xs => some xs
  | .tuple xs => some xs
  | _ => none
def fInB (x : Da) : Da → Option Bool
  | .str z => match x with
    | .str ⟨⟨[c]⟩⟩ => some (decide (c ∈ z.cps.toList))
    | _ => none
  | .tuple xs => if flatD x = true ∧ xs.all flatD = true then some (xs.any fun y => eqF y x) else none
  | .list xs => if flatD x = true ∧ xs.all flatD = true then some (xs.any fun y => eqF y x) else
      (toPy x).bind fun d => (toPys xs).bind fun ds => if SeqAt.shaped d = true ∧ SeqAt.shaped (.list ds) = true then some (ds.any fun z => PyData.eqv z d) else none
  | y => (lookD y x).bind fun r => some r.isSome
def fIn (neg : Bool) (x y : Da) : Option Da := (fInB x y).map fun k => .bool (if neg = true then !k else k)
theorem ref_in_ {neg : Bool} {ta tb : TE} {ma mb : ME} {td : TE} (hd : td = if neg = true then tDNotIn ta tb else tDIn ta tb) (ha : RefE K ta ma) (hb : RefE K tb mb) : RefE K (tOrE (tOp (rInA neg K) ta tb) td) (eOp (fIn neg) ma mb) := ⟨fun p H σ α A l α' Q R e h => by
  simp only [eOp, Option.bind_eq_some_iff] at e
  obtain ⟨⟨l1, α1⟩, e1, ⟨l2, α2⟩, e2, a, e3, b, e4, c, e5, e6⟩ := e
  cases e6
  obtain ⟨k, e7, rfl⟩ := Option.map_eq_some_iff.mp e5
  have seq : (∀ p2 H2 A2 v w, Rel K p2 H2 σ α2 A2 → Vz K p2 H2 v a → Vz K p2 H2 w b → Q (.bl (if neg = true then !k else k)) H2 → rInA neg K v w H2 Q) → tOrE (tOp (rInA neg K) ta tb) td σ H Q := fun f => by
    left
    refine ha.go p H σ α A l1 α1 _ R e1 fun p1 H1 A1 v R1 S1 q1 => ?_
    refine hb.go p1 H1 σ α1 A1 l2 α2 _ R1 e2 fun p2 H2 A2 w R2 S2 q2 => ?_
    exact f p2 H2 A2 v w R2 (res_vz R2 (q1.step R1 S2) e3) (res_vz R2 q2 e4) (h p2 H2 A2 _ R2 (S1.trans R S2) (.bl _))
  have dic : ∀ r, lookD b a = some r → k = r.isSome → tOrE (tOp (rInA neg K) ta tb) td σ H Q := fun r el ek => by
    right
    subst hd
    cases neg with
    | true =>
      refine ha.go p H σ α A l1 α1 _ R e1 fun p1 H1 A1 v R1 S1 q1 => ?_
      refine hb.go p1 H1 σ α1 A1 l2 α2 _ R1 e2 fun p2 H2 A2 w R2 S2 q2 => ?_
      obtain ⟨ad, o, rfl, g, _, z⟩ := look_get (res_vz R2 q2 e4) (res_vz R2 (q1.step R1 S2) e3) el
      have ek' : o.isSome = k := by rcases z with ⟨rfl, rfl⟩ | ⟨v, d, rfl, rfl, _⟩ <;> exact ek.symm
      refine ⟨ad, o, rfl, g, ?_⟩
      rw [ek']
      exact h p2 H2 A2 _ R2 (S1.trans R S2) (.bl _)
    | false =>
      refine ha.go p H σ α A l1 α1 _ R e1 fun p1 H1 A1 v R1 S1 q1 => ?_
      refine hb.go p1 H1 σ α1 A1 l2 α2 _ R1 e2 fun p2 H2 A2 w R2 S2 q2 => ?_
      obtain ⟨ad, o, rfl, g, _, z⟩ := look_get (res_vz R2 q2 e4) (res_vz R2 (q1.step R1 S2) e3) el
      have ek' : o.isSome = k := by rcases z with ⟨rfl, rfl⟩ | ⟨v, d, rfl, rfl, _⟩ <;> exact ek.symm
      refine ⟨ad, o, rfl, g, ?_⟩
      rw [ek']
      exact h p2 H2 A2 _ R2 (S1.trans R S2) (.bl _)
  cases b with
  | str z =>
    simp only [fInB] at e7
    split at e7
    · cases e7
      exact seq fun p2 H2 A2 v w R2 hv hw q => .inr (.inl ⟨_, z, (vz_str hv).1, (vz_str hw).1, q⟩)
    · cases e7
  | tuple xs =>
    simp only [fInB] at e7
    split at e7
    · rename_i hf
      cases e7
      refine seq fun p2 H2 A2 v w R2 hv hw q => ?_
      obtain ⟨ad, vs, rfl, h1, h2, h3⟩ := vz_tup hw
      obtain ⟨f1, f2⟩ := flat_all hv hf.1 h3 hf.2
      exact .inl ⟨ad, vs, rfl, .inr h1, (flat_v hv hf.1).1, f1, by rw [f2]; exact q⟩
    · cases e7
  | list xs =>
    simp only [fInB] at e7
    split at e7
    · rename_i hf
      cases e7
      refine seq fun p2 H2 A2 v w R2 hv hw q => ?_
      obtain ⟨ad, vs, rfl, h1, h2, h3⟩ := vz_lst hw
      obtain ⟨f1, f2⟩ := flat_all hv hf.1 h3 hf.2
      exact .inl ⟨ad, vs, rfl, .inl h1, (flat_v hv hf.1).1, f1, by rw [f2]; exact q⟩
    · simp only [Option.bind_eq_some_iff] at e7
      obtain ⟨d, f1, ds, f2, f3⟩ := e7
      split at f3
      · rename_i hs
        cases f3
        refine seq fun p2 H2 A2 v w R2 hv hw q => .inr (.inr ⟨d, ds, vz_dp hv f1, vz_dp hw ?_, hs.1, hs.2, q⟩)
        simp only [toPy, f2, Option.map_some]
      · cases f3
  | dk kvs =>
    simp only [fInB, Option.bind_eq_some_iff] at e7
    obtain ⟨r, f1, f2⟩ := e7
    cases f2
    exact dic r f1 rfl
  | dt kvs =>
    simp only [fInB, Option.bind_eq_some_iff] at e7
    obtain ⟨r, f1, f2⟩ := e7
    cases f2
    exact dic r f1 rfl
  | _ => simp [fInB, lookD] at e7⟩
end
end Vm

namespace Vm
open PySem PySem.Spec PyProof.Rows L2 Gk
section
variable {prog : Program} {w : World} {κ : Type} [DecidableEq κ] {knd : HeapKind prog w κ} {A : Around} {E : Value → Shared → Prop} {s : Shared}
theorem truthy_dictH {d : Addr} {es : List (κ × Addr × Value)} {Q : Bool → Shared → Prop} (plain : (d == sysModules) = false) (at_ : s.heap.DictOfH knd d es) (few : (es.length : Int) < 2 ^ 63)
    (fin : Q (!es.isEmpty) { s with toks := s.toks + 1 + 1 }) : wpAny (model prog w) A (truthy (.ref d)) Q E s := by
  have yes : ((es.length : Int) != 0) = !es.isEmpty := by
    cases es with
    | nil => rfl
    | cons _ _ => simp; omega
  have body : wpAny (model prog w) A (runValue (.builtin "len" ⟨[.ref d], []⟩)) (fun n s1 => n = .int es.length (s.toks + 1) ∧ Q (!es.isEmpty) s1) E s := by
    apply wpAny_runValue
    apply codeAny_builtin entry_len
    rw [Around.under_plainId plain_len _]
    apply wpAny_mono (wpAny_len_body_dictH (Q := fun n s1 => n = .int es.length (s.toks + 1) ∧ Q (!es.isEmpty) s1) plain at_ few ⟨rfl, fin⟩)
    · rintro _ s1 ⟨n, rfl, q⟩
      exact q
    · exact fun _ _ q => q
  unfold truthy
  first
    | refine wpAny_bind (wpAny_callSpecial?_none (name := Str.ofString "__bool__") at_.typeIs noBool_dict (wpAny_bind (wpAny_specialOf (name := Str.ofString "__len__") at_.typeIs F.slot_dict_len.lookup ?_)))
    | refine wpAny_bind (wpAny_pure (wpAny_bind (wpAny_callSpecial?_none (name := Str.ofString "__bool__") at_.typeIs noBool_dict (wpAny_bind (wpAny_specialOf (name := Str.ofString "__len__") at_.typeIs F.slot_dict_len.lookup ?_)))))
    | refine wpAny_bind (wpAny_callSpecial?_none (name := Str.ofString "__bool__") at_.typeIs noBool_dict (wpAny_bind (wpAny_pure (wpAny_bind (wpAny_specialOf (name := Str.ofString "__len__") at_.typeIs F.slot_dict_len.lookup ?_)))))
    | refine wpAny_bind (wpAny_pure (wpAny_bind (wpAny_callSpecial?_none (name := Str.ofString "__bool__") at_.typeIs noBool_dict (wpAny_bind (wpAny_pure (wpAny_bind (wpAny_specialOf (name := Str.ofString "__len__") at_.typeIs F.slot_dict_len.lookup ?_)))))))
  first
    | exact wpAny_bind (thn body fun n s1 q => by obtain ⟨rfl, q⟩ := q; exact wpAny_pure (yes ▸ q))
    | exact wpAny_bind (wpAny_pure (wpAny_bind (thn body fun n s1 q => by obtain ⟨rfl, q⟩ := q; exact wpAny_pure (yes ▸ q))))
end
section
variable {K : PySem.W.Frag} {p p' p2 : List Addr} {H H' H2 : Hp} {σ σ' σ2 : L2.St} {α α' α2 α0 : AS} {A A' A2 : FT}
/-! ### truth -/
def truD : Da → Bool
  | .none => false
  | .bool b => b
  | .int i => i != 0
  | .str s => (s.length : Int) != 0
  | .list xs => !xs.isEmpty
  | .tuple xs => !xs.isEmpty
  | .dk xs => !xs.isEmpty
  | .dt xs => !xs.isEmpty
def rTru (x : V) (H : Hp) (Q : Bool → Hp → Prop) : Prop :=
  match x with
  | .non => Q false H
  | .bl b => Q b H
  | .int i => Q (i != 0) H
  | .str y => y.length ≤ sizeLine ∧ Q ((y.length : Int) != 0) H
  | .ref p => (∃ xs, HasSeq H p xs ∧ Q (!xs.isEmpty) H) ∨ (∃ kvs, Rd H p (.dK kvs) ∧ Q (!kvs.isEmpty) H) ∨ ∃ kvs, Rd H p (.dT kvs) ∧ Q (!kvs.isEmpty) H
  | _ => False
theorem empty_of {τ υ : Type} {xs : List τ} {ys : List υ} (h : xs.length = ys.length) : (!xs.isEmpty) = !ys.isEmpty := by
  cases xs <;> cases ys <;> first | rfl | cases h
theorem tru_any {X : Cx} : TruR X rTru := by
  intro pins s σ H x v Q I rx h
  have seq : ∀ k, TruV X.K x H k → Q k H → wpAny (model X.prog X.w) X.A (truthy v) (TP X pins σ Q) X.xe s := fun k t q => tru_ok pins s σ H x v Q I rx ⟨k, t, q⟩
  cases x with
  | non => exact seq false rfl h
  | bl b => exact seq b rfl h
  | int i => exact seq _ rfl h
  | str y => exact seq _ ⟨h.1, rfl⟩ h.2
  | ref a =>
    cases (show v = Value.ref a from rx)
    have hs0 : sizeLine = 16777216 := sizeLine_eq
    rcases h with ⟨xs, hs, q⟩ | ⟨kvs, hd, q⟩ | ⟨kvs, hd, q⟩
    · rcases hs with hs | hs
      · exact seq _ (.inl ⟨xs, .of hs, rfl⟩) q
      · exact seq _ (.inr (.inl ⟨xs, .of hs, rfl⟩)) q
    · obtain ⟨hz, hS, vs, r, m⟩ := dk_rd I.hok hd
      have hlen : kvs.length = vs.length := Paired.length r
      exact wpAny_truthy_dict hS m (by omega) ⟨H, I.tok _, by rw [isEmpty_kv r]; exact q⟩
    · obtain ⟨hz, hS, vs, r, m⟩ := dt_rd I.hok hd
      have hlen : kvs.length = vs.length := Paired.length r
      exact truthy_dictH hS m (by omega) ⟨H, I.tok _, by rw [empty_of hlen.symm]; exact q⟩
  | _ => exact h.elim
def tTru (t : TE) : TT := fun σ H Q => t σ H fun x H' => rTru x H' Q
theorem pt_tru {X : Cx} {a : Expr} {ta : TE} (ha : PE X a ta) (he : ∀ whole, isTrue a X.env whole = (do let v ← whole; standAt a.pos; holding [v] (truthy v)) := by intro _; rfl) : PT X a (tTru ta) := pt_truthR ha tru_any he
theorem rtru_of {v : V} {x : Da} {Q : Bool → Hp → Prop} (h : Vz K p H v x) (q : Q (truD x) H) : rTru v H Q := by
  cases x with
  | none => cases vz_non h; exact q
  | bool b => cases vz_bl h; exact q
  | int i => cases vz_int h; exact q
  | str s => obtain ⟨rfl, hl⟩ := vz_str h; exact ⟨sline _ hl, q⟩
  | list xs => obtain ⟨a, vs, rfl, h1, h2, h3⟩ := vz_lst h; exact .inl ⟨vs, .inl h1, by rw [empty_of h3.length]; exact q⟩
  | tuple xs => obtain ⟨a, vs, rfl, h1, h2, h3⟩ := vz_tup h; exact .inl ⟨vs, .inr h1, by rw [empty_of h3.length]; exact q⟩
  | dk xs => obtain ⟨a, vs, rfl, h1, h2, h3⟩ := vz_dk h; exact .inr (.inl ⟨vs, h1, by rw [empty_of h3.length]; exact q⟩)
  | dt xs => obtain ⟨a, vs, rfl, h1, h2, h3⟩ := vz_dt h; exact .inr (.inr ⟨vs, h1, by rw [empty_of h3.length]; exact q⟩)
def mTru (ma : ME) : MT := fun α => (ma α).bind fun x => (res x.2 x.1).bind fun a => some (truD a, x.2)
theorem ref_tru {ta : TE} {ma : ME} (ha : RefE K ta ma) : RefT K (tTru ta) (mTru ma) := ⟨fun p H σ α A b α' Q R e h => by
  simp only [mTru, Option.bind_eq_some_iff] at e
  obtain ⟨⟨l, α1⟩, e1, a, e2, e3⟩ := e
  cases e3
  refine ha.go p H σ α A l α1 _ R e1 fun p1 H1 A1 v R1 S1 q => ?_
  exact rtru_of (res_vz R1 q e2) (h p1 H1 A1 R1 S1)⟩
/-! ### isinstance -/
def tyN : Da → Option String
  | .none => some "NoneType"
  | .bool _ => some "bool"
  | .int _ => some "int"
  | .str _ => some "str"
  | .list _ => some "list"
  | .tuple _ => some "tuple"
  | .dk _ => some "dict"
  | .dt _ => none
theorem vz_ty {v : V} {x : Da} {t : String} (h : Vz K p H v x) (e : tyN x = some t) : TyX K H v (.type t) := by
  cases x with
  | none => cases e; cases vz_non h; exact .base .non
  | bool b => cases e; cases vz_bl h; exact .base (.bl b)
  | int i => cases e; cases vz_int h; exact .base (.int i)
  | str s => cases e; obtain ⟨rfl, _⟩ := vz_str h; exact .base (.str s)
  | list xs => cases e; obtain ⟨a, vs, rfl, h1, _⟩ := vz_lst h; exact .base (.lst h1)
  | tuple xs => cases e; obtain ⟨a, vs, rfl, h1, _⟩ := vz_tup h; exact .base (.tup h1)
  | dk xs =>
    cases e
    obtain ⟨a, vs, rfl, h1, _⟩ := vz_dk h
    rcases h1 with h1 | ⟨o, h1⟩
    · exact .base (.dK h1)
    · exact .fDict h1
  | dt xs => cases e
theorem call_isiK {X : Cx} (hK : X.K = K) : CallR X (.builtin "isinstance") (rIsi K) := by subst hK; exact call_isi
def isiB (T t : String) : Option Bool := kitB t T
def eIsi (T : String) (ma : ME) : ME := fun α => (ma α).bind fun x => (res x.2 x.1).bind fun a => (tyN a).bind fun t => (isiB T t).bind fun b => some (.d (.bool b), x.2)
theorem ref_isi {T : String} {ta : TE} {ma : ME} (ha : RefE K ta ma) : RefE K (tCB (rIsi K) (tCons ta (tCons (tC (.ty T)) tNil))) (eIsi T ma) := ⟨fun p H σ α A l α' Q R e h => by
  simp only [eIsi, Option.bind_eq_some_iff] at e
  obtain ⟨⟨l1, α1⟩, e1, a, e2, t, e3, b, e4, e5⟩ := e
  cases e5
  refine ha.go p H σ α A l1 α1 _ R e1 fun p1 H1 A1 v R1 S1 q => ?_
  exact ⟨v, .ty T, .type t, .type T, b, rfl, .ty T, vz_ty (res_vz R1 q e2) e3, kit_ty e4, h p1 H1 A1 _ R1 S1 (.bl b)⟩⟩
/-! ### is None, is True -/
def eIsN (neg : Bool) (ma : ME) : ME := fun α => (ma α).bind fun x => (res x.2 x.1).bind fun a => some (.d (.bool (match a with
  | .none => !neg
  | _ => neg)), x.2)
theorem non_iff {v : V} {x : Da} (h : Vz K p H v x) : decide (v = V.non) = match x with
  | .none => true
  | _ => false := by
  cases x with
  | none => cases vz_non h; rfl
  | bool b => cases vz_bl h; rfl
  | int i => cases vz_int h; rfl
  | str s => obtain ⟨rfl, _⟩ := vz_str h; rfl
  | list xs => obtain ⟨a, vs, rfl, _⟩ := vz_lst h; rfl
  | tuple xs => obtain ⟨a, vs, rfl, _⟩ := vz_tup h; rfl
  | dk xs => obtain ⟨a, vs, rfl, _⟩ := vz_dk h; rfl
  | dt xs => obtain ⟨a, vs, rfl, _⟩ := vz_dt h; rfl
theorem ref_isN {ta : TE} {ma : ME} (ha : RefE K ta ma) : RefE K (tIsN ta) (eIsN false ma) := ⟨fun p H σ α A l α' Q R e h => by
  simp only [eIsN, Option.bind_eq_some_iff] at e
  obtain ⟨⟨l1, α1⟩, e1, a, e2, e3⟩ := e
  cases e3
  refine ha.go p H σ α A l1 α1 _ R e1 fun p1 H1 A1 v R1 S1 q => ?_
  rw [non_iff (res_vz R1 q e2)]
  cases a <;> exact h p1 H1 A1 _ R1 S1 (.bl _)⟩
theorem ref_notN {ta : TE} {ma : ME} (ha : RefE K ta ma) : RefE K (tNotN ta) (eIsN true ma) := ⟨fun p H σ α A l α' Q R e h => by
  simp only [eIsN, Option.bind_eq_some_iff] at e
  obtain ⟨⟨l1, α1⟩, e1, a, e2, e3⟩ := e
  cases e3
  refine ha.go p H σ α A l1 α1 _ R e1 fun p1 H1 A1 v R1 S1 q => ?_
  rw [non_iff (res_vz R1 q e2)]
  cases a <;> exact h p1 H1 A1 _ R1 S1 (.bl _)⟩
/-! ### abs, max, min, int -/
def rAbs : List V → Hp → VK → Prop := fun xs H Q => ∃ i, xs = [.int i] ∧ Q (.int (if i < 0 then -i else i)) H
def rMax : List V → Hp → VK → Prop := fun xs H Q => ∃ i j, xs = [.int i, .int j] ∧ Q (.int (if j > i then j else i)) H
def rMin : List V → Hp → VK → Prop := fun xs H Q => ∃ i j, xs = [.int i, .int j] ∧ Q (.int (if j < i then j else i)) H
def rInt1 : List V → Hp → VK → Prop := fun xs H Q => (∃ i, xs = [.int i] ∧ Q (.int i) H) ∨ ∃ k, xs = [.bl k] ∧ Q (.int (if k then 1 else 0)) H
theorem cr_abs {X : Cx} : CallR X (.builtin "abs") rAbs := call_abs
theorem cr_max {X : Cx} (hc : X.calm = true) : CallR X (.builtin "max") rMax := call_max2 hc
theorem cr_min {X : Cx} (hc : X.calm = true) : CallR X (.builtin "min") rMin := call_min2 hc
theorem cr_int {X : Cx} : CallR X (.type "int") rInt1 := call_int1
def fAbs : List Da → Option Da
  | [.int i] => some (.int (if i < 0 then -i else i))
  | _ => none
def fMax : List Da → Option Da
  | [.int i, .int j] => some (.int (if j > i then j else i))
  | _ => none
def fMin : List Da → Option Da
  | [.int i, .int j] => some (.int (if j < i then j else i))
  | _ => none
def fInt : List Da → Option Da
  | [.int i] => some (.int i)
  | [.bool k] => some (.int (if k then 1 else 0))
  | _ => none
theorem vz1 {xs : List V} {a : Da} (h : VzA K p H xs [a]) : ∃ v, xs = [v] ∧ Vz K p H v a := by
  cases h with
  | cons h t => cases t; exact ⟨_, rfl, h⟩
theorem vz2 {xs : List V} {a b : Da} (h : VzA K p H xs [a, b]) : ∃ v w, xs = [v, w] ∧ Vz K p H v a ∧ Vz K p H w b := by
  cases h with
  | cons h t =>
    obtain ⟨w, rfl, hw⟩ := vz1 t
    exact ⟨_, w, rfl, h, hw⟩
theorem rr_abs : RefRA K rAbs fAbs := fun p H xs as c Q al va e q => by
  unfold fAbs at e
  split at e
  · cases e
    obtain ⟨v, rfl, h⟩ := vz1 va
    cases vz_int h
    exact ⟨_, rfl, q _ H (Same.refl H) (.int _)⟩
  · cases e
theorem rr_max : RefRA K rMax fMax := fun p H xs as c Q al va e q => by
  unfold fMax at e
  split at e
  · cases e
    obtain ⟨v, w, rfl, h, h'⟩ := vz2 va
    cases vz_int h
    cases vz_int h'
    exact ⟨_, _, rfl, q _ H (Same.refl H) (.int _)⟩
  · cases e
theorem rr_min : RefRA K rMin fMin := fun p H xs as c Q al va e q => by
  unfold fMin at e
  split at e
  · cases e
    obtain ⟨v, w, rfl, h, h'⟩ := vz2 va
    cases vz_int h
    cases vz_int h'
    exact ⟨_, _, rfl, q _ H (Same.refl H) (.int _)⟩
  · cases e
theorem rr_int : RefRA K rInt1 fInt := fun p H xs as c Q al va e q => by
  unfold fInt at e
  split at e
  · cases e
    obtain ⟨v, rfl, h⟩ := vz1 va
    cases vz_int h
    exact .inl ⟨_, rfl, q _ H (Same.refl H) (.int _)⟩
  · cases e
    obtain ⟨v, rfl, h⟩ := vz1 va
    cases vz_bl h
    exact .inr ⟨_, rfl, q _ H (Same.refl H) (.int _)⟩
  · cases e
/-! ### len of dicts too -/
def rLenB : List V → Hp → VK → Prop := fun xs H Q => rLenA xs H Q ∨ (∃ p kvs, xs = [.ref p] ∧ Rd H p (.dK kvs) ∧ Q (.int ((kvs.length : Nat) : Int)) H) ∨ ∃ p kvs, xs = [.ref p] ∧ Rd H p (.dT kvs) ∧ Q (.int ((kvs.length : Nat) : Int)) H
theorem len_all {X : Cx} : CallR X (.builtin "len") rLenB := by
  intro pins s σ H xs us Q I r h
  have hs0 : sizeLine = 16777216 := sizeLine_eq
  rcases h with h | ⟨a, kvs, rfl, hd, q⟩ | ⟨a, kvs, rfl, hd, q⟩
  · exact len_any pins s σ H xs us Q I r h
  · obtain ⟨u, rfl, rx⟩ := vals1 r
    obtain rfl : u = .ref a := rx
    obtain ⟨z, hd, ys, rel, dd⟩ := dk_rd I.hok hd
    have hl : kvs.length = ys.length := Paired.length rel
    refine call_len_dict hd dd (by omega) ?_
    rw [← hl]
    exact ⟨.int ((kvs.length : Nat) : Int), H, I.tok _, ⟨_, rfl⟩, q⟩
  · obtain ⟨u, rfl, rx⟩ := vals1 r
    obtain rfl : u = .ref a := rx
    obtain ⟨z, hd, ys, rel, dd⟩ := dt_rd I.hok hd
    have hl : kvs.length = ys.length := Paired.length rel
    refine call_len_dictH hd dd (by omega) ?_
    rw [← hl]
    exact ⟨.int ((kvs.length : Nat) : Int), H, I.tok _, ⟨_, rfl⟩, q⟩
def fLenB : List Da → Option Da
  | [.dk xs] => some (.int ((xs.length : Nat) : Int))
  | [.dt xs] => some (.int ((xs.length : Nat) : Int))
  | as => fLen as
theorem rr_lenB : RefRA K rLenB fLenB := fun p H xs as c Q al va e q => by
  unfold fLenB at e
  split at e
  · cases e
    obtain ⟨v, rfl, h⟩ := vz1 va
    obtain ⟨a, vs, rfl, h1, h2, h3⟩ := vz_dk h
    refine .inr (.inl ⟨a, vs, rfl, h1, ?_⟩)
    rw [h3.length]
    exact q _ H (Same.refl H) (.int _)
  · cases e
    obtain ⟨v, rfl, h⟩ := vz1 va
    obtain ⟨a, vs, rfl, h1, h2, h3⟩ := vz_dt h
    refine .inr (.inr ⟨a, vs, rfl, h1, ?_⟩)
    rw [h3.length]
    exact q _ H (Same.refl H) (.int _)
  · exact .inl (rr_len p H xs _ c Q al va e q)
/-! ### tuple(range(..)), list(range(..)) -/
abbrev TRg := L2.St → Hp → (Int → Int → Hp → Prop) → Prop
abbrev MRg := AS → Option ((Int × Int) × AS)
structure RefRg (K : PySem.W.Frag) (t : TRg) (m : MRg) : Prop where
  go : ∀ p H σ α A ab α' Q, Rel K p H σ α A → m α = some (ab, α') → (∀ p' H' A', Rel K p' H' σ α' A' → Step p H σ α A p' H' σ α' A' → Q ab.1 ab.2 H') → t σ H Q
def gRg1 (ma : ME) : MRg := fun α => (ma α).bind fun x => (res x.2 x.1).bind fun a => match a with
  | .int n => some ((0, n), x.2)
  | _ => none
theorem ref_rg1 {ta : TE} {ma : ME} (ha : RefE K ta ma) : RefRg K (tRg1 ta) (gRg1 ma) := ⟨fun p H σ α A ab α' Q R e h => by
  simp only [gRg1, Option.bind_eq_some_iff] at e
  obtain ⟨⟨l1, α1⟩, e1, a, e2, e3⟩ := e
  split at e3
  · cases e3
    refine ha.go p H σ α A l1 α1 _ R e1 fun p1 H1 A1 v R1 S1 q => ?_
    exact ⟨_, vz_int (res_vz R1 q e2), h p1 H1 A1 R1 S1⟩
  · cases e3⟩
def gRg2 (ma mb : ME) : MRg := fun α => (ma α).bind fun x => (mb x.2).bind fun y => (res y.2 x.1).bind fun a => (res y.2 y.1).bind fun b => match a, b with
  | .int n, .int m => some ((n, m), y.2)
  | _, _ => none
theorem ref_rg2 {ta tb : TE} {ma mb : ME} (ha : RefE K ta ma) (hb : RefE K tb mb) : RefRg K (tRg2 ta tb) (gRg2 ma mb) := ⟨fun p H σ α A ab α' Q R e h => by
  simp only [gRg2, Option.bind_eq_some_iff] at e
  obtain ⟨⟨l1, α1⟩, e1, ⟨l2, α2⟩, e2, a, e3, b, e4, e5⟩ := e
  split at e5
  · cases e5
    refine ha.go p H σ α A l1 α1 _ R e1 fun p1 H1 A1 v R1 S1 q1 => ?_
    refine hb.go p1 H1 σ α1 A1 l2 α2 _ R1 e2 fun p2 H2 A2 w R2 S2 q2 => ?_
    exact ⟨_, _, vz_int (res_vz R2 (q1.step R1 S2) e3), vz_int (res_vz R2 q2 e4), h p2 H2 A2 R2 (S1.trans R S2)⟩
  · cases e5⟩
def rgD (a b : Int) : List Da := (List.range (b - a).toNat).map fun i => Da.int (a + (i : Nat))
theorem rg_dz (a b : Int) : DzA K p H (rgV a b) (rgD a b) := by
  unfold rgV rgD
  induction List.range (b - a).toNat with
  | nil => exact .nil
  | cons x r ih => exact .cons (.int _) ih
instance (a b : Int) : Decidable (RgOk a b) := by unfold RgOk; infer_instance
def eTupRg (m : MRg) : ME := fun α => (m α).bind fun x => if RgOk x.1.1 x.1.2 ∧ (x.1.2 - x.1.1).toNat ≤ LIM then some (.d (.tuple (rgD x.1.1 x.1.2)), x.2) else none
theorem ref_tupRg {t : TRg} {m : MRg} (h : RefRg K t m) : RefE K (tTupRg t) (eTupRg m) := ⟨fun p H σ α A l α' Q R e q => by
  simp only [eTupRg, Option.bind_eq_some_iff] at e
  obtain ⟨⟨⟨a, b⟩, α1⟩, e1, e2⟩ := e
  split at e2
  · rename_i hc
    cases e2
    refine h.go p H σ α A (a, b) α1 _ R e1 fun p1 H1 A1 R1 S1 => ⟨hc.1, fun c hc' => ?_⟩
    have s := same_new (o := .tup (rgV a b)) hc'
    exact q p1 _ A1 _ (R1.same s) (S1.trans R (.same s)) (.tup upd_same (by rw [rgV_length]; exact hc.2) (rg_dz a b))
  · cases e2⟩
def fLstRg (m : MRg) : MF := fun α => (m α).bind fun x => if RgOk x.1.1 x.1.2 ∧ (x.1.2 - x.1.1).toNat ≤ LIM then some (.r (.list (rgD x.1.1 x.1.2)), x.2) else none
theorem ref_lstRg {t : TRg} {m : MRg} (h : RefRg K t m) : RefF K (tLstRg t) (fLstRg m) := ⟨fun p H σ α A l α' Q R e q => by
  simp only [fLstRg, Option.bind_eq_some_iff] at e
  obtain ⟨⟨⟨a, b⟩, α1⟩, e1, e2⟩ := e
  split at e2
  · rename_i hc
    cases e2
    refine h.go p H σ α A (a, b) α1 _ R e1 fun p1 H1 A1 R1 S1 => ⟨hc.1, fun c hc' => ?_⟩
    obtain ⟨R2, S2, nr⟩ := rel_new (o := .lst (rgV a b)) R1 hc'
    exact q _ _ A1 c [] R2 (S1.trans R S2) (fresh_one (List.mem_cons_self ..) (S1.dom c hc') nr) ⟨rfl, _, upd_same, by rw [rgV_length]; exact hc.2, rg_dz a b⟩
  · cases e2⟩
/-! ### sep.join(texts) -/
def strsD : List Da → Option (List Str)
  | [] => some []
  | .str s :: r => (strsD r).bind fun ss => some (s :: ss)
  | _ => none
theorem strs_dz : ∀ {vs : List V} {xs : List Da} {ss : List Str}, DzA K p H vs xs → strsD xs = some ss → vs = ss.map V.str
  | _, _, _, .nil, e => by cases e; rfl
  | _, _, _, .cons (d := d) h t, e => by
    cases d with
    | str s =>
      simp only [strsD, Option.bind_eq_some_iff] at e
      obtain ⟨ss, e1, e2⟩ := e
      cases e2
      rw [(vz_str (.of h)).1, strs_dz t e1]
      rfl
    | _ => cases e
def fJoin (a b : Da) : Option Da := match a with
  | .str a => (itemsD b).bind fun xs => (strsD xs).bind fun ys => if (ys.map (·.length)).sum + ys.length * a.length ≤ SLIM ∧ (Txt.join a ys).length ≤ SLIM then some (.str (Txt.join a ys)) else none
  | _ => none
def rJoin : V → List V → Hp → VK → Prop := fun x xs H Q => ∃ a p, ∃ ys : List Str, x = .str a ∧ xs = [.ref p] ∧ HasSeq H p (ys.map V.str) ∧ (ys.map (·.length)).sum + ys.length * a.length ≤ 16777216 ∧ Q (.str (Txt.join a ys)) H
theorem pe_joinH {X : Cx} {o e : Expr} {to te : TE} {apos pos : Pos} (ho : PE X o to) (he : PE X e te) (hs : starEach [e] X.env = [(false, eval e X.env)] := by rfl) (hbase : attributeBase o "join" X.env (eval o X.env) = eval o X.env := by rfl) (hline : (apos.endLine == pos.line) = true := by rfl) :
    PE X (.Call (.Attribute o "join" apos) [e] [] pos) (tM1 rJoin to te) :=
  pe_m1 F.slot_str_join F.type_str_join (fun pins s σ H x xs v us Q I rx rs ⟨a, q, ys, h1, h2, h3, h4, h5⟩ => mt_join pins s σ H x xs v us Q I rx rs ⟨a, q, ys, h1, h2, h3.elim (fun z => .inl (.of z)) (fun z => .inr (.of z)), h4, h5⟩) ho he hs hbase hline
def eJoin (ma mb : ME) : ME := fun α => (ma α).bind fun x => (res x.2 x.1).bind fun a0 => match a0 with
  | .str a => (mb x.2).bind fun y => (res y.2 y.1).bind fun b => (fJoin (.str a) b).bind fun c => some (.d c, y.2)
  | _ => none
theorem ref_join {ta tb : TE} {ma mb : ME} (ha : RefE K ta ma) (hb : RefE K tb mb) : RefE K (tM1 rJoin ta tb) (eJoin ma mb) := ⟨fun p H σ α A l α' Q R e h => by
  simp only [eJoin, Option.bind_eq_some_iff] at e
  obtain ⟨⟨l1, α1⟩, e1, a0, e0, e⟩ := e
  split at e
  · rename_i a
    simp only [Option.bind_eq_some_iff] at e
    obtain ⟨⟨l2, α2⟩, e2, b, e3, c, e4, e5⟩ := e
    cases e5
    refine ha.go p H σ α A l1 α1 _ R e1 fun p1 H1 A1 v R1 S1 q1 => ?_
    obtain ⟨rfl, _⟩ := vz_str (res_vz R1 q1 e0)
    refine ⟨⟨a, rfl⟩, ?_⟩
    refine hb.go p1 H1 σ α1 A1 l2 α2 _ R1 e2 fun p2 H2 A2 w R2 S2 q2 => ?_
    have z := res_vz R2 q2 e3
    simp only [fJoin, Option.bind_eq_some_iff] at e4
    obtain ⟨xs, f1, ys, f2, f3⟩ := e4
    split at f3
    · rename_i hl
      cases f3
      have fin : ∀ ad vs, DzA K p2 H2 vs xs → HasSeq H2 ad vs → rJoin (.str a) [.ref ad] H2 Q := fun ad vs dz hs => by
        refine ⟨a, ad, ys, rfl, rfl, by rw [← strs_dz dz f2]; exact hs, Nat.le_trans hl.1 (by decide), ?_⟩
        exact h p2 H2 A2 _ R2 (S1.trans R S2) (.str _ hl.2)
      cases b with
      | list ys' => cases f1; obtain ⟨ad, vs, rfl, h1, h2, h3⟩ := vz_lst z; exact fin ad vs h3 (.inl h1)
      | tuple ys' => cases f1; obtain ⟨ad, vs, rfl, h1, h2, h3⟩ := vz_tup z; exact fin ad vs h3 (.inr h1)
      | _ => cases f1
    · cases f3
  · cases e⟩
/-! ### repr -/
mutual
def toPyR : Da → Option PyData
  | .none => some .none
  | .bool b => some (.bool b)
  | .int i => some (.int i)
  | .str s => if s.length ≤ 100000 then some (.str s) else none
  | .list xs => if xs.length ≤ 100000 then (toPysR xs).map .list else none
  | .tuple xs => if xs.length ≤ 100000 then (toPysR xs).map .tuple else none
  | _ => none
def toPysR : List Da → Option (List PyData)
  | [] => some []
  | x :: xs => (toPyR x).bind fun d => (toPysR xs).bind fun ds => some (d :: ds)
end
mutual
theorem dz_dx : ∀ {v : V} {x : Da} {d : PyData}, Dz K p H v x → toPyR x = some d → Dx [] H v d
  | _, _, _, .non, e => by cases e; exact .non
  | _, _, _, .bl b, e => by cases e; exact .bl b
  | _, _, _, .int i, e => by cases e; exact .int i
  | _, _, _, .str x h, e => by
    simp only [toPyR] at e
    split at e
    · cases e; exact .str x (by assumption)
    · cases e
  | _, _, _, .lst n r l h, e => by
    simp only [toPyR] at e
    split at e
    · rename_i hl
      simp only [Option.map_eq_some_iff] at e
      obtain ⟨ds, e1, rfl⟩ := e
      exact .lst r (List.not_mem_nil) (by rw [h.length]; exact hl) (dzA_dx h e1)
    · cases e
  | _, _, _, .tup r l h, e => by
    simp only [toPyR] at e
    split at e
    · rename_i hl
      simp only [Option.map_eq_some_iff] at e
      obtain ⟨ds, e1, rfl⟩ := e
      exact .tup r (by rw [h.length]; exact hl) (dzA_dx h e1)
    · cases e
  | _, _, _, .dk _ _ _ _, e => by cases e
  | _, _, _, .dt _ _ _ _, e => by cases e
theorem dzA_dx : ∀ {vs : List V} {xs : List Da} {ds : List PyData}, DzA K p H vs xs → toPysR xs = some ds → DxA [] H vs ds
  | _, _, _, .nil, e => by cases e; exact .nil
  | _, _, _, .cons h t, e => by
    simp only [toPysR, Option.bind_eq_some_iff] at e
    obtain ⟨d, e1, ds, e2, e3⟩ := e
    cases e3
    exact .cons (dz_dx h e1) (dzA_dx t e2)
end
theorem vz_dx {v : V} {x : Da} {d : PyData} (h : Vz K p H v x) (e : toPyR x = some d) : Dx [] H v d := by
  cases h with
  | of h => exact dz_dx h e
  | top h =>
    cases x with
    | list ys =>
      obtain ⟨vs, h1, h2, h3⟩ := h
      simp only [toPyR] at e
      split at e
      · rename_i hl
        simp only [Option.map_eq_some_iff] at e
        obtain ⟨ds, e1, rfl⟩ := e
        exact .lst h1 List.not_mem_nil (by rw [h3.length]; exact hl) (dzA_dx h3 e1)
      · cases e
    | dk ys => cases e
    | dt ys => cases e
    | _ => exact h.elim
open Classical in
noncomputable def fRepr : List Da → Option Da
  | [x] => (toPyR x).bind fun d => if Shows d then some (.str d.shown) else none
  | _ => none
theorem rr_repr : RefRA K (rRepr []) fRepr := fun p H xs as c Q al va e q => by
  unfold fRepr at e
  split at e
  · simp only [Option.bind_eq_some_iff] at e
    obtain ⟨d, e1, e2⟩ := e
    split at e2
    · rename_i hs
      cases e2
      obtain ⟨v, rfl, h⟩ := vz1 va
      have hx : Dx [] H v d := vz_dx h e1
      exact ⟨v, d, rfl, hx, hs, q _ H (Same.refl H) (.str _ hs.size)⟩
    · cases e2
  · cases e
end
end Vm

namespace Vm
open PySem PySem.Spec PyProof.Rows L2 Gk
section
variable {K : PySem.W.Frag} {p p' p2 : List Addr} {H H' H2 : Hp} {σ σ' σ2 : L2.St} {α α' α2 α0 : AS} {A A' A2 : FT}
/-! ### own things changed -/
theorem root_core {i : Nat} {q q' : AV} {f' : List Addr} (R : Rel K p H σ α A) (hi : α[i]? = some q) (kin : Kin q q') (hs : SlotR K p' H' (σ[i]?).join f' q') (t : Tr p H p' H') (keep : ∀ b o, H b = some o → b ∉ A i → H' b = some o)
    (dom : ∀ b, H' b = none → H b = none) (hp : ∀ b ∈ p, b ∈ p') (hp' : ∀ b ∈ p', b ∈ p ∨ H b = none) (al : ∀ b ∈ p', H' b ≠ none) (nd : f'.Nodup) (hin : ∀ b ∈ f', b ∈ p') (new : ∀ b ∈ f', b ∈ A i ∨ H b = none) :
    Rel K p' H' σ (α.set i q') (setF A i f') ∧ Step p H σ α A p' H' σ (α.set i q') (setF A i f') := by
  have hia : i < α.length := getElem?_lt hi
  refine ⟨⟨by rw [List.length_set]; exact R.len, fun j r e => ?_, fun j e => ?_, fun j => ?_, fun j k a h1 h2 => ?_, fun j a h => ?_, al⟩,
    ⟨fun b o e n => .inl (keep b o e (n i)), dom, fun j b h => ?_, hp', fun b h => .inl (hp b h), by rw [List.length_set], fun j r e f => ⟨rfl, ?_⟩, fun j r e f => ?_⟩⟩
  · by_cases z : j = i
    · subst z
      rw [List.getElem?_set_self hia] at e
      cases e
      rw [setF_same]
      exact hs
    · rw [List.getElem?_set_ne (fun y => z y.symm)] at e
      rw [setF_ne z]
      exact (R.sl j r e).tr t fun c m u hu => keep c u hu fun mi => z (R.dj j i c m mi)
  · have z : j ≠ i := fun z => by subst z; rw [List.getElem?_set_self hia] at e; cases e
    rw [List.getElem?_set_ne (fun y => z y.symm)] at e
    rw [setF_ne z]
    exact R.out j e
  · by_cases z : j = i
    · subst z; rw [setF_same]; exact nd
    · rw [setF_ne z]; exact R.nd j
  · have one : ∀ k, k ≠ i → a ∈ f' → a ∉ A k := fun k hk m1 m2 => by
      rcases new a m1 with y | y
      · exact hk (R.dj k i a m2 y)
      · exact R.in_al m2 y
    rcases setF_mem h1 with ⟨rfl, m1⟩ | ⟨n1, m1⟩ <;> rcases setF_mem h2 with ⟨rfl, m2⟩ | ⟨n2, m2⟩
    · rfl
    · exact (one k n2 m1 m2).elim
    · exact (one j n1 m2 m1).elim
    · exact R.dj j k a m1 m2
  · rcases setF_mem h with ⟨_, m⟩ | ⟨_, m⟩
    · exact hin a m
    · exact hp a (R.inp j a m)
  · rcases setF_mem h with ⟨rfl, m⟩ | ⟨_, m⟩
    · exact new b m
    · exact .inl m
  · by_cases z : j = i
    · subst z
      rw [hi] at e
      cases e
      exact ⟨q', List.getElem?_set_self hia, kin⟩
    · exact ⟨r, by rw [List.getElem?_set_ne (fun y => z y.symm)]; exact e, .refl⟩
  · by_cases z : j = i
    · subst z
      rw [List.getElem?_set_self hia] at e
      cases e
      exact ⟨q, hi, by rw [← kin.fx]; exact f⟩
    · rw [List.getElem?_set_ne (fun y => z y.symm)] at e
      exact ⟨r, e, f⟩
/-- an own flat thing changed at its place -/
theorem root_put {i : Nat} {fx : Bool} {x x' : Da} {a : Addr} {o o' : HO} (R : Rel K p H σ α A) (hi : α[i]? = some (.r fx false x)) (hs : (σ[i]?).join = some (.ref a)) (ho : H a = some o) (hn : HO.noTup o) (ha : A i = [a])
    (top : Top K p (L2.upd H a o') false a x') :
    Rel K p (L2.upd H a o') σ (α.set i (.r fx false x')) (setF A i [a]) ∧ Step p H σ α A p (L2.upd H a o') σ (α.set i (.r fx false x')) (setF A i [a]) := by
  have am : a ∈ A i := by rw [ha]; exact List.mem_cons_self ..
  have hp := R.inp i a am
  refine root_core R hi ⟨rfl, rfl, rfl, fun z => by cases z⟩ (by rw [hs]; exact ⟨a, rfl, rfl, top⟩) (tr_upd hp ho hn) (fun b u e n => ?_) (fun b e => ?_) (fun b h => h) (fun b h => .inl h) (fun b h z => ?_) (by simp) (fun b m => by cases List.mem_singleton.mp m; exact hp) (fun b m => by cases List.mem_singleton.mp m; exact .inl am)
  · rw [upd_ne (fun z => n (by rw [z]; exact am))]; exact e
  · by_cases z : b = a
    · subst z; rw [upd_same] at e; cases e
    · rw [upd_ne z] at e; exact e
  · by_cases y : b = a
    · subst y; rw [upd_same] at z; cases z
    · rw [upd_ne y] at z; exact R.al b h z
theorem root_at {i : Nat} {fx lk : Bool} {x : Da} (R : Rel K p H σ α A) (hi : α[i]? = some (.r fx lk x)) : ∃ a, σ[i]? = some (some (.ref a)) ∧ A i = [a] ∧ Top K p H lk a x := by
  obtain ⟨v, hv⟩ := R.has hi (by intro z; cases z)
  obtain ⟨a, e, ha, t⟩ := R.sl i _ hi
  rw [join_of hv] at e
  cases e
  exact ⟨a, hv, ha, t⟩
def AV.asR : AV → Option (Bool × Da)
  | .r f false x => some (f, x)
  | _ => none
theorem asR_some {q : AV} {f : Bool} {x : Da} (h : q.asR = some (f, x)) : q = .r f false x := by
  cases q with
  | r a b c => cases b <;> cases h; rfl
  | _ => cases h
def rootAt (α : AS) (i : Nat) : Option (Bool × Da) := (α[i]?).bind AV.asR
theorem rootAt_some {i : Nat} {f : Bool} {x : Da} (h : rootAt α i = some (f, x)) : α[i]? = some (.r f false x) := by
  obtain ⟨q, e1, e2⟩ := Option.bind_eq_some_iff.mp h
  rw [e1, asR_some e2]
/-! xs.append(e) -/
def sAppend (i : Nat) (ma : MA) : MS := fun α => match rootAt α i with
  | some (_, .list _) => (ma α).bind fun x => (ownA x.2 x.1).bind fun ys => match ys, rootAt x.2 i with
    | [y], some (f, .list xs) => if xs.length < LIM then some (.nx (x.2.set i (.r f false (.list (xs ++ [y]))))) else none
    | _, _ => none
  | _ => none
theorem ref_append {i : Nat} {ta : TA} {ma : MA} (ha : RefA K ta ma) : RefS K (tDrop (tBM K "list" rAppend (tVar i) ta)) (sAppend i ma) := ⟨fun p H σ α A o D R e h => by
  unfold sAppend at e
  split at e
  · rename_i f0 xs0 h0
    obtain ⟨a, hs, ha0, vs, h1, h2, h3⟩ := root_at R (rootAt_some h0)
    refine ⟨.ref a, hs, .inl ⟨rfl, vs, .of h1⟩, ?_⟩
    simp only [Option.bind_eq_some_iff] at e
    obtain ⟨⟨l, α1⟩, e1, ys, e2, e3⟩ := e
    split at e3
    · rename_i y f xs hr
      split at e3
      · rename_i hlt
        cases e3
        refine ha.go p H σ α A l α1 _ R e1 fun p1 H1 A1 us R1 S1 q1 => ?_
        have zu := ownA_dz R1 q1 e2
        cases zu with
        | @cons u _ _ _ d1 d2 =>
          cases d2
          obtain ⟨b, hs1, ha1, ws, w1, w2, w3⟩ := root_at R1 (rootAt_some hr)
          rw [hs] at hs1
          cases hs1
          have lw : ws.length < LIM := by rw [w3.length]; exact hlt
          refine ⟨a, ws, _, rfl, rfl, w1, line_lt w2, ?_⟩
          have hp := R1.inp i a (by rw [ha1]; exact List.mem_cons_self ..)
          have t : Tr p1 H1 p1 (L2.upd H1 a (.lst (ws ++ [u]))) := tr_upd hp w1 trivial
          have ⟨P, S⟩ := root_put (x' := .list (xs ++ [y])) (o' := .lst (ws ++ [u])) R1 (rootAt_some hr) (join_of hs) w1 trivial ha1 ⟨_, upd_same, by rw [List.length_append]; exact lw, (w3.append (.cons d1 .nil)).tr t⟩
          exact h p1 _ σ _ P (S1.trans R S)
      · cases e3
    · cases e3
  · cases e⟩
/-! putting into dicts -/
theorem DzK.any (k : Key) : ∀ {xs : List (Key × V)} {ds : List (Key × Da)}, DzK K p H xs ds → (xs.any fun kv => decide (kv.1 = k)) = ds.any fun kv => decide (kv.1 = k)
  | _, _, .nil => rfl
  | _, _, .cons _ _ t => by rw [List.any_cons, List.any_cons, DzK.any k t]
theorem DzT.any (k : List Key) : ∀ {xs : List (List Key × V)} {ds : List (List Key × Da)}, DzT K p H xs ds → (xs.any fun kv => decide (kv.1 = k)) = ds.any fun kv => decide (kv.1 = k)
  | _, _, .nil => rfl
  | _, _, .cons _ _ t => by rw [List.any_cons, List.any_cons, DzT.any k t]
def putD {κ τ : Type} [DecidableEq κ] (kvs : List (κ × τ)) (k : κ) (v : τ) : List (κ × τ) :=
  if (kvs.any fun kv => decide (kv.1 = k)) = true then kvs.map (fun kv => if kv.1 = k then (kv.1, v) else kv) else kvs ++ [(k, v)]
theorem putD_length {κ τ : Type} [DecidableEq κ] (kvs : List (κ × τ)) (k : κ) (v : τ) : (putD kvs k v).length ≤ kvs.length + 1 := by
  unfold putD
  split
  · rw [List.length_map]; omega
  · rw [List.length_append]; exact Nat.le_refl _
theorem DzK.map {k : Key} {v : V} {d : Da} (hd : Dz K p H v d) : ∀ {xs : List (Key × V)} {ds : List (Key × Da)}, DzK K p H xs ds → DzK K p H (xs.map fun kv => if kv.1 = k then (kv.1, v) else kv) (ds.map fun kv => if kv.1 = k then (kv.1, d) else kv)
  | _, _, .nil => .nil
  | _, _, .cons (k := j) h x t => by
    rw [List.map_cons, List.map_cons]
    by_cases e : j = k
    · rw [if_pos e, if_pos e]; exact .cons h hd (DzK.map hd t)
    · rw [if_neg e, if_neg e]; exact .cons h x (DzK.map hd t)
theorem DzT.map {k : List Key} {v : V} {d : Da} (hd : Dz K p H v d) : ∀ {xs : List (List Key × V)} {ds : List (List Key × Da)}, DzT K p H xs ds → DzT K p H (xs.map fun kv => if kv.1 = k then (kv.1, v) else kv) (ds.map fun kv => if kv.1 = k then (kv.1, d) else kv)
  | _, _, .nil => .nil
  | _, _, .cons (k := j) h x t => by
    rw [List.map_cons, List.map_cons]
    by_cases e : j = k
    · rw [if_pos e, if_pos e]; exact .cons h hd (DzT.map hd t)
    · rw [if_neg e, if_neg e]; exact .cons h x (DzT.map hd t)
theorem DzK.append : ∀ {xs ys : List (Key × V)} {ds es : List (Key × Da)}, DzK K p H xs ds → DzK K p H ys es → DzK K p H (xs ++ ys) (ds ++ es)
  | _, _, _, _, .nil, s => s
  | _, _, _, _, .cons h x t, s => .cons h x (DzK.append t s)
theorem DzT.append : ∀ {xs ys : List (List Key × V)} {ds es : List (List Key × Da)}, DzT K p H xs ds → DzT K p H ys es → DzT K p H (xs ++ ys) (ds ++ es)
  | _, _, _, _, .nil, s => s
  | _, _, _, _, .cons h x t, s => .cons h x (DzT.append t s)
theorem DzK.put {k : Key} {v : V} {d : Da} (hk : KeyOk k) (hd : Dz K p H v d) {xs : List (Key × V)} {ds : List (Key × Da)} (h : DzK K p H xs ds) : DzK K p H (putK xs k v) (putD ds k d) := by
  unfold putK putD
  rw [h.any k]
  split
  · exact h.map hd
  · exact h.append (.cons hk hd .nil)
theorem DzT.put {k : List Key} {v : V} {d : Da} (hk : (∀ x ∈ k, KeyOk x) ∧ k.length ≤ LIM) (hd : Dz K p H v d) {xs : List (List Key × V)} {ds : List (List Key × Da)} (h : DzT K p H xs ds) : DzT K p H (putK xs k v) (putD ds k d) := by
  unfold putK putD
  rw [h.any k]
  split
  · exact h.map hd
  · exact h.append (.cons hk hd .nil)
/-- what x[k] = v makes of x -/
def setDa (x k v : Da) : Option Da := match x with
  | .list xs => match k with
    | .int j => (ixN xs.length j).bind fun n => some (.list (xs.set n v))
    | _ => none
  | .dk kvs => (keyD k).bind fun j => if kvs.length < LIM then some (.dk (putD kvs j v)) else none
  | .dt kvs => (keyT k).bind fun j => if kvs.length < LIM then some (.dt (putD kvs j v)) else none
  | _ => none
theorem put_top {x k v x' : Da} {a : Addr} {vk vv : V} (hp : a ∈ p) (t : Top K p H false a x) (hd : x.isDict = true) (hk : Vz K p H vk k) (hv : Dz K p H vv v) (e : setDa x k v = some x') :
    ∃ o o', H a = some o ∧ HO.noTup o ∧ DPut H a vk vv (L2.upd H a o') ∧ Top K p (L2.upd H a o') false a x' := by
  cases x with
  | dk kvs =>
    obtain ⟨xs, h1, h2, h3⟩ := t
    have h1 := h1.ex
    simp only [setDa, Option.bind_eq_some_iff] at e
    obtain ⟨j, e1, e2⟩ := e
    split at e2
    · rename_i hl
      cases e2
      obtain ⟨rfl, ok⟩ := vz_key hk e1
      have lx : xs.length < LIM := by rw [h3.length]; exact hl
      refine ⟨_, .dK (putK xs j vv), h1, trivial, .inl ⟨xs, j, h1, rfl, line_lt h2, rfl⟩, _, .of upd_same, ?_, (h3.put ok hv).tr (tr_upd hp h1 trivial)⟩
      have := length_putK xs j vv
      omega
    · cases e2
  | dt kvs =>
    obtain ⟨xs, h1, h2, h3⟩ := t
    have h1 := h1.ex
    simp only [setDa, Option.bind_eq_some_iff] at e
    obtain ⟨j, e1, e2⟩ := e
    split at e2
    · rename_i hl
      cases e2
      obtain ⟨b, rfl, hb, ok⟩ := vz_keyT hk e1
      have lx : xs.length < LIM := by rw [h3.length]; exact hl
      refine ⟨_, .dT (putK xs j vv), h1, trivial, .inr ⟨xs, j, b, h1, rfl, hb, line_lt h2, rfl⟩, _, .of upd_same, ?_, (h3.put ok hv).tr (tr_upd hp h1 trivial)⟩
      have := length_putK xs j vv
      omega
    · cases e2
  | _ => cases hd
/-- x[k] = e, x an own thing -/
def sSetI (i : Nat) (me mk : ME) : MS := fun α => (me α).bind fun x => (rootAt x.2 i).bind fun _ => (mk x.2).bind fun y => (own y.2 x.1).bind fun v => (res y.2 y.1).bind fun k => (rootAt y.2 i).bind fun r => (setDa r.2 k v).bind fun c => some (.nx (y.2.set i (.r r.1 false c)))
theorem ref_setI {i : Nat} {te tk : TE} {me mk : ME} (he : RefE K te me) (hk : RefE K tk mk) : RefS K (tOrS (tAsg te (gSub (tVar i) tk rSetL)) (sDPut (tVar i) tk te)) (sSetI i me mk) := ⟨fun p H σ α A o D R e h => by
  simp only [sSetI, Option.bind_eq_some_iff] at e
  obtain ⟨⟨l, α1⟩, e1, ⟨f0, x0⟩, h0, ⟨lk, α2⟩, e2, v, e3, k, e4, ⟨f, x⟩, e5, c, e6, e7⟩ := e
  cases e7
  have dict : x.isDict = true → sDPut (tVar i) tk te D σ H := fun hd => by
    refine he.go p H σ α A l α1 _ R e1 fun p1 H1 A1 u R1 S1 q1 => ?_
    obtain ⟨a, hs, _, _⟩ := root_at R1 (rootAt_some h0)
    refine ⟨.ref a, hs, ?_⟩
    refine hk.go p1 H1 σ α1 A1 lk α2 _ R1 e2 fun p2 H2 A2 w R2 S2 q2 => ?_
    obtain ⟨b, hs1, ha1, t⟩ := root_at R2 (rootAt_some e5)
    rw [hs] at hs1
    cases hs1
    obtain ⟨o, o', w1, w2, w3, w4⟩ := put_top (R2.inp i a (by rw [ha1]; exact List.mem_cons_self ..)) t hd (res_vz R2 q2 e4) (own_dz R2 (q1.step R1 S2) e3) e6
    refine ⟨a, _, rfl, w3, ?_⟩
    have ⟨P, S⟩ := root_put R2 (rootAt_some e5) (join_of hs) w1 w2 ha1 w4
    exact h p2 _ σ _ P ((S1.trans R S2).trans R S)
  cases x with
  | list xs =>
    left
    simp only [setDa] at e6
    split at e6
    · rename_i j
      obtain ⟨n, e8, e9⟩ := Option.bind_eq_some_iff.mp e6
      cases e9
      refine he.go p H σ α A l α1 _ R e1 fun p1 H1 A1 u R1 S1 q1 => ?_
      obtain ⟨a, hs, _, _⟩ := root_at R1 (rootAt_some h0)
      refine ⟨.ref a, hs, ?_⟩
      refine hk.go p1 H1 σ α1 A1 lk α2 _ R1 e2 fun p2 H2 A2 w R2 S2 q2 => ?_
      obtain ⟨b, hs1, ha1, ws, w1, w2, w3⟩ := root_at R2 (rootAt_some e5)
      rw [hs] at hs1
      cases hs1
      cases vz_int (res_vz R2 q2 e4)
      refine ⟨a, ws, j, n, rfl, rfl, w1, by rw [w3.length]; exact e8, ?_⟩
      have hp := R2.inp i a (by rw [ha1]; exact List.mem_cons_self ..)
      have t : Tr p2 H2 p2 (L2.upd H2 a (.lst (ws.set n u))) := tr_upd hp w1 trivial
      have du := own_dz R2 (q1.step R1 S2) e3
      have ⟨P, S⟩ := root_put (x' := .list (xs.set n v)) (o' := .lst (ws.set n u)) R2 (rootAt_some e5) (join_of hs) w1 trivial ha1 ⟨_, upd_same, by rw [List.length_set]; exact w2, (w3.set n du).tr t⟩
      exact h p2 _ σ _ P ((S1.trans R S2).trans R S)
    · cases e6
  | dk kvs => exact .inr (dict rfl)
  | dt kvs => exact .inr (dict rfl)
  | _ => cases e6⟩
/-- d[k] op= e -/
def sAugI (i : Nat) (g : Da → Da → Option Da) (mk me : ME) : MS := fun α => (rootAt α i).bind fun _ => (mk α).bind fun y => (rootAt y.2 i).bind fun r0 => (res y.2 y.1).bind fun k0 => (lookD r0.2 k0).bind fun o0 => o0.bind fun x0 =>
  (me y.2).bind fun z => (res z.2 z.1).bind fun b => (g x0 b).bind fun c => (rootAt z.2 i).bind fun r => (res z.2 y.1).bind fun k => (setDa r.2 k c).bind fun d => if r.2.isDict = true then some (.nx (z.2.set i (.r r.1 false d))) else none
end
end Vm

namespace Vm
open PySem PySem.Spec PyProof.Rows L2 Gk
section
variable {K : PySem.W.Frag} {p p' p2 : List Addr} {H H' H2 : Hp} {σ σ' σ2 : L2.St} {α α' α2 α0 : AS} {A A' A2 : FT}
/-! ### dicts by comprehensions -/
def mkD {κ τ : Type} [DecidableEq κ] (es : List (κ × τ)) : List (κ × τ) := es.foldl (fun acc kv => putD acc kv.1 kv.2) []
theorem mkD_snoc {κ τ : Type} [DecidableEq κ] (es : List (κ × τ)) (kv : κ × τ) : mkD (es ++ [kv]) = putD (mkD es) kv.1 kv.2 := by
  unfold mkD; rw [List.foldl_append]; rfl
def AccK (K : PySem.W.Frag) (p : List Addr) (H : Hp) (D : Addr) (done : List (Key × Da)) : Prop := ∃ kvs, H D = some (.dK kvs) ∧ kvs.length ≤ done.length ∧ DzK K p H kvs (mkD done)
def AccT (K : PySem.W.Frag) (p : List Addr) (H : Hp) (D : Addr) (done : List (List Key × Da)) : Prop := ∃ kvs, H D = some (.dT kvs) ∧ kvs.length ≤ done.length ∧ DzT K p H kvs (mkD done)
theorem accK : AccOk (AccK K) := ⟨fun ⟨vs, h1, h3, h2⟩ t e => ⟨vs, by rw [e]; exact h1, h3, h2.tr t⟩, fun ⟨vs, h1, _⟩ => ⟨_, h1, trivial⟩⟩
theorem accT : AccOk (AccT K) := ⟨fun ⟨vs, h1, h3, h2⟩ t e => ⟨vs, by rw [e]; exact h1, h3, h2.tr t⟩, fun ⟨vs, h1, _⟩ => ⟨_, h1, trivial⟩⟩
def uDc (tk tv : TE) : L2.St → Hp → Addr → (Hp → Prop) → Prop := fun σ H D Nx => tk σ H fun y H4 => tv σ H4 fun z H5 => ∃ kvs k, y = kV k ∧ H5 D = some (.dK kvs) ∧ kvs.length < sizeLine ∧ Nx (upd H5 D (.dK (putK kvs k z)))
def uDcT (tk tv : TE) : L2.St → Hp → Addr → (Hp → Prop) → Prop := fun σ H D Nx => tk σ H fun y H4 => tv σ H4 fun z H5 => ∃ kvs k c, y = .ref c ∧ H5 c = some (.tup (List.map kV k)) ∧ H5 D = some (.dT kvs) ∧ kvs.length < sizeLine ∧ Nx (upd H5 D (.dT (putK kvs k z)))
def mDc {κ : Type} (key : Da → Option κ) (mk mv : ME) : AS → Option (List (κ × Da) × AS) := fun α => (mk α).bind fun l => (mv l.2).bind fun r => (own r.2 l.1).bind fun x => (own r.2 r.1).bind fun y => (key x).bind fun k => some ([(k, y)], r.2)
theorem acc_stay {D : Addr} {o : HO} {p1 : List Addr} {H1 : Hp} {σ1 : L2.St} {α1 : AS} {A1 : FT} (R : Rel K p H σ α A) (S1 : Step p H σ α A p1 H1 σ1 α1 A1) (hDp : D ∈ p) (nD : ∀ i, D ∉ A i) (ho : H D = some o) : H1 D = some o ∧ D ∈ p1 ∧ ∀ i, D ∉ A1 i := by
  refine ⟨(S1.keep D _ ho nD).exp hDp, ?_, fun j z => ?_⟩
  · rcases S1.mono D hDp with z | ⟨k, z⟩
    · exact z
    · exact (nD k z).elim
  · rcases S1.new j D z with q | q
    · exact nD j q
    · rw [ho] at q; cases q
theorem ref_uDc {tk tv : TE} {mk mv : ME} (hk : RefE K tk mk) (hv : RefE K tv mv) : RefC K (AccK K) (uDc tk tv) (mDc keyD mk mv) :=
  ⟨fun p0 H0 σ0 α0 A0 p H σ α A D done ys α' Nx R0 S h0 R hDp nD acc e hl h => by
    simp only [mDc, Option.bind_eq_some_iff] at e
    obtain ⟨⟨l, α1⟩, e1, ⟨r, α2⟩, e2, x, e3, y, e4, k, e5, e6⟩ := e
    cases e6
    refine hk.go p H σ α A l α1 _ R e1 fun p1 H1 A1 v R1 S1 q1 => ?_
    refine hv.go p1 H1 σ α1 A1 r α2 _ R1 e2 fun p2 H2 A2 w R2 S2 q2 => ?_
    obtain ⟨vs, g1, g2, dz⟩ := acc
    have S12 := S1.trans R S2
    obtain ⟨hD1, hDp1, nD1⟩ := acc_stay R S12 hDp nD g1
    have lv : vs.length < LIM := by simp only [List.length_cons, List.length_nil] at hl; omega
    obtain ⟨rfl, ok⟩ := vz_key (.of (own_dz R2 (q1.step R1 S2) e3)) e5
    refine ⟨vs, k, rfl, hD1, line_lt (Nat.le_of_lt lv), h p2 _ A2 (rel_upd R2 hDp1 hD1 trivial nD1) ((S.trans R0 S12).upd h0) hDp1 nD1 ⟨_, upd_same, ?_, ?_⟩⟩
    · have := length_putK vs k w
      rw [List.length_append, List.length_singleton]
      omega
    · rw [mkD_snoc]
      exact ((dz.tr (S12.tr R)).put ok (own_dz R2 q2 e4)).tr (tr_upd hDp1 hD1 trivial)⟩
theorem ref_uDcT {tk tv : TE} {mk mv : ME} (hk : RefE K tk mk) (hv : RefE K tv mv) : RefC K (AccT K) (uDcT tk tv) (mDc keyT mk mv) :=
  ⟨fun p0 H0 σ0 α0 A0 p H σ α A D done ys α' Nx R0 S h0 R hDp nD acc e hl h => by
    simp only [mDc, Option.bind_eq_some_iff] at e
    obtain ⟨⟨l, α1⟩, e1, ⟨r, α2⟩, e2, x, e3, y, e4, k, e5, e6⟩ := e
    cases e6
    refine hk.go p H σ α A l α1 _ R e1 fun p1 H1 A1 v R1 S1 q1 => ?_
    refine hv.go p1 H1 σ α1 A1 r α2 _ R1 e2 fun p2 H2 A2 w R2 S2 q2 => ?_
    obtain ⟨vs, g1, g2, dz⟩ := acc
    have S12 := S1.trans R S2
    obtain ⟨hD1, hDp1, nD1⟩ := acc_stay R S12 hDp nD g1
    have lv : vs.length < LIM := by simp only [List.length_cons, List.length_nil] at hl; omega
    obtain ⟨c, rfl, hc, ok⟩ := vz_keyT (.of (own_dz R2 (q1.step R1 S2) e3)) e5
    refine ⟨vs, k, c, rfl, hc, hD1, line_lt (Nat.le_of_lt lv), h p2 _ A2 (rel_upd R2 hDp1 hD1 trivial nD1) ((S.trans R0 S12).upd h0) hDp1 nD1 ⟨_, upd_same, ?_, ?_⟩⟩
    · have := length_putK vs k w
      rw [List.length_append, List.length_singleton]
      omega
    · rw [mkD_snoc]
      exact ((dz.tr (S12.tr R)).put ok (own_dz R2 q2 e4)).tr (tr_upd hDp1 hD1 trivial)⟩
def fDc (m : AS → Option (List (Key × Da) × AS)) : MF := fun α => (m α).bind fun r => if r.1.length ≤ LIM then some (.r (.dk (mkD r.1)), r.2) else none
def fDcT (m : AS → Option (List (List Key × Da) × AS)) : MF := fun α => (m α).bind fun r => if r.1.length ≤ LIM then some (.r (.dt (mkD r.1)), r.2) else none
theorem ref_fDc {w : TI} {g : TG} {tt : TT} {u : L2.St → Hp → Addr → (Hp → Prop) → Prop} {vs : List Nat} {mi : MI} {mg : MG} {mt : MT} {mu : AS → Option (List (Key × Da) × AS)} (hi : RefI K w mi) (hg : RefB K g mg vs) (ht : RefT K tt mt) (hu : RefC K (AccK K) u mu) :
    RefF K (tCmp w g tt u vs (.dK [])) (fDc (cmI mi vs mg mt mu)) := ⟨fun p H σ α A r α' Q R e h => by
  simp only [fDc, Option.bind_eq_some_iff] at e
  obtain ⟨⟨ys, α1⟩, e1, e2⟩ := e
  split at e2
  · rename_i hl
    cases e2
    refine cmp_core accK (fun p H D => ⟨[], upd_same, Nat.le_refl _, .nil⟩) hi hg ht hu R e1 hl fun p1 H1 A1 a R1 S1 fr acc => ?_
    obtain ⟨vs, h1, h2, h3⟩ := acc
    exact h p1 H1 A1 a [] R1 S1 fr ⟨rfl, vs, .of h1, Nat.le_trans h2 hl, h3⟩
  · cases e2⟩
theorem ref_fDcT {w : TI} {g : TG} {tt : TT} {u : L2.St → Hp → Addr → (Hp → Prop) → Prop} {vs : List Nat} {mi : MI} {mg : MG} {mt : MT} {mu : AS → Option (List (List Key × Da) × AS)} (hi : RefI K w mi) (hg : RefB K g mg vs) (ht : RefT K tt mt) (hu : RefC K (AccT K) u mu) :
    RefF K (tCmp w g tt u vs (.dT [])) (fDcT (cmI mi vs mg mt mu)) := ⟨fun p H σ α A r α' Q R e h => by
  simp only [fDcT, Option.bind_eq_some_iff] at e
  obtain ⟨⟨ys, α1⟩, e1, e2⟩ := e
  split at e2
  · rename_i hl
    cases e2
    refine cmp_core accT (fun p H D => ⟨[], upd_same, Nat.le_refl _, .nil⟩) hi hg ht hu R e1 hl fun p1 H1 A1 a R1 S1 fr acc => ?_
    obtain ⟨vs, h1, h2, h3⟩ := acc
    exact h p1 H1 A1 a [] R1 S1 fr ⟨rfl, vs, .of h1, Nat.le_trans h2 hl, h3⟩
  · cases e2⟩
/-! ### dict(pairs) -/
def pairsD {κ : Type} (key : Da → Option κ) : List Da → Option (List (κ × Da))
  | [] => some []
  | .tuple [k, v] :: r => (key k).bind fun j => (pairsD key r).bind fun es => some ((j, v) :: es)
  | _ => none
theorem pairs_t : ∀ {vs : List V} {xs : List Da} {es : List (List Key × Da)}, DzA K p H vs xs → pairsD keyT xs = some es →
    ∃ (ps : List Addr) (fs : List (List Key × Addr × V)), vs = ps.map V.ref ∧ Paired (PairT H) ps fs ∧ Paired (fun (f : List Key × Addr × V) (e : List Key × Da) => f.1 = e.1 ∧ ((∀ x ∈ e.1, KeyOk x) ∧ e.1.length ≤ LIM) ∧ Dz K p H f.2.2 e.2) fs es
  | _, _, _, .nil, e => by cases e; exact ⟨[], [], rfl, .nil, .nil⟩
  | _, _, _, .cons (d := d) h t, e => by
    unfold pairsD at e
    split at e
    · rename_i z; cases z
    · rename_i k v r z
      cases z
      simp only [Option.bind_eq_some_iff] at e
      obtain ⟨j, e1, es, e2, e3⟩ := e
      cases e3
      obtain ⟨ps, fs, rfl, q1, q2⟩ := pairs_t t e2
      cases h with
      | tup hr hl hd =>
        cases hd with
        | cons d1 d2 =>
          cases d2 with
          | cons d2 d3 =>
            cases d3
            obtain ⟨b, rfl, hb, ok⟩ := vz_keyT (.of d1) e1
            exact ⟨_ :: ps, (j, b, _) :: fs, rfl, .cons ⟨hr, hb⟩ q1, .cons ⟨rfl, ok, d2⟩ q2⟩
    · cases e
theorem merge_t : ∀ {fs : List (List Key × Addr × V)} {es : List (List Key × Da)} {acc : List (List Key × V)} {dcc : List (List Key × Da)}, Paired (fun (f : List Key × Addr × V) (e : List Key × Da) => f.1 = e.1 ∧ ((∀ x ∈ e.1, KeyOk x) ∧ e.1.length ≤ LIM) ∧ Dz K p H f.2.2 e.2) fs es → DzT K p H acc dcc →
    DzT K p H (fs.foldl (fun acc e => putK acc e.1 e.2.2) acc) (es.foldl (fun acc kv => putD acc kv.1 kv.2) dcc) ∧ (fs.foldl (fun acc e => putK acc e.1 e.2.2) acc).length ≤ acc.length + fs.length
  | _, _, acc, _, .nil, h => ⟨h, Nat.le_refl _⟩
  | f :: fs, e :: es, acc, dcc, .cons ⟨h1, h2, h3⟩ t, h => by
    rw [List.foldl_cons, List.foldl_cons, h1]
    obtain ⟨a, b⟩ := merge_t t (h.put h2 h3)
    refine ⟨a, ?_⟩
    have := length_putK acc e.1 f.2.2
    rw [List.length_cons]
    omega
def fDictT (ma : MA) : MF := fun α => (ma α).bind fun x => (resA x.2 x.1).bind fun a => match a with
  | [.list xs] => (pairsD keyT xs).bind fun es => some (.r (.dt (mkD es)), x.2)
  | _ => none
theorem paired_len {τ υ : Type} {R : τ → υ → Prop} : ∀ {xs : List τ} {ys : List υ}, Paired R xs ys → xs.length = ys.length
  | _, _, .nil => rfl
  | _, _, .cons _ t => congrArg (· + 1) (paired_len t)
theorem ref_fDictT {ta : TA} {ma : MA} (ha : RefA K ta ma) : RefF K (tCB rDictT ta) (fDictT ma) := ⟨fun p H σ α A r α' Q R e h => by
  simp only [fDictT, Option.bind_eq_some_iff] at e
  obtain ⟨⟨ls, α1⟩, e1, a, e2, e3⟩ := e
  split at e3
  · rename_i xs
    simp only [Option.bind_eq_some_iff] at e3
    obtain ⟨es, e4, e5⟩ := e3
    cases e5
    refine ha.go p H σ α A ls _ _ R e1 fun p1 H1 A1 vs R1 S1 q1 => ?_
    obtain ⟨v, rfl, hv⟩ := vz1 (resA_vz R1 q1 e2)
    obtain ⟨ad, us, rfl, h1, h2, h3⟩ := vz_lst hv
    obtain ⟨ps, fs, rfl, g1, g2⟩ := pairs_t h3 e4
    refine ⟨ad, ps, fs, rfl, h1, g1, fun q hq => ?_⟩
    obtain ⟨m1, m2⟩ := merge_t g2 (acc := []) (dcc := []) .nil
    obtain ⟨R2, S2, nr⟩ := rel_new (o := .dT (mergeT fs)) R1 hq
    refine h _ _ A1 q [] R2 (S1.trans R S2) (fresh_one (List.mem_cons_self ..) (S1.dom q hq) nr) ⟨rfl, _, .of upd_same, ?_, m1.tr (tr_new hq (same_new hq))⟩
    have l1 := paired_len g1
    rw [List.length_map] at h2
    have : (mergeT fs).length ≤ 0 + fs.length := m2
    omega
  · cases e3⟩
end
end Vm

namespace Vm
open PySem PySem.Spec PyProof.Rows L2 Gk
section
variable {K : PySem.W.Frag} {p p' p2 : List Addr} {H H' H2 : Hp} {σ σ' σ2 : L2.St} {α α' α2 α0 : AS} {A A' A2 : FT}
/-! ### sorted -/
def rSortD (K : PySem.W.Frag) : List V → Hp → VK → Prop := fun xs H Q => ∃ (a : Addr) (vs : List V) (ds : List PyData), xs = [V.ref a] ∧ SqL K H a vs ∧ DpAll K H vs ds ∧ PySem.W.AllAlike ds ∧ PySem.W.Sortable ds ∧ (∀ d ∈ ds, d.depth ≤ 64) ∧
  ∀ q, H q = none → Q (.ref q) (upd H q (.lst (((vs.zip ds).mergeSort (PySem.W.dataLe false (·.2))).map (·.1))))
theorem DpAll.length : ∀ {vs : List V} {ds : List PyData}, DpAll K H vs ds → vs.length = ds.length
  | _, _, .nil => rfl
  | _, _, .cons _ t => congrArg (· + 1) (DpAll.length t)
theorem zip_snd {τ υ : Type} : ∀ {xs : List τ} {ys : List υ}, xs.length = ys.length → (xs.zip ys).map (·.2) = ys
  | [], [], _ => rfl
  | x :: xs, y :: ys, h => by rw [List.zip_cons_cons, List.map_cons, zip_snd (by simpa using h)]
  | [], _ :: _, h => by cases h
  | _ :: _, [], h => by cases h
theorem each_of {R : Value → V × PyData → Prop} : ∀ {vs : List V} {us : List Value} {ds : List PyData}, Vals vs us → vs.length = ds.length → (∀ (i : Nat) (v : V) (u : Value) (d : PyData), vs[i]? = some v → us[i]? = some u → ds[i]? = some d → RelV v u → R u (v, d)) → PySem.W.EachIs R us (vs.zip ds)
  | [], [], [], .nil, _, _ => .nil
  | v :: vs, u :: us, d :: ds, .cons r t, hl, h => .cons (h 0 v u d rfl rfl rfl r) (each_of t (by simpa using hl) fun i v u d h1 h2 h3 => h (i + 1) v u d (by simpa using h1) (by simpa using h2) (by simpa using h3))
  | _ :: _, _ :: _, [], _, hl, _ => by cases hl
theorem cr_sortD {X : Cx} (hK : X.K = K) (hu : X.A.units + 70 < cLine) : CallR X (.builtin "sorted") (rSortD K) := by
  subst hK
  intro pins s σ H xs us Q I r h
  obtain ⟨a, vs, ds, rfl, hs, hd, al, so, dep, q⟩ := h
  obtain ⟨its, rv, hl, hz⟩ := I.list hs
  rw [Vals.ref1 r]
  have hlen := DpAll.length hd
  have e : PySem.W.EachIs (fun u (b : V × PyData) => RelV b.1 u) its (vs.zip ds) := each_of rv hlen fun i v u d _ _ _ hr => hr
  obtain ⟨as, ra⟩ := Dp.readsAll I ds vs its hd rv
  have er : PySem.W.EachIs (fun u (b : V × PyData) => ∃ as, Reads s.heap u b.2 as) its (vs.zip ds) := by
    have ra' : ReadsAll s.heap its ((vs.zip ds).map (·.2)) as := by rw [zip_snd hlen]; exact ra
    exact PySem.W.readsAll_each (fun b : V × PyData => b.2) ra'
  have em : (vs.zip ds).map (·.2) = ds := zip_snd hlen
  refine PySem.W.sorted_data (enc := fun b : V × PyData => b.2) hl.isList e er (by rw [em]; exact al) (by rw [em]; exact so) (by rw [List.length_zip]; omega) (fun b hb => ?_) fun out ol eo => ?_
  · have : b.2 ∈ ds := by rw [← em]; exact List.mem_map_of_mem hb
    have := dep _ this
    omega
  · have rv' : Vals (((vs.zip ds).mergeSort (PySem.W.dataLe false (·.2))).map (·.1)) out := by
      have gen : ∀ {us : List Value} {bs : List (V × PyData)}, PySem.W.EachIs (fun u (b : V × PyData) => RelV b.1 u) us bs → Vals (bs.map (·.1)) us := fun {us bs} h => by
        induction h with
        | nil => exact .nil
        | cons h _ ih => exact .cons h ih
      exact gen eo
    obtain ⟨ep, he'⟩ := PyProof.Rows.sortedAll_at s.heap its out.toArray
    have hlen' : (((vs.zip ds).mergeSort (PySem.W.dataLe false (·.2))).map (·.1)).length ≤ sizeLine := by
      rw [List.length_map, List.length_mergeSort, List.length_zip]; omega
    exact ⟨.ref _, upd H (s.heap.objs.size + 1) (.lst _), I.laid (t' := s.toks) (fun _ _ => PyProof.Rows.sortedAll_old) (Nat.le_succ _) ⟨hlen', out, ep, rv', he'⟩, rfl, q _ (I.hok.fresh (Nat.le_succ _))⟩
open Classical in
/-- the data sorted as Python does; none where they can't be told apart -/
noncomputable def sortD (xs : List Da) : Option (List Da) := (toPys xs).bind fun ds => if PySem.W.AllAlike ds ∧ PySem.W.Sortable ds ∧ (∀ d ∈ ds, d.depth ≤ 64) then some (((xs.zip ds).mergeSort (PySem.W.dataLe false (·.2))).map (·.1)) else none
theorem toPys_len : ∀ {xs : List Da} {ds : List PyData}, toPys xs = some ds → ds.length = xs.length
  | [], _, e => by cases e; rfl
  | x :: xs, _, e => by
    simp only [toPys, Option.bind_eq_some_iff] at e
    obtain ⟨d, _, ds, e2, e3⟩ := e
    cases e3
    exact congrArg (· + 1) (toPys_len e2)
theorem merge_map {τ υ : Type} (f : τ → υ) (le : υ → υ → Bool) (l : List τ) : (l.map f).mergeSort le = (l.mergeSort fun a b => le (f a) (f b)).map f :=
  (List.map_mergeSort (f := f) (r := fun a b => le (f a) (f b)) (s := le) (fun _ _ _ _ => rfl)).symm
theorem DzA.get2 : ∀ {vs : List V} {xs : List Da}, DzA K p H vs xs → ∀ vx ∈ vs.zip xs, Dz K p H vx.1 vx.2
  | _, _, .nil, _, m => by cases m
  | _, _, .cons h t, vx, m => by
    rw [List.zip_cons_cons] at m
    rcases List.mem_cons.mp m with rfl | m
    · exact h
    · exact DzA.get2 t vx m
theorem dzA_of : ∀ {l : List (V × Da)}, (∀ vx ∈ l, Dz K p H vx.1 vx.2) → DzA K p H (l.map (·.1)) (l.map (·.2))
  | [], _ => .nil
  | vx :: l, h => .cons (h vx (List.mem_cons_self ..)) (dzA_of fun y m => h y (List.mem_cons_of_mem _ m))
theorem sort_dz {vs : List V} {xs : List Da} {ds : List PyData} (h : DzA K p H vs xs) (hl : ds.length = xs.length) :
    DzA K p H (((vs.zip ds).mergeSort (PySem.W.dataLe false (·.2))).map (·.1)) (((xs.zip ds).mergeSort (PySem.W.dataLe false (·.2))).map (·.1)) := by
  have hv := h.length
  have e1 : vs.zip ds = ((vs.zip xs).zip ds).map fun t => (t.1.1, t.2) := by
    apply List.ext_getElem?
    intro i
    simp only [List.getElem?_map, List.getElem?_zip_eq_some, List.zip, List.getElem?_zipWith]
    rcases Nat.lt_or_ge i ds.length with hi | hi
    · have h1 : i < vs.length := by omega
      have h2 : i < xs.length := by omega
      simp [h1, h2, hi]
    · have h1 : vs.length ≤ i := by omega
      have h2 : xs.length ≤ i := by omega
      simp [h1, h2, hi]
  have e2 : xs.zip ds = ((vs.zip xs).zip ds).map fun t => (t.1.2, t.2) := by
    apply List.ext_getElem?
    intro i
    simp only [List.getElem?_map, List.getElem?_zip_eq_some, List.zip, List.getElem?_zipWith]
    rcases Nat.lt_or_ge i ds.length with hi | hi
    · have h1 : i < vs.length := by omega
      have h2 : i < xs.length := by omega
      simp [h1, h2, hi]
    · have h1 : vs.length ≤ i := by omega
      have h2 : xs.length ≤ i := by omega
      simp [h1, h2, hi]
  rw [e1, e2, merge_map, merge_map, List.map_map, List.map_map]
  have key := dzA_of (K := K) (p := p) (H := H) (l := (((vs.zip xs).zip ds).mergeSort fun a b => PySem.W.dataLe false (fun t : (V × Da) × PyData => t.2) a b).map (·.1)) fun vx m => by
    obtain ⟨t, m1, rfl⟩ := List.mem_map.mp m
    have m2 := List.mem_mergeSort.mp m1
    exact h.get2 _ (List.of_mem_zip m2).1
  rw [List.map_map, List.map_map] at key
  exact key
theorem mem_of_sort {xs : List Da} {ds : List PyData} : (((xs.zip ds).mergeSort (PySem.W.dataLe false (·.2))).map (·.1)).length = (xs.zip ds).length := by
  rw [List.length_map, List.length_mergeSort]
noncomputable def fSortM (ma : MA) : MF := fun α => (ma α).bind fun x => (resA x.2 x.1).bind fun a => match a with
  | [.list xs] => (sortD xs).bind fun ys => some (.r (.list ys), x.2)
  | _ => none
theorem ref_fSort {ta : TA} {ma : MA} (ha : RefA K ta ma) : RefF K (tCB (rSortD K) ta) (fSortM ma) := ⟨fun p H σ α A r α' Q R e h => by
  simp only [fSortM, Option.bind_eq_some_iff] at e
  obtain ⟨⟨ls, α1⟩, e1, a, e2, e3⟩ := e
  split at e3
  · rename_i xs
    simp only [Option.bind_eq_some_iff] at e3
    obtain ⟨ys, e4, e5⟩ := e3
    cases e5
    simp only [sortD, Option.bind_eq_some_iff] at e4
    obtain ⟨ds, e6, e7⟩ := e4
    split at e7
    · rename_i hc
      cases e7
      refine ha.go p H σ α A ls _ _ R e1 fun p1 H1 A1 vs R1 S1 q1 => ?_
      obtain ⟨v, rfl, hv⟩ := vz1 (resA_vz R1 q1 e2)
      obtain ⟨ad, us, rfl, h1, h2, h3⟩ := vz_lst hv
      refine ⟨ad, us, ds, rfl, .of h1, dzA_dp h3 e6, hc.1, hc.2.1, hc.2.2, fun q hq => ?_⟩
      obtain ⟨R2, S2, nr⟩ := rel_new (o := .lst (((us.zip ds).mergeSort (PySem.W.dataLe false (·.2))).map (·.1))) R1 hq
      refine h _ _ A1 q [] R2 (S1.trans R S2) (fresh_one (List.mem_cons_self ..) (S1.dom q hq) nr) ⟨rfl, _, upd_same, ?_, (sort_dz h3 (toPys_len e6)).tr (tr_new hq (same_new hq))⟩
      rw [List.length_map, List.length_mergeSort, List.length_zip]
      omega
    · cases e7
  · cases e3⟩
end
end Vm

namespace Vm
open PySem PySem.Spec PyProof.Rows L2 Gk
section
variable {K : PySem.W.Frag} {p p' p2 : List Addr} {H H' H2 : Hp} {σ σ' σ2 : L2.St} {α α' α2 α0 : AS} {A A' A2 : FT}
/-! ### f(g(..)): a new thing handed in -/
def oneF (f : List Addr) : FT := fun i => if i = 0 then f else []
theorem callO {F : FV} {a : Addr} {as : List Addr} {r : Nw} {y : Rv} {bs : List AV} {Q : VK} {E : XK} (R : Rel K p H σ α A) (R1 : Rel K p' H' σ α' A') (S1 : Step p H σ α A p' H' σ α' A') (fr : Fresh p' H A' (a :: as)) (nw : NewR K p' H' a as r) (e : F [r.av] = some (y, bs))
    (h : ∀ p2 H2 v, Rel K p2 H2 σ α' A' → Step p H σ α A p2 H2 σ α' A' → Dz K p2 H2 v y.da → Q v H2) : spV K F [.ref a] H' Q E := by
  have om : ∀ {i b}, b ∈ oneF (a :: as) i → i = 0 ∧ b ∈ a :: as := fun {i b} m => by
    unfold oneF at m
    split at m
    · exact ⟨by assumption, m⟩
    · exact (List.not_mem_nil m).elim
  have RA : Rel K p' H' ([V.ref a].map some) [r.av] (oneF (a :: as)) := by
    refine ⟨rfl, fun i q e => ?_, fun i e => ?_, fun i => ?_, fun i j b h1 h2 => (om h1).1.trans (om h2).1.symm, fun i b m => fr.inp b (om m).2, R1.al⟩
    · cases i with
      | zero => cases e; exact new_slot nw
      | succ i => simp at e
    · unfold oneF
      split
      · rename_i z; subst z; simp at e
      · rfl
    · unfold oneF
      split
      · exact fr.nd
      · exact .nil
  refine ⟨p', [r.av], oneF (a :: as), y, bs, RA, e, fun p2 H2 B v R2 S2 rr => ?_⟩
  have t := S2.tr RA
  have nin : ∀ i b, b ∈ A' i → ∀ j, b ∉ oneF (a :: as) j := fun i b m j z => fr.noA b (om z).2 i m
  have R3 : Rel K p2 H2 σ α' A' := by
    refine ⟨R1.len, fun i q e => (R1.sl i q e).tr t fun c m u hu => (S2.keep c u hu (nin i c m)).exp (R1.inp i c m), R1.out, R1.nd, R1.dj, fun i b m => ?_, R2.al⟩
    rcases S2.mono b (R1.inp i b m) with z | ⟨j, z⟩
    · exact z
    · exact (nin i b m j z).elim
  have S3 : Step p H σ α A p2 H2 σ α' A' := by
    refine ⟨fun b o e n => ?_, fun b e => S1.dom b (S2.dom b e), S1.new, fun b m => ?_, fun b m => ?_, S1.ln, S1.fix, S1.nof⟩
    · have nb : ∀ j, b ∉ oneF (a :: as) j := fun j z => by
        have := fr.non b (om z).2
        rw [e] at this; cases this
      rcases S1.keep b o e n with z | ⟨z1, z2, od, z3⟩
      · rcases S2.keep b o z nb with w | ⟨w1, w2, w3⟩
        · exact .inl w
        · refine .inr ⟨fun m => ?_, w2, w3⟩
          rcases S1.mono b m with y | ⟨i, y⟩
          · exact w1 y
          · exact n i y
      · exact .inr ⟨z1, z2, od, (S2.keep b _ z3 nb).ex rfl⟩
    · rcases S2.sub b m with z | z
      · exact S1.sub b z
      · exact .inr (S1.dom b z)
    · rcases S1.mono b m with z | z
      · rcases S2.mono b z with w | ⟨j, w⟩
        · exact .inl w
        · exact (R.al b m (fr.non b (om w).2)).elim
      · exact .inr z
  -- the answer as data
  have nf : ∀ bs', Fresh p2 H' B bs' → Fresh p2 H A' bs' := fun bs' f => ⟨f.inp, fun b m => S1.dom b (f.non b m), fun b m i z => R1.in_al z (f.non b m), f.nd⟩
  have rr' : ResR K H p2 H2 A' v y := by
    cases y with
    | one r => obtain ⟨cs, q1, q2⟩ := rr; exact ⟨cs, q1, nf cs q2⟩
    | tup rs => obtain ⟨t, us, cs, q1, q2, q3, q4, q5⟩ := rr; exact ⟨t, us, cs, q1, q2, q3, q4, nf cs q5⟩
  obtain ⟨p4, R4, S4, d⟩ := res_da R R3 S3 rr'
  exact h p4 H2 v R4 S4 d
def eCallO (F : FV) (mf : MF) : ME := fun α => (mf α).bind fun x => (F [x.1.av]).bind fun y => some (.d y.1.da, x.2)
theorem ref_callO {F : FV} {t : TE} {mf : MF} {E : XK} (hf : RefF K t mf) : RefE K (tCall (spV K F) [] E (tCons t tNil)) (eCallO F mf) := ⟨fun p H σ α A l α' Q R e h => by
  simp only [eCallO, Option.bind_eq_some_iff] at e
  obtain ⟨⟨r, α1⟩, e1, ⟨y, bs⟩, e2, e4⟩ := e
  cases e4
  refine hf.go p H σ α A r α1 _ R e1 fun p1 H1 A1 a as R1 S1 fr nw => ?_
  exact callO (E := E) R R1 S1 fr nw e2 fun p2 H2 v R2 S2 d => h p2 H2 A1 v R2 S2 d⟩
/-! ### the script -/
theorem sc_sq {i : Nat} {ns : List Int} (R : Rel K p H σ α A) (h : α[i]? = some (.sc ns)) : ∃ a, σ[i]? = some (some (.ref a)) ∧ SqL K H a (ns.map V.int) := by
  obtain ⟨v, hv⟩ := R.has h (by intro z; cases z)
  obtain ⟨_, a, e, q⟩ := R.sl i _ h
  rw [join_of hv] at e
  cases e
  exact ⟨a, hv, q.elim (fun z => .inl z.2) .inr⟩
def rLenL (K : PySem.W.Frag) : List V → Hp → VK → Prop := fun xs H Q => ∃ a ys, xs = [.ref a] ∧ SqL K H a ys ∧ Q (.int ((ys.length : Nat) : Int)) H
theorem len_L {X : Cx} (hK : X.K = K) : CallR X (.builtin "len") (rLenL K) := by
  subst hK
  intro pins s σ H xs us Q I r h
  obtain ⟨a, ys, rfl, hs, q⟩ := h
  exact call_len pins s σ H _ us Q I r ⟨.ref a, ys.length, rfl, .inl ⟨ys, hs, rfl⟩, q⟩
def eScLen (i : Nat) : ME := fun α => match α[i]? with
  | some (.sc ns) => some (.d (.int ((ns.length : Nat) : Int)), α)
  | _ => none
theorem ref_scLen {i : Nat} : RefE K (tCB (rLenL K) (tCons (tVar i) tNil)) (eScLen i) := ⟨fun p H σ α A l α' Q R e h => by
  unfold eScLen at e
  split at e
  · rename_i ns hi
    cases e
    obtain ⟨a, hs, sq⟩ := sc_sq R hi
    refine ⟨.ref a, hs, a, _, rfl, sq, ?_⟩
    rw [List.length_map]
    exact h p H A _ R .refl (.int _)
  · cases e⟩
theorem ix_L {X : Cx} (hK : X.K = K) : IxR X (rIxL K) := by subst hK; exact ix_list
def eScIx (i : Nat) (mk : ME) : ME := fun α => match α[i]? with
  | some (.sc _) => (mk α).bind fun y => match y.2[i]? with
    | some (.sc ns) => (res y.2 y.1).bind fun k => match k with
      | .int j => (atI ns j).bind fun n => some (.d (.int n), y.2)
      | _ => none
    | _ => none
  | _ => none
theorem atI_map {ns : List Int} {j n : Int} (h : atI ns j = some n) : atI (ns.map V.int) j = some (.int n) := by
  unfold atI at h ⊢
  rw [List.length_map]
  obtain ⟨k, e1, e2⟩ := Option.bind_eq_some_iff.mp h
  rw [e1, Option.bind_some, List.getElem?_map, e2]
  rfl
theorem ref_scIx {i : Nat} {tk : TE} {mk : ME} (hk : RefE K tk mk) : RefE K (tOp (rIxL K) (tVar i) tk) (eScIx i mk) := ⟨fun p H σ α A l α' Q R e h => by
  unfold eScIx at e
  split at e
  · rename_i ns0 hi0
    obtain ⟨a, hs, _⟩ := sc_sq R hi0
    simp only [Option.bind_eq_some_iff] at e
    obtain ⟨⟨ly, α1⟩, e1, e2⟩ := e
    split at e2
    · rename_i ns hi
      simp only [Option.bind_eq_some_iff] at e2
      obtain ⟨k, e3, e4⟩ := e2
      split at e4
      · rename_i j
        obtain ⟨n, e5, e6⟩ := Option.bind_eq_some_iff.mp e4
        cases e6
        refine ⟨.ref a, hs, ?_⟩
        refine hk.go p H σ α A ly _ _ R e1 fun p1 H1 A1 v R1 S1 q => ?_
        obtain ⟨b, hs1, sq⟩ := sc_sq R1 hi
        rw [hs] at hs1
        cases hs1
        cases vz_int (res_vz R1 q e3)
        exact ⟨a, _, j, _, rfl, rfl, sq, atI_map e5, h p1 H1 A1 _ R1 S1 (.int _)⟩
      · cases e4
    · cases e2
  · cases e⟩
/-! ### the great number -/
noncomputable def bigN : Int := big_worth.choose
theorem bigN_pos : 0 < bigN := big_worth.choose_spec.1
def rBig : List V → Hp → VK → Prop := fun xs H Q => xs = [.str bigS] ∧ Q (.int bigN) H
theorem cr_big {X : Cx} (hd : PySem.W.nsIn X.K cStatics "sys.int_max_str_digits" = some none) : CallR X (.type "int") rBig := by
  intro pins s σ H xs us Q I r h
  obtain ⟨rfl, q⟩ := h
  obtain ⟨u, rfl, t, rfl⟩ := vals1 r
  exact call_big big_worth.choose_spec.2 (noDigits_of I.kIn I.nolimit hd) ⟨.int bigN, H, I.tok _, ⟨_, rfl⟩, q⟩
noncomputable def eBig : ME := fun α => some (.d (.int bigN), α)
/-! ### names set side by side -/
def setDs : List Nat → List Da → AS → Option AS
  | [], [], α => some α
  | i :: is, x :: xs, α => (setD i x α).bind fun β => setDs is xs β
  | _, _, _ => none
def sPar (is : List Nat) (ma : MA) : MS := fun α => (ma α).bind fun x => (ownA x.2 x.1).bind fun xs => (setDs is xs x.2).bind fun β => some (.nx β)
theorem setDs_ok : ∀ {is : List Nat} {vs : List V} {xs : List Da} {p : List Addr} {H : Hp} {σ : L2.St} {α : AS} {A : FT}, Rel K p H σ α A → DzA K p H vs xs → setDs is xs α = some α' →
    ∃ A', Rel K p H ((is.zip vs).foldl (fun σ iv => σ.set iv.1 (some iv.2)) σ) α' A' ∧ Step p H σ α A p H ((is.zip vs).foldl (fun σ iv => σ.set iv.1 (some iv.2)) σ) α' A'
  | [], _, _, p, H, σ, α, A, R, .nil, e => by cases e; exact ⟨A, R, .refl⟩
  | i :: is, _, _, p, H, σ, α, A, R, .nil, e => by cases e
  | [], _, _, p, H, σ, α, A, R, .cons _ _, e => by cases e
  | i :: is, _, _, p, H, σ, α, A, R, .cons d t, e => by
    simp only [setDs, Option.bind_eq_some_iff] at e
    obtain ⟨β, e1, e2⟩ := e
    obtain ⟨r, f1, f2, rfl⟩ := setD_some e1
    have ⟨R1, S1⟩ := rel_setD R d f1 f2
    obtain ⟨A', R2, S2⟩ := setDs_ok R1 t e2
    exact ⟨A', R2, S1.trans R S2⟩
theorem ref_par {i j : Nat} {ta : TA} {ma : MA} (ha : RefA K ta ma) : RefS K (tPar i j ta) (sPar [i, j] ma) := ⟨fun p H σ α A o D R e h => by
  simp only [sPar, Option.bind_eq_some_iff] at e
  obtain ⟨⟨ls, α1⟩, e1, xs, e2, β, e3, e4⟩ := e
  cases e4
  refine ha.go p H σ α A ls α1 _ R e1 fun p1 H1 A1 vs R1 S1 q => ?_
  have dz := ownA_dz R1 q e2
  obtain ⟨A2, R2, S2⟩ := setDs_ok R1 dz e3
  cases dz with
  | nil => cases e3
  | cons d1 t => cases t with
    | nil => simp [setDs] at e3
    | cons d2 t => cases t with
      | cons _ _ => simp [setDs] at e3
      | nil => exact ⟨_, _, rfl, h p1 H1 _ A2 R2 (S1.trans R S2)⟩⟩
theorem ref_par3 {i j k : Nat} {ta : TA} {ma : MA} (ha : RefA K ta ma) : RefS K (tPar3 i j k ta) (sPar [i, j, k] ma) := ⟨fun p H σ α A o D R e h => by
  simp only [sPar, Option.bind_eq_some_iff] at e
  obtain ⟨⟨ls, α1⟩, e1, xs, e2, β, e3, e4⟩ := e
  cases e4
  refine ha.go p H σ α A ls α1 _ R e1 fun p1 H1 A1 vs R1 S1 q => ?_
  have dz := ownA_dz R1 q e2
  obtain ⟨A2, R2, S2⟩ := setDs_ok R1 dz e3
  cases dz with
  | nil => cases e3
  | cons d1 t => cases t with
    | nil => simp [setDs] at e3
    | cons d2 t => cases t with
      | nil => simp [setDs] at e3
      | cons d3 t => cases t with
        | cons _ _ => simp [setDs] at e3
        | nil => exact ⟨_, _, _, rfl, h p1 H1 _ A2 R2 (S1.trans R S2)⟩⟩
/-! ### list comprehensions as L2 has them -/
theorem ref_lc {w : TI} {g : TG} {tt : TT} {te : TE} {vs : List Nat} {mi : MI} {mg : MG} {mt : MT} {me : ME} (hi : RefI K w mi) (hg : RefB K g mg vs) (ht : RefT K tt mt) (he : RefE K te me) :
    RefF K (tLc w g tt te vs) (fLc (cmI mi vs mg mt (mLc me))) := ref_fLc hi hg ht (ref_uLc he)
theorem ref_lc2 {w : TI} {g : TG} {tt : TT} {w1 : TI} {g1 : TG} {tt1 : TT} {te : TE} {vs vs1 : List Nat} {mi : MI} {mg : MG} {mt : MT} {mi1 : MI} {mg1 : MG} {mt1 : MT} {me : ME} (hi : RefI K w mi) (hg : RefB K g mg vs) (ht : RefT K tt mt) (hi1 : RefI K w1 mi1) (hg1 : RefB K g1 mg1 vs1) (ht1 : RefT K tt1 mt1) (he : RefE K te me) :
    RefF K (tLc2 w g tt w1 g1 tt1 te vs vs1) (fLc (cmI mi vs mg mt (cmI mi1 vs1 mg1 mt1 (mLc me)))) := ref_fLc hi hg ht (ref_in accL hi1 hg1 ht1 (ref_uLc he))
theorem ref_dc {w : TI} {g : TG} {tt : TT} {tk tv : TE} {vs : List Nat} {mi : MI} {mg : MG} {mt : MT} {mk mv : ME} (hi : RefI K w mi) (hg : RefB K g mg vs) (ht : RefT K tt mt) (hk : RefE K tk mk) (hv : RefE K tv mv) :
    RefF K (tDc w g tt tk tv vs) (fDc (cmI mi vs mg mt (mDc keyD mk mv))) := ref_fDc hi hg ht (ref_uDc hk hv)
theorem ref_dcT {w : TI} {g : TG} {tt : TT} {tk tv : TE} {vs : List Nat} {mi : MI} {mg : MG} {mt : MT} {mk mv : ME} (hi : RefI K w mi) (hg : RefB K g mg vs) (ht : RefT K tt mt) (hk : RefE K tk mk) (hv : RefE K tv mv) :
    RefF K (tDcT w g tt tk tv vs) (fDcT (cmI mi vs mg mt (mDc keyT mk mv))) := ref_fDcT hi hg ht (ref_uDcT hk hv)
/-! tests by two readings -/
def tOrT (t u : TT) : TT := fun σ H Q => t σ H Q ∨ u σ H Q
theorem pt_orT {X : Cx} {e : Expr} {t u : TT} (a : PT X e t) (b : PT X e u) : PT X e (tOrT t u) := ⟨fun pins s σ H Q I h => h.elim (a.run pins s σ H Q I) (b.run pins s σ H Q I)⟩
theorem ref_testOr {t u : TE} {m : ME} (h : RefE K (tOrE t u) m) : RefT K (tOrT (tB t) (tB u)) (tOfE m) := ⟨fun p H σ α A b α' Q R e q => (ref_tB h).go p H σ α A b α' Q R e q⟩
end
end Vm

namespace Vm
open PySem PySem.Spec PyProof.Rows L2 Gk
theorem hu64_of {k : Nat} {A : Around} (h : Room k A) : A.units + 64 < cLine := by have := h.un; omega
theorem hu70_of {k : Nat} {A : Around} (h : Room k A) : A.units + 70 < cLine := by have := h.un; omega
theorem hu65_of {k : Nat} {A : Around} (h : Room k A) : A.units + 65 < cLine := by have := h.un; omega
section
variable {K : PySem.W.Frag} {p p' p2 : List Addr} {H H' H2 : Hp} {σ σ' σ2 : L2.St} {α α' α2 α0 : AS} {A A' A2 : FT}
theorem ref_big {ta : TA} (h : ∀ σ H Q, Q [V.str bigS] H → ta σ H Q) : RefE K (tCB rBig ta) eBig := ⟨fun p H σ α A l α' Q R e q => by
  cases e
  exact h σ H _ ⟨rfl, q p H A _ R .refl (.int _)⟩⟩
/-! ### dicts walked: locked for good -/
def tLkA (td : TE) : TE := fun σ H Q => td σ H fun x H1 => (∃ d u, x = .ref d ∧ H1 d = some u ∧ Mut (some u) ∧ ∀ od, Q x (upd H1 d (.frz od u))) ∨ Q x H1
theorem pe_lkA {X : Cx} {e : Expr} {td : TE} (he : PE X e td) : PE X e (tLkA td) := ⟨fun pins s σ H Q I h => by
  refine thn (he.run pins s σ H _ I h) fun u s1 ⟨x, H1, I1, rx, q⟩ => ?_
  rcases q with ⟨d, o, rfl, hd, mu, q⟩ | q
  · obtain ⟨od, I2⟩ := I1.lock hd mu
    exact ⟨_, _, I2, rx, q od⟩
  · exact ⟨x, H1, I1, rx, q⟩⟩
theorem rel_lockD {d : Addr} {o : HO} {od : Obj} (R : Rel K p H σ α A) (hd : d ∉ p) (ho : H d = some o) (hi : HO.isDict o = true) :
    Rel K p (L2.upd H d (.frz od o)) σ α A ∧ Step p H σ α A p (L2.upd H d (.frz od o)) σ α A ∧ Tr p H p (L2.upd H d (.frz od o)) := by
  have nd : ∀ b u, HO.isDict u = false → H b = some u → b ≠ d := fun b u n e z => by subst z; rw [ho] at e; cases e; rw [n] at hi; cases hi
  have t : Tr p H p (L2.upd H d (.frz od o)) := by
    refine ⟨fun b u n r => ⟨?_, n⟩, fun b xs n r => ?_, fun b xs r => ?_, fun b o' u n r => ?_⟩
    · rcases r with r | ⟨o', r⟩
      · by_cases z : b = d
        · subst z; rw [ho] at r; cases r; exact .inr ⟨od, upd_same⟩
        · exact .inl (by rw [upd_ne z]; exact r)
      · exact .inr ⟨o', by rw [upd_ne (nd b _ rfl r)]; exact r⟩
    · rw [upd_ne (nd b _ rfl r)]; exact r
    · rw [upd_ne (nd b _ rfl r)]; exact r
    · rw [upd_ne (nd b _ rfl r)]; exact r
  refine ⟨⟨R.len, fun i r e => (R.sl i r e).tr t fun c m u hu => ?_, R.out, R.nd, R.dj, R.inp, fun b m z => ?_⟩, ⟨fun b u e n => ?_, fun b e => ?_, fun i b m => .inl m, fun b m => .inl m, fun b m => .inl m, rfl, fun i r e f => ⟨rfl, r, e, .refl⟩, fun i r e f => ⟨r, e, f⟩⟩, t⟩
  · rw [upd_ne (fun z => by subst z; exact hd (R.inp i c m))]; exact hu
  · by_cases y : b = d
    · subst y; exact hd m
    · rw [upd_ne y] at z; exact R.al b m z
  · by_cases z : b = d
    · subst z; rw [ho] at e; cases e; exact .inr ⟨hd, hi, od, upd_same⟩
    · exact .inl (by rw [upd_ne z]; exact e)
  · by_cases z : b = d
    · subst z; rw [upd_same] at e; cases e
    · rw [upd_ne z] at e; exact e
def kD : Key → Da
  | .inl i => .int i
  | .inr s => .str s
theorem key_dz {k : Key} (h : KeyOk k) : Dz K p H (kV k) (kD k) := by
  cases k with
  | inl i => exact .int i
  | inr s => exact .str s h
theorem keys_dz : ∀ {ks : List Key}, (∀ x ∈ ks, KeyOk x) → DzA K p H (ks.map kV) (ks.map kD)
  | [], _ => .nil
  | k :: ks, h => .cons (key_dz (h k (List.mem_cons_self ..))) (keys_dz fun x m => h x (List.mem_cons_of_mem _ m))
theorem DzK.at : ∀ {xs : List (Key × V)} {ds : List (Key × Da)}, DzK K p H xs ds → ∀ {i : Nat} {k : Key} {v : V}, xs[i]? = some (k, v) → ∃ d, ds[i]? = some (k, d) ∧ KeyOk k ∧ Dz K p H v d
  | _, _, .nil, i, k, v, e => by simp at e
  | _, _, .cons h d t, 0, k, v, e => by cases e; exact ⟨_, rfl, h, d⟩
  | _, _, .cons h d t, i + 1, k, v, e => by
    obtain ⟨d, h1, h2⟩ := DzK.at t (i := i) (by simpa using e)
    exact ⟨d, by simpa using h1, h2⟩
theorem DzT.at : ∀ {xs : List (List Key × V)} {ds : List (List Key × Da)}, DzT K p H xs ds → ∀ {i : Nat} {k : List Key} {v : V}, xs[i]? = some (k, v) → ∃ d, ds[i]? = some (k, d) ∧ ((∀ x ∈ k, KeyOk x) ∧ k.length ≤ LIM) ∧ Dz K p H v d
  | _, _, .nil, i, k, v, e => by simp at e
  | _, _, .cons h d t, 0, k, v, e => by cases e; exact ⟨_, rfl, h, d⟩
  | _, _, .cons h d t, i + 1, k, v, e => by
    obtain ⟨d, h1, h2⟩ := DzT.at t (i := i) (by simpa using e)
    exact ⟨d, by simpa using h1, h2⟩
/-- the keys of a dict as data -/
def keysOf : Da → Option (List Da)
  | .dk kvs => some (kvs.map fun kv => kD kv.1)
  | .dt kvs => some (kvs.map fun kv => .tuple (kv.1.map kD))
  | _ => none
def iKey (ma : ME) : MI := fun α => (ma α).bind fun l => (own l.2 l.1).bind fun x => (keysOf x).bind fun ks => some ((ks, []), l.2)
theorem itk_ok {d : Addr} {od : Obj} {kvs : List (Key × V)} {ds : List (Key × Da)} (hd : d ∉ p) (ho : H d = some (.frz od (.dK kvs))) (dz : DzK K p H kvs ds) : ItR K p H σ α (Itk d od kvs) (ds.map fun kv => kD kv.1) [] := ⟨fun p1 H1 σ1 α1 A1 R1 t _ => by
  have h1 := t.fz d od _ hd ho
  refine ⟨fun n x hx => ?_, h1, by rw [List.length_map, ← dz.length]; exact Nat.le_refl _⟩
  have hn : n < kvs.length := by have := getElem?_lt hx; rw [List.length_map, ← dz.length] at this; exact this
  refine ⟨⟨h1, hn⟩, fun v H2 z => ?_⟩
  obtain ⟨rfl, k, w, e1, rfl⟩ := z
  obtain ⟨d', e2, ok, _⟩ := dz.at e1
  rw [List.getElem?_map, e2] at hx
  cases hx
  exact ⟨Same.refl _, key_dz ok⟩⟩
theorem itkt_ok {d : Addr} {od : Obj} {kvs : List (List Key × V)} {ds : List (List Key × Da)} (hd : d ∉ p) (ho : H d = some (.frz od (.dT kvs))) (dz : DzT K p H kvs ds) : ItR K p H σ α (Itkt d od kvs) (ds.map fun kv => .tuple (kv.1.map kD)) [] := ⟨fun p1 H1 σ1 α1 A1 R1 t _ => by
  have h1 := t.fz d od _ hd ho
  refine ⟨fun n x hx => ?_, h1, by rw [List.length_map, ← dz.length]; exact Nat.le_refl _⟩
  have hn : n < kvs.length := by have := getElem?_lt hx; rw [List.length_map, ← dz.length] at this; exact this
  refine ⟨⟨h1, hn⟩, fun v H2 z => ?_⟩
  obtain ⟨rfl, k, w, q, e1, rfl, hq⟩ := z
  obtain ⟨d', e2, ok, _⟩ := dz.at e1
  rw [List.getElem?_map, e2] at hx
  cases hx
  exact ⟨Same.refl _, .tup hq (by rw [List.length_map]; exact ok.2) (keys_dz ok.1)⟩⟩
theorem ref_iKeys {td : TE} {ma : ME} (ha : RefE K td ma) : RefI K (iKeys (tLkA td)) (iKey ma) := ⟨fun p H σ α A x α' Rr R e h => by
  simp only [iKey, Option.bind_eq_some_iff] at e
  obtain ⟨⟨l, α1⟩, e1, y, e2, ks, e3, e4⟩ := e
  cases e4
  refine ha.go p H σ α A l α1 _ R e1 fun p1 H1 A1 v R1 S1 q1 => ?_
  have dz := own_dz R1 q1 e2
  cases dz with
  | dk n r hl ds =>
    cases e3
    rcases r with r | ⟨od, r⟩
    · left
      refine ⟨_, _, rfl, r, trivial, fun od => ⟨_, od, rfl, .inl ⟨_, upd_same, ?_⟩⟩⟩
      obtain ⟨R2, S2, t⟩ := rel_lockD (od := od) R1 n r rfl
      exact h p1 _ A1 _ R2 (S1.trans R S2) (itk_ok n upd_same (ds.tr t)) lockable_nil
    · right
      exact ⟨_, od, rfl, .inl ⟨_, r, h p1 H1 A1 _ R1 S1 (itk_ok n r ds) lockable_nil⟩⟩
  | dt n r hl ds =>
    cases e3
    rcases r with r | ⟨od, r⟩
    · left
      refine ⟨_, _, rfl, r, trivial, fun od => ⟨_, od, rfl, .inr ⟨_, upd_same, ?_⟩⟩⟩
      obtain ⟨R2, S2, t⟩ := rel_lockD (od := od) R1 n r rfl
      exact h p1 _ A1 _ R2 (S1.trans R S2) (itkt_ok n upd_same (ds.tr t)) lockable_nil
    · right
      exact ⟨_, od, rfl, .inr ⟨_, r, h p1 H1 A1 _ R1 S1 (itkt_ok n r ds) lockable_nil⟩⟩
  | _ => cases e3⟩
/-- a text, sign by sign -/
def iSgn (ma : ME) : MI := fun α => (ma α).bind fun l => (own l.2 l.1).bind fun x => match x with
  | .str z => some ((signsD z, []), l.2)
  | _ => none
theorem its_ok {z : Str} : ItR K p H σ α (Its z) (signsD z) [] := ⟨fun p1 H1 σ1 α1 A1 R1 t _ => by
  refine ⟨fun n x hx => ?_, by simp [Its, signsD]⟩
  unfold signsD at hx
  rw [List.getElem?_map] at hx
  obtain ⟨c, hc, rfl⟩ := Option.map_eq_some_iff.mp hx
  have hn := getElem?_lt hc
  rw [Array.length_toList] at hn
  refine ⟨hn, fun v H2 y => ?_⟩
  obtain ⟨rfl, c', e1, rfl⟩ := y
  rw [Array.getElem?_toList, e1] at hc
  cases hc
  exact ⟨Same.refl _, .str _ (by show 1 ≤ SLIM; decide)⟩⟩
theorem ref_iSgn {td : TE} {ma : ME} (ha : RefE K td ma) : RefI K (iStr td) (iSgn ma) := ⟨fun p H σ α A x α' Rr R e h => by
  simp only [iSgn, Option.bind_eq_some_iff] at e
  obtain ⟨⟨l, α1⟩, e1, y, e2, e3⟩ := e
  split at e3
  · rename_i z
    cases e3
    refine ha.go p H σ α A l _ _ R e1 fun p1 H1 A1 v R1 S1 q1 => ?_
    obtain ⟨rfl, _⟩ := vz_str (.of (own_dz R1 q1 e2))
    exact ⟨z, rfl, h p1 H1 A1 _ R1 S1 its_ok lockable_nil⟩
  · cases e3⟩
/-- whatever is walked -/
def iAny (ma : ME) : MI := fun α => (iLst ma α).or ((iTpl ma α).or ((iKey ma α).or (iSgn ma α)))
def iA (K : PySem.W.Frag) (t : TE) : TI := iOr (iList K t) (iOr (iTup K t) (iOr (iKeys (tLkA t)) (iStr t)))
theorem pi_any {X : Cx} {tg e : Expr} {t : TE} (hK : X.K = K) (he : PE X e t) : PI X tg e (iA K t) := by
  subst hK
  exact pi_or (pi_list he) (pi_or (pi_tup he) (pi_or (pi_keys (pe_lkA he)) (pi_str he)))
theorem ref_iAny {t : TE} {ma : ME} (ha : RefE K t ma) : RefI K (iA K t) (iAny ma) := ⟨fun p H σ α A x α' Rr R e h => by
  unfold iAny at e
  cases e1 : iLst ma α with
  | some y => rw [e1] at e; cases e; exact .inl ((ref_iList ha).go p H σ α A x α' Rr R e1 h)
  | none =>
    rw [e1, Option.none_or] at e
    cases e2 : iTpl ma α with
    | some y => rw [e2] at e; cases e; exact .inr (.inl ((ref_iTup ha).go p H σ α A x α' Rr R e2 h))
    | none =>
      rw [e2, Option.none_or] at e
      cases e3 : iKey ma α with
      | some y => rw [e3] at e; cases e; exact .inr (.inr (.inl ((ref_iKeys ha).go p H σ α A x α' Rr R e3 h)))
      | none =>
        rw [e3, Option.none_or] at e
        exact .inr (.inr (.inr ((ref_iSgn ha).go p H σ α A x α' Rr R e h)))⟩
/-! ### < of data -/
def rLtD (K : PySem.W.Frag) : R2 := fun x y H Q => ∃ d e, Dp K H x d ∧ Dp K H y e ∧ PySem.W.alike d e = true ∧ d ≠ .none ∧ d.depth ≤ 64 ∧ Q (.bl (PySem.W.dataLt d e)) H
theorem op_ltD {X : Cx} (hK : X.K = K) (hu : X.A.units + 70 < cLine) : OpR X (compareOp .Lt) (rLtD K) := by
  subst hK
  intro pins s σ H x y v u Q I rx ry h
  obtain ⟨d, e, hd, he, al, nn, dp, q⟩ := h
  obtain ⟨as, r1⟩ := Dp.reads I d x v hd rx
  obtain ⟨bs, r2⟩ := Dp.reads I e y u he ry
  refine PySem.W.lt_data r1 r2 al nn ?_ ⟨.bl _, H, I, rfl, q⟩
  have : min d.depth e.depth ≤ d.depth := Nat.min_le_left _ _
  omega
def rLtA (K : PySem.W.Frag) : R2 := rOr (rI0 fun i j => .bl (decide (i < j))) (rLtD K)
theorem op_ltA {X : Cx} (hK : X.K = K) (hu : X.A.units + 70 < cLine) : OpR X (compareOp .Lt) (rLtA K) := opr_or op_lt (op_ltD hK hu)
def fLtA : Da → Da → Option Da
  | .int i, .int j => some (.bool (decide (i < j)))
  | a, b => (toPy a).bind fun d => (toPy b).bind fun e => match d with
    | .none => none
    | d => if PySem.W.alike d e = true ∧ d.depth ≤ 64 then some (.bool (PySem.W.dataLt d e)) else none
theorem rr_ltA : RefR2 K (rLtA K) fLtA := fun p H x y a b c Q al va vb e q => by
  unfold fLtA at e
  split at e
  · cases e
    cases vz_int va
    cases vz_int vb
    exact .inl ⟨_, _, rfl, rfl, q _ H (Same.refl H) (.bl _)⟩
  · simp only [Option.bind_eq_some_iff] at e
    obtain ⟨d, e1, f, e2, e3⟩ := e
    split at e3
    · cases e3
    · rename_i nn
      split at e3
      · rename_i hc
        cases e3
        exact .inr ⟨d, f, vz_dp va e1, vz_dp vb e2, hc.1, nn, hc.2, q _ H (Same.refl H) (.bl _)⟩
      · cases e3
end
end Vm

/-! enumerate(a tuple): a walk of new pairs -/
namespace Gk
open PySem PySem.Spec PyProof.Rows L2
abbrev enuObj (it : Addr) : Obj := { cls := .type "enumerate", data := .fields #[.none, .bool false, .ref it, rawInt 0, .none, .none] }
set_option maxHeartbeats 1000000 in
/-- what enumerate(v) makes, for any v whose walk begins with o -/
theorem enu_makes {v : Value} {o : Obj} {Here : Heap → Prop} (B : Begins v o Here) :
    Meets (Builtin.«enumerate.__new__» ⟨[.type "enumerate", v], []⟩) fun _ R s =>
      Here s.heap ∧ R (.ok (.ret (.ref (s.heap.push o).objs.size))) { s with heap := (s.heap.push o).push (enuObj s.heap.objs.size) } := by
  apply Meets.of_wp
  rintro prog w A R ⟨hp, gs, dd, tk, os⟩ ⟨here, fin⟩
  have isub := sub_enumerate
  have starts : ∀ {A' : Around} {E : Value → Shared → Prop} {Q : Value → Shared → Prop},
      Q (.ref hp.objs.size) ⟨hp.push o, gs, dd, tk, os⟩ → wpAny (model prog w) A' (pyIter v) Q E ⟨hp, gs, dd, tk, os⟩ :=
    fun q => B.iter _ _ _ _ ⟨hp, gs, dd, tk, os⟩ _ here q
  wp_walk using starts
  apply wpAny_stack_any
  intro st
  apply wpAny_pure
  split
  · rename_i c _ _ _ _ _
    cases (c == Value.type "enumerate") <;> (wp_walk using starts; exact ⟨_, rfl, fin⟩)
  · wp_walk using starts
    exact ⟨_, rfl, fin⟩
/-- enumerate(a tuple) called: its two new objects -/
theorem enu_call {prog : Program} {w : World} {A : Around} {E : Value → Shared → Prop} {s : Shared} {t : Addr} {its : Array Value} {Q : Value → Shared → Prop} (ht : s.heap.IsTuple t its)
    (fin : ∀ h', IsEnum h' (s.heap.objs.size + 1) s.heap.objs.size 0 .none → h'.IsTupleIter s.heap.objs.size t 0 → (∀ b o, s.heap.get? b = some o → h'.get? b = some o) → Q (.ref (s.heap.objs.size + 1)) { s with heap := h' }) :
    wpAny (model prog w) A (call (.type "enumerate") [.ref t]) Q E s := by
  have B := begins_tuple t its
  have grow := Heap.size_push s.heap { cls := .type "tuple_iterator", data := .fields #[.ref t, .int 0 0] }
  apply callType_new F.called_enumerate (by decide) (F.typeCall_enumerate_1 _) (F.newCall_enumerate_1 _) (fun obj => F.args_object_init_2 obj _) F.entry_enumerate_new (enu_makes B)
  refine ⟨ht, ?_⟩
  show _ ∧ _
  rw [grow]
  have top := Heap.get?_push_size (s.heap.push { cls := .type "tuple_iterator", data := .fields #[.ref t, .int 0 0] }) (o := enuObj s.heap.objs.size) rfl
  rw [grow] at top
  have below := Heap.get?_push_of_some (enuObj s.heap.objs.size) (Heap.get?_push_size s.heap (o := { cls := .type "tuple_iterator", data := .fields #[.ref t, .int 0 0] }) rfl)
  exact ⟨⟨_, top, rfl⟩, fin _ top ⟨_, below, rfl, rfl⟩ fun b o q => Heap.get?_push_of_some _ (Heap.get?_push_of_some _ q)⟩
/-- the tuple at t, each part in a new pair with its number -/
def IteT (K : PySem.W.Frag) (t : Addr) : It where
  go := fun n H => ∃ (ps : List V) (y : V), SqT K H t ps ∧ ps[n]? = some y
  yld := fun n H v H' => ∃ c y, v = .ref c ∧ H c = none ∧ H' = upd H c (.tup [.int ((n : Nat) : Int), y]) ∧ ∀ ps, SqT K H t ps → ps[n]? = some y
  stop := fun n H => ∃ ps : List V, SqT K H t ps ∧ ps.length = n
abbrev EnuAt (t en it : Addr) (n : Nat) (h : Heap) : Prop := (∃ last, IsEnum h en it ((n : Nat) : Int) last) ∧ h.IsTupleIter it t n ∧ en ≠ it
theorem enu_turn {P : Program} {w : World} {K : PySem.W.Frag} {elts : List Expr} {kk : Nat} {tp : Pos} {t en it : Addr} (n1 : t ≠ it) (n2 : en ≠ t) : Turn P w K (.Tuple elts kk tp) (IteT K t) [en, it] en (EnuAt t en it) := by
  have two : ∀ {b : Addr}, b ∈ [en, it] → b = en ∨ b = it := fun m => by simpa using m
  constructor
  case mem => simp
  case obj =>
    rintro n h ⟨⟨last, q⟩, ⟨o, ho, _, od⟩, _⟩ b hb
    rcases two hb with rfl | rfl
    · exact ⟨_, q, nofun⟩
    · exact ⟨o, ho, fun v z => by rw [od] at z; cases z⟩
  case keep =>
    rintro n h h' ⟨⟨last, q⟩, qi, ne⟩ stays
    exact ⟨⟨last, stays en (by simp) _ q⟩, qi.at fun o z => stays it (by simp) o z, ne⟩
  case item =>
    rintro X rfl rfl rfl calm n pins s σ H E I foot ⟨⟨last, q⟩, qi, ne⟩ ⟨ps, y, sq, hy⟩
    obtain ⟨us, rel, tup, _⟩ := I.tuple sq
    obtain ⟨u, hu, ru⟩ := rel.get hy
    have ltE : en < s.heap.objs.size := Heap.lt_size q
    have ltI : it < s.heap.objs.size := by obtain ⟨_, z, _⟩ := qi; exact Heap.lt_size z
    have ltN : n < us.toArray.size := by
      have := (List.getElem?_eq_some_iff.mp hu).1
      rwa [List.size_toArray]
    apply wpAny_pyNext_enum_itemD (Draws.tuple (A := X.A.in1) (I.ok.hd calm) it t n1 us.toArray) q ⟨qi, tup⟩ ltN ne (by simp [ne, n2])
    intro z h1 tk hz out qi1 hc _ stays
    obtain rfl : z = u := by
      have a : us.toArray[n]? = some z := hz
      have b : us.toArray[n]? = some u := by simpa using hu
      exact Option.some.inj (a.symm.trans b)
    refine ⟨_, rfl, ?_⟩
    apply wpAny_letOwnedTupleGo_enum (s := { s with heap := h1, toks := tk + 1 }) out
    intro h2 q2 same
    have pair : h2.get? s.heap.objs.size = some { cls := .type "tuple", data := .seq #[.int n tk, z] } := (same.2 _ (Nat.ne_of_gt ltE)).trans hc
    have good : ObjOk X.prog X.w (upd H s.heap.objs.size (.tup [.int ((n : Nat) : Int), y])) h2 s.heap.objs.size (.tup [.int ((n : Nat) : Int), y]) :=
      ⟨by show 2 ≤ sizeLine; decide, [.int n tk, z], .cons ⟨_, rfl⟩ (.cons ru .nil), _, pair, rfl, _, rfl⟩
    have J := I.turnedNew (ch := [en, it]) (t' := tk + 1) (fun b ob hb e => by
      have b1 : b ≠ en := fun e => hb (by simp [e])
      have b2 : b ≠ it := fun e => hb (by simp [e])
      exact (same.2 b b1).trans (stays b ob b1 b2 e)) foot (Nat.le_refl _) good
    refine ⟨.ref s.heap.objs.size, _, J, rfl, ⟨_, y, rfl, I.hok.fresh (Nat.le_refl _), rfl, fun ys hys => ?_⟩, ⟨⟨z, ?_⟩, qi1.1.at fun o e => (same.2 it (Ne.symm ne)).trans e, ne⟩, fun b hb => ?_⟩
    · rw [I.tuple_inj hys sq]
      exact hy
    · rw [show ((n + 1 : Nat) : Int) = (n : Int) + 1 from by omega]
      exact q2
    · have lt : b < s.heap.objs.size := by
        rcases two hb with rfl | rfl
        · exact ltE
        · exact ltI
      exact (upd_ne (Nat.ne_of_lt lt)).trans (foot b hb).1
  case done =>
    rintro X rfl rfl rfl calm n pins s σ H E I foot ⟨⟨last, q⟩, qi, ne⟩ ⟨ps, sq, len⟩
    obtain ⟨us, rel, tup, _⟩ := I.tuple sq
    obtain ⟨a0, a1, a2, a3, a4, a5⟩ := foot it (by simp)
    obtain rfl : us.toArray.size = n := by
      have := rel.length
      rw [List.size_toArray]
      omega
    apply wpAny_pyNext_enum_endD (Draws.tuple (A := X.A.in1) (I.ok.hd calm) it t n1 us.toArray) q ⟨qi, tup⟩
    exact fun h' but => ⟨rfl, I.turned (t' := s.toks) (fun b o hb e => but b o hb e) a0 a1 a3 a4 a5⟩
  case self =>
    rintro A n s Q E ⟨⟨_, q⟩, _⟩ h
    exact wpAny_pyIter_enum q h
def iEnumT (K : PySem.W.Frag) (ta : TA) : TI := fun σ H R => ta σ H fun vs H1 => ∃ t ps, vs = [.ref t] ∧ SqT K H1 t ps ∧ R (IteT K t) H1
theorem pi_enumT {X : Cx} {K : PySem.W.Frag} {e : Expr} {ta : TA} {p pos tp : Pos} {elts : List Expr} {kk : Nat} (hK : X.K = K) (gl : Gl X "enumerate") (free : X.mg "enumerate" = none) (ha : PA X [e] ta)
    (plain : starEach [e] X.env = [(false, eval e X.env)] := by rfl) : PI X (.Tuple elts kk tp) (.Call (.Name "enumerate" p) [e] [] pos) (iEnumT K ta) := by
  subst hK
  constructor
  intro pins s σ H R I h
  refine Call_ ?_
  apply ld_blt I gl free boot_enumerate
  apply PyProof.Rows.callWith_type1 _ plain rfl
  apply thn (ha.run pos pins s σ H _ I h)
  rintro us s1 ⟨vs, H1, I1, rel, t, ps, rfl, sq, q⟩
  obtain ⟨u, rfl, ru⟩ := vals1 rel
  cases (show u = Value.ref t from ru)
  obtain ⟨its, _, tup, _⟩ := I1.tuple sq
  have below : t < s1.heap.objs.size := by obtain ⟨_, z, _⟩ := tup; exact Heap.lt_size z
  apply enu_call tup
  intro h' isE isI stays
  apply wpAny_pyIter_enum isE
  refine ⟨_, [s1.heap.objs.size + 1, s1.heap.objs.size], _, _, H1, rfl, I1.kept (t' := s1.toks) stays, enu_turn (Nat.ne_of_lt below) (Nat.ne_of_gt (Nat.lt_succ_of_lt below)), ⟨⟨.none, isE⟩, isI, Nat.succ_ne_self _⟩, fun b hb => ?_, q⟩
  have up : s1.heap.objs.size ≤ b := by
    have : b = s1.heap.objs.size + 1 ∨ b = s1.heap.objs.size := by simpa using hb
    rcases this with rfl | rfl
    · exact Nat.le_succ _
    · exact Nat.le_refl _
  exact I1.fpOk up (I1.hok.fresh up)
end Gk

/-! {k: v for a in .. for b in ..} -/
namespace Gk
open PySem PySem.Spec PyProof.Rows L2
section
variable (kx vx t0 i0 t1 i1 : Expr) (f0 f1 : List Expr) (sc : Scope) (pos : Pos)
abbrev dc2 : Expr := .DictComp kx vx [⟨t0, i0, f0, 0⟩, ⟨t1, i1, f1, 0⟩] sc pos
/-- the tests of a clause -/
abbrev testsM (fs : List Expr) (env : Env) : Sem Bool := forIn fs true fun c r => if r = true then do let ok ← isTrue c env (eval c env); pure (ForInStep.yield ok) else pure (ForInStep.yield r)
theorem dc2_turn0 (it acc : Value) (env : Env) : compTurn (dc2 kx vx t0 i0 t1 i1 f0 f1 sc pos) 0 it acc env =
    (standAt i0.pos >>= fun _ => pyNext it >>= fun r => match r with
      | none => pure (.done .next)
      | some v => letOwnedTupleGo t0 it v >>= fun _ => assign t0 env v >>= fun _ => testsM f0 env >>= fun ok =>
        if ok = true then eval i1 env >>= fun x => standAt i1.pos >>= fun _ => foldedSetIterable i1 env x >>= fun x => holding [x] (pyIter x) >>= fun j =>
          runOwn (.compStart (dc2 kx vx t0 i0 t1 i1 f0 f1 sc pos) 1 j acc env) env >>= fun _ => again (.compLoop (dc2 kx vx t0 i0 t1 i1 f0 f1 sc pos) 0 it acc env)
        else again (.compLoop (dc2 kx vx t0 i0 t1 i1 f0 f1 sc pos) 0 it acc env)) := by
  rfl
theorem dc2_turn1 (it : Value) (D : Addr) (env : Env) : compTurn (dc2 kx vx t0 i0 t1 i1 f0 f1 sc pos) 1 it (.ref D) env =
    (standAt i1.pos >>= fun _ => pyNext it >>= fun r => match r with
      | none => pure (.done .next)
      | some v => letOwnedTupleGo t1 it v >>= fun _ => assign t1 env v >>= fun _ => testsM f1 env >>= fun ok =>
        if ok = true then (eval kx env >>= fun kv => holding [kv] (eval vx env) >>= fun vv => standAt { kx.pos with endLine := vx.pos.endLine, endCol := vx.pos.endCol } >>= fun _ => holding [kv, vv] (dictSet D kv vv)) >>= fun _ =>
          again (.compLoop (dc2 kx vx t0 i0 t1 i1 f0 f1 sc pos) 1 it (.ref D) env)
        else again (.compLoop (dc2 kx vx t0 i0 t1 i1 f0 f1 sc pos) 1 it (.ref D) env)) := by
  rfl
end
section
variable {prog : Program} {w : World} {A : Around} {R : Result → Shared → Prop} {s : Shared} {kx vx t0 i0 t1 i1 : Expr} {f0 f1 : List Expr} {sc : Scope} {pos : Pos} {it : Value} {D : Addr} {env : Env}
/-- an error on the way out of a turn -/
abbrev outE (prog : Program) (w : World) (A : Around) (env : Env) (R : Result → Shared → Prop) : Value → Shared → Prop := notedBy (model prog w) A env fun e s' => R (.error e) s'
/-- one turn of a clause, up to its tests -/
abbrev head1 (prog : Program) (w : World) (A : Around) (R : Result → Shared → Prop) (t : Expr) (fs : List Expr) (it : Value) (env : Env) (leaf : Bool → Shared → Prop) (s : Shared) : Prop :=
  wpAny (model prog w) A (pyNext it) (fun r s1 => match r with
    | none => R (.ok .next) s1
    | some v => wpAny (model prog w) A (letOwnedTupleGo t it v) (fun _ s2 => wpAny (model prog w) A (assign t env v) (fun _ s3 => wpAny (model prog w) A (testsM fs env) leaf (outE prog w A env R) s3) (outE prog w A env R) s2) (outE prog w A env R) s1) (outE prog w A env R) s
theorem dc2_loop0 (fold : ∀ x, foldedSetIterable i1 env x = pure x) (In : Nat → Shared → Prop)
    (turn : ∀ n s, In n s → head1 prog w A R t0 f0 it env (fun ok s4 => if ok = true then wpAny (model prog w) A (eval i1 env) (fun x s5 => wpAny (model prog w) A (pyIter x) (fun j s6 =>
        codeAny (model prog w) A (.compStart (dc2 kx vx t0 i0 t1 i1 f0 f1 sc pos) 1 j (.ref D) env) (fun r s' => r.isOk = true ∧ ∃ m, m < n ∧ In m s') s6) (outE prog w A env R) s5) (outE prog w A env R) s4
      else ∃ m, m < n ∧ In m s4) s) (n : Nat) (h : In n s) :
    codeAny (model prog w) A (.compLoop (dc2 kx vx t0 i0 t1 i1 f0 f1 sc pos) 0 it (.ref D) env) R s := by
  apply codeAny_loop rfl In _ n h
  intro n s hin
  show wpAny _ A ((compTurn (dc2 kx vx t0 i0 t1 i1 f0 f1 sc pos) 0 it (.ref D) env).onRaise _) _ _ s
  apply wpAny_noted
  rw [dc2_turn0]
  apply wpAny_bind
  apply wpAny_standAt
  apply wpAny_bind
  apply thn (turn n s hin)
  intro r s1 q1
  cases r with
  | none => exact wpAny_pure q1
  | some v =>
    apply wpAny_bind
    apply thn q1
    intro _ s2 q2
    apply wpAny_bind
    apply thn q2
    intro _ s3 q3
    apply wpAny_bind
    apply thn q3
    intro ok s4 q4
    cases ok with
    | false => exact wpAny_pure ⟨rfl, q4⟩
    | true =>
      apply wpAny_bind
      apply thn q4
      intro x s5 q5
      apply wpAny_bind
      apply wpAny_standAt
      apply wpAny_bind
      apply wpAny_of_eq (fold x)
      apply wpAny_bind
      apply wpAny_holding
      apply thn q5
      intro j s6 q6
      apply wpAny_bind
      refine wpAny_runOwn ?_
      rw [Around.mark_none]
      apply codeAny_mono q6
      rintro r s' ⟨ok, q⟩
      cases r with
      | ok f => exact wpAny_pure ⟨rfl, q⟩
      | error e => cases ok
theorem dc2_loop1 (In : Nat → Shared → Prop)
    (turn : ∀ n s, In n s → head1 prog w A R t1 f1 it env (fun ok s4 => if ok = true then wpAny (model prog w) A (eval kx env) (fun kv s5 => wpAny (model prog w) A (eval vx env) (fun vv s6 =>
        wpAny (model prog w) A (dictSet D kv vv) (fun _ s7 => ∃ m, m < n ∧ In m s7) (outE prog w A env R) s6) (outE prog w A env R) s5) (outE prog w A env R) s4
      else ∃ m, m < n ∧ In m s4) s) (n : Nat) (h : In n s) :
    codeAny (model prog w) A (.compLoop (dc2 kx vx t0 i0 t1 i1 f0 f1 sc pos) 1 it (.ref D) env) R s := by
  apply codeAny_loop rfl In _ n h
  intro n s hin
  show wpAny _ A ((compTurn (dc2 kx vx t0 i0 t1 i1 f0 f1 sc pos) 1 it (.ref D) env).onRaise _) _ _ s
  apply wpAny_noted
  rw [dc2_turn1]
  apply wpAny_bind
  apply wpAny_standAt
  apply wpAny_bind
  apply thn (turn n s hin)
  intro r s1 q1
  cases r with
  | none => exact wpAny_pure q1
  | some v =>
    apply wpAny_bind
    apply thn q1
    intro _ s2 q2
    apply wpAny_bind
    apply thn q2
    intro _ s3 q3
    apply wpAny_bind
    apply thn q3
    intro ok s4 q4
    cases ok with
    | false => exact wpAny_pure ⟨rfl, q4⟩
    | true =>
      apply wpAny_bind
      apply wpAny_bind
      apply thn q4
      intro kv s5 q5
      apply wpAny_bind
      apply wpAny_holding
      apply thn q5
      intro vv s6 q6
      apply wpAny_bind
      apply wpAny_standAt
      apply wpAny_holding
      apply thn q6
      intro _ s7 q7
      exact wpAny_pure ⟨rfl, q7⟩
theorem dc2_start1 (h0 : codeAny (model prog w) A (.compLoop (dc2 kx vx t0 i0 t1 i1 f0 f1 sc pos) 1 it (.ref D) env) R s)
    (h : wpAny (model prog w) A (pyIter it) (fun j s' => codeAny (model prog w) A (.compLoop (dc2 kx vx t0 i0 t1 i1 f0 f1 sc pos) 1 j (.ref D) env) R s') (outE prog w A env R) s) :
    codeAny (model prog w) A (.compStart (dc2 kx vx t0 i0 t1 i1 f0 f1 sc pos) 1 it (.ref D) env) R s := by
  apply codeAny_of_tree
  show wpAny _ _ ((compStart (dc2 kx vx t0 i0 t1 i1 f0 f1 sc pos) 1 it (.ref D) env).onRaise _) _ _ s
  apply wpAny_notedAt
  unfold compStart
  show wpAny _ _ (ask >>= _) _ _ s
  apply wpAny_bind
  apply wpAny_askSetting
  apply wpAny_ite
  split
  · first
      | exact wpAny_pure ⟨rfl, h0⟩
      | exact wpAny_bind (wpAny_pure (wpAny_pure ⟨rfl, h0⟩))
  · apply wpAny_bind
    apply wpAny_rule
    show wpAny _ _ (standAt i1.pos >>= _) _ _ s
    apply wpAny_bind
    apply wpAny_standAt
    apply wpAny_bind
    exact thn h fun j s' q => wpAny_pure ⟨rfl, q⟩
end
section
variable {X : Cx} {kx vx t0 i0 t1 i1 : Expr} {f0 f1 : List Expr} {sc : Scope} {pos : Pos} {own : List (Str × Nat)} {vs1 : List Nat} {w0 w1 : TI} {g0 g1 : TG} {tt0 tt1 : TT} {u : L2.St → Hp → Addr → (Hp → Prop) → Prop} {o : HO}
/-- what the innermost does: a key, a value, the dict at D -/
def Leaf (Y : Cx) (kx vx : Expr) (u : L2.St → Hp → Addr → (Hp → Prop) → Prop) : Prop :=
  ∀ (pins : List (Addr × Obj)) (s : Shared) (σ : L2.St) (H : Hp) (D : Addr) (Nx : Hp → Prop), L2.Inv Y pins σ H s → u σ H D Nx →
    wpAny (model Y.prog Y.w) Y.A (eval kx Y.env) (fun kv s1 => wpAny (model Y.prog Y.w) Y.A (eval vx Y.env) (fun vv s2 => wpAny (model Y.prog Y.w) Y.A (dictSet D kv vv) (fun _ s3 => ∃ H', L2.Inv Y pins σ H' s3 ∧ Nx H') (fun _ _ => False) s2) (fun _ _ => False) s1) (fun _ _ => False) s
abbrev Blk (X : Cx) (sc : Scope) (T : Cx → Prop) : Prop := ∀ (s : Shared) (H : Hp) (C : Addr) (cl : List (Str × Addr)) (fp : List Addr), T (X.blk s H sc (compEnvC sc cl C X.env) fp)
theorem leafF {Y : Cx} {pins : List (Addr × Obj)} {s : Shared} {σ : L2.St} {H : Hp} {D : Addr} {Nx : Hp → Prop} {G : Shared → Prop} {E : Value → Shared → Prop} (L : Leaf Y kx vx u) (I : L2.Inv Y pins σ H s) (q : u σ H D Nx) (fin : ∀ {s' : Shared} {H' : Hp}, L2.Inv Y pins σ H' s' → Nx H' → G s') :
    wpAny (model Y.prog Y.w) Y.A (eval kx Y.env) (fun kv s1 => wpAny (model Y.prog Y.w) Y.A (eval vx Y.env) (fun vv s2 => wpAny (model Y.prog Y.w) Y.A (dictSet D kv vv) (fun _ s3 => G s3) E s2) E s1) E s := by
  apply thnF (L pins s σ H D Nx I q)
  intro kv s1 q1
  apply thnF q1
  intro vv s2 q2
  apply thnF q2
  rintro _ s3 ⟨H', I', nx⟩
  exact fin I' nx
theorem pe_dc2 (ho : o = .dK [] ∨ o = .dT []) (calm : X.calm = true) (nd : X.N.Nodup) (hi : PI X t0 i0 w0) (ok : BlkOk X.N X.env.scope sc own) (sub : ∀ i ∈ vs1, i ∈ own.map (·.2))
    (hg : Blk X sc fun Y => PG Y t0 g0) (ht : Blk X sc fun Y => PTs Y f0 tt0) (hi1 : Blk X sc fun Y => PI Y t1 i1 w1) (hg1 : Blk X sc fun Y => PG Y t1 g1) (ht1 : Blk X sc fun Y => PTs Y f1 tt1) (hl : Blk X sc fun Y => Leaf Y kx vx u)
    (fold : ∀ x, foldedSetIterable i0 X.env x = pure x := by intro _; rfl) (fold1 : ∀ env x, foldedSetIterable i1 env x = pure x := by intro _ _; rfl) :
    PE X (dc2 kx vx t0 i0 t1 i1 f0 f1 sc pos) (Vm.tCmp w0 g0 tt0 (Vm.uIn w1 g1 tt1 u vs1) (own.map (·.2)) o) := by
  constructor
  intro pins s σ H Q I want
  rw [arm_eval_DictComp]
  have cells : ∀ y ∈ sc.names, y.2 = .free → ∃ c, X.env.cells.lookup y.1 = some c := by
    intro y hy e
    exact (ok.free y hy e).elim (fun k => I.ok.has _ (.inl k)) (fun k => I.ok.has _ (.inr k))
  apply wpAny_comprehension_free (use := none) rfl fold (closure_ok cells) ok.kind
  · intro y hy e
    rw [ok.uniq y hy, e]
  apply thn (hi.run pins s σ H _ I want)
  intro xv s1 hx
  apply thn hx
  rintro itv s2 ⟨it, fp, tn, J, H2, rfl, I2, T, st2, f2, q⟩
  refine wpAny_newObj_type (newEnv_comp ?_)
  obtain ⟨D, hD⟩ : ∃ D, D = s2.heap.objs.size := ⟨_, rfl⟩
  rw [← hD]
  have free : H2 D = none := I2.hok.fresh (Nat.le_of_eq hD.symm)
  obtain ⟨W, ⟨m0, wm0⟩, turn⟩ := q D free
  obtain ⟨s3, es3⟩ : ∃ s3 : Shared, s3 = { s2 with heap := s2.heap.push { cls := .type "dict", data := .dict #[] } } := ⟨_, rfl⟩
  have I3 : L2.Inv X pins σ (upd H2 D o) s3 := by
    rw [es3]
    apply I2.laid (t' := s2.toks) (fun b o e => Heap.get?_push_of_some _ e) (Nat.le_of_eq hD.symm)
    rw [hD]
    rcases ho with rfl | rfl
    · exact dk_empty s2.heap I2.big
    · exact dt_empty s2.heap I2.big
  have h3 : s3.heap = s2.heap.push { cls := .type "dict", data := .dict #[] } := by rw [es3]
  have f3 : ∀ b ∈ fp, FpOk X pins (upd H2 D o) b ∧ b < s3.heap.objs.size := by
    intro b hb
    obtain ⟨ob, e, _⟩ := T.obj _ _ st2 b hb
    have lt := Heap.lt_size e
    have ne : b ≠ D := by rw [hD]; exact Nat.ne_of_lt lt
    refine ⟨⟨(upd_ne ne).trans (f2 b hb).1, (f2 b hb).2⟩, ?_⟩
    rw [h3, Heap.size_push]
    exact Nat.lt_succ_of_lt lt
  have st3 : tn 0 s3.heap := by
    apply T.keep _ _ _ st2
    intro b _ ob e
    rw [h3]
    exact Heap.get?_push_of_some _ e
  have I4 := block_start I3 ok nd f3
  have nofp : ∀ b ∈ fp, upd H2 D o b = none := fun b hb => (f3 b hb).1.1
  obtain ⟨cl, hcl⟩ : ∃ cl, cl = cellsFrom (s3.heap.objs.size + 1) sc.names (cloFrom X.env.cells sc.names []) := ⟨_, rfl⟩
  have rg := hg s3 (upd H2 D o) s3.heap.objs.size cl fp
  have rt := ht s3 (upd H2 D o) s3.heap.objs.size cl fp
  have ri := hi1 s3 (upd H2 D o) s3.heap.objs.size cl fp
  have rg1 := hg1 s3 (upd H2 D o) s3.heap.objs.size cl fp
  have rt1 := ht1 s3 (upd H2 D o) s3.heap.objs.size cl fp
  have rl := hl s3 (upd H2 D o) s3.heap.objs.size cl fp
  rw [← es3]
  show codeAny _ _ (.compStart _ 0 (.ref it) (.ref D) (compEnvC sc (cellsFrom (s3.heap.objs.size + 1) sc.names (cloFrom X.env.cells sc.names [])) s3.heap.objs.size X.env))
    (compPost (model X.prog X.w) X.A X.xe none _ (.ref D) s3.heap.objs.size)
    { s3 with heap := pushCells (s3.heap.push { cls := .type "dict", data := .dict #[] }) sc.names }
  rw [← hcl] at I4 ⊢
  obtain ⟨ce, hce⟩ : ∃ ce, ce = compEnvC sc cl s3.heap.objs.size X.env := ⟨_, rfl⟩
  have own0 : ce.locals = s3.heap.objs.size := by rw [hce]; rfl
  rw [← hce] at I4 rg rt ri rg1 rt1 rl ⊢
  obtain ⟨H3, hH3⟩ : ∃ H3, H3 = upd H2 D o := ⟨_, rfl⟩
  rw [← hH3] at I3 I4 rg rt ri rg1 rt1 rl wm0 nofp f3
  obtain ⟨s4, hs4⟩ : ∃ s4 : Shared, s4 = { s3 with heap := pushCells (s3.heap.push { cls := .type "dict", data := .dict #[] }) sc.names } := ⟨_, rfl⟩
  rw [← hs4] at I4 ⊢
  have st4 : tn 0 s4.heap := by
    apply T.keep _ _ _ st3
    intro b _ ob e
    rw [hs4]
    exact pushCells_keeps _ _ _ _ (Heap.get?_push_of_some _ e)
  have foot : ∀ {σ' : L2.St} {H' : Hp} {s' : Shared}, L2.Inv (X.blk s3 H3 sc ce fp) [] σ' H' s' → (∀ b ∈ fp, H' b = none) → ∀ b ∈ fp, FpOk (X.blk s3 H3 sc ce fp) [] H' b := by
    intro σ' H' s' J' hn b hb
    refine ⟨hn b hb, (J'.ok.exf b hb).1, J'.ok.exfs b hb, .inl hb, fun x c e => (J'.ok.exf b hb).2 x c e, ?_⟩
    intro p hp
    exact absurd (show p ∈ ([] : List (Addr × Obj)) ++ [] from hp) (by simp)
  have loop : codeAny (model X.prog X.w) X.A (.compLoop (dc2 kx vx t0 i0 t1 i1 f0 f1 sc pos) 0 (.ref it) (.ref D) ce)
      (compPost (model X.prog X.w) X.A X.xe none (EP X pins σ Q) (.ref D) s3.heap.objs.size) s4 := by
    apply dc2_loop0 (fold1 ce) (fun n s' => ∃ i H', L2.Inv (X.blk s3 H3 sc ce fp) [] (wipe σ (own.map (·.2))) H' s' ∧ tn i s'.heap ∧ (∀ b ∈ fp, H' b = none) ∧ W i n H') _ m0 ⟨0, H3, I4, st4, nofp, wm0⟩
    rintro n s5 ⟨i, H5, I5, st5, n5, w5⟩
    rcases turn i n H5 w5 with ⟨stop, done⟩ | ⟨go, Nx, hNx, step⟩
    · apply thnF (T.done (X.blk s3 H3 sc ce fp) rfl rfl rfl calm i [] s5 _ H5 (fun _ _ => False) I5 (foot I5 n5) st5 stop)
      rintro r s6 ⟨rfl, I6⟩
      have back : L2.Inv X pins σ H5 s6 := by
        apply I3.call' (ch := fp) I6.os I6.base I6.hok I6.bare
        intro b hb
        have z := (f3 b hb).1.2
        exact ⟨z.2.2.1, z.1, z.2.2.2.1, z.2.2.2.2⟩
      have nC : H5 s3.heap.objs.size = none := own0 ▸ (show H5 ce.locals = none from I6.free)
      obtain ⟨m, hn, _⟩ := I6.loc
      have hn' : s6.heap.Ns s3.heap.objs.size m := own0 ▸ (show s6.heap.Ns ce.locals m from hn)
      obtain ⟨a0, a1, a2, a3, a4, a5⟩ := I3.fpOk (Nat.le_refl _) nC
      refine ⟨m, hn', fun h'' sb => ⟨.ref D, H5, ?_, rfl, done⟩⟩
      exact back.turned (t' := s6.toks) (fun b o hb e => (sb.2 b hb).trans e) a0 a1 a3 a4 a5
    · apply thnF (T.item (X.blk s3 H3 sc ce fp) rfl rfl rfl calm i [] s5 _ H5 (fun _ _ => False) I5 (foot I5 n5) st5 go)
      rintro r s6 ⟨v, rfl, h6⟩
      apply thnF h6
      rintro _ s7 ⟨x, H7, I7, r7, y7, st7, n7⟩
      have P7 := I7.pinned (foot I7 n7) (T.obj _ _ st7)
      apply thnF (rg.run _ s7 _ H7 x v _ P7 r7 (step x H7 y7))
      rintro _ s8 ⟨σ8, H8, I8, hw8, q8⟩
      apply thnF (rt.run _ s8 σ8 H8 _ I8 q8)
      rintro b s9 ⟨H9, I9, q9⟩
      have len8 : (wipe σ (own.map (·.2))).length = σ8.length := by rw [← hw8, wipe_length]
      have know8 : ∀ (j : Nat) v, (wipe σ (own.map (·.2)))[j]? = some (some v) → σ8[j]? = some (some v) ∧ j ∉ own.map (·.2) := by
        intro j v e
        rw [← hw8] at e
        exact wipe_some e
      have fin : ∀ {σ9 : L2.St} {s' : Shared} {H' : Hp}, L2.Inv (X.blk s3 H3 sc ce fp) ([] ++ pinsAt fp s7.heap) σ9 H' s' → σ9.length = σ8.length → (∀ (j : Nat) v, (wipe σ (own.map (·.2)))[j]? = some (some v) → σ9[j]? = some (some v)) → Nx H' →
          ∃ m, m < n ∧ ∃ i H', L2.Inv (X.blk s3 H3 sc ce fp) [] (wipe σ (own.map (·.2))) H' s' ∧ tn i s'.heap ∧ (∀ b ∈ fp, H' b = none) ∧ W i m H' := by
        intro σ9 s' H' J' len know nx
        obtain ⟨m', hm, w'⟩ := hNx H' nx
        have pin' : ∀ b ∈ fp, ∀ ob, s7.heap.get? b = some ob → s'.heap.get? b = some ob ∧ H' b = none := by
          intro b hb ob e
          have z := J'.pin (b, ob) (List.mem_append_right _ (List.mem_append_right _ (mem_pinsAt hb e)))
          exact ⟨z.1, z.2.1⟩
        refine ⟨m', hm, i + 1, H', (J'.unpinned (pins := [])).weak (len8.trans len.symm) know, T.keep _ _ _ st7 fun b hb ob e => (pin' b hb ob e).1, ?_, w'⟩
        intro b hb
        obtain ⟨ob, e, _⟩ := T.obj _ _ st7 b hb
        exact (pin' b hb ob e).2
      cases b with
      | false =>
        simp only [Bool.false_eq_true, if_false] at q9 ⊢
        exact fin I9 rfl (fun j v e => (know8 j v e).1) q9
      | true =>
        simp only [if_true] at q9 ⊢
        apply thnF (ri.run _ s9 σ8 H9 _ I9 q9)
        intro xv1 s10 hx1
        apply thnF hx1
        rintro itv1 s11 ⟨it1, fp1, tn1, J1, H11, rfl, I11, T1, st11, f11, W1, ⟨m1, wm1⟩, turn1⟩
        have foot1 : ∀ {H' : Hp}, (∀ b ∈ fp1, H' b = none) → ∀ b ∈ fp1, FpOk (X.blk s3 H3 sc ce fp) ([] ++ pinsAt fp s7.heap) H' b := fun hn b hb => ⟨hn b hb, (f11 b hb).2⟩
        have loop1 : codeAny (model X.prog X.w) X.A (.compLoop (dc2 kx vx t0 i0 t1 i1 f0 f1 sc pos) 1 (.ref it1) (.ref D) ce)
            (fun r s' => r.isOk = true ∧ ∃ m, m < n ∧ ∃ i H', L2.Inv (X.blk s3 H3 sc ce fp) [] (wipe σ (own.map (·.2))) H' s' ∧ tn i s'.heap ∧ (∀ b ∈ fp, H' b = none) ∧ W i m H') s11 := by
          apply dc2_loop1 (fun k s' => ∃ j H', L2.Inv (X.blk s3 H3 sc ce fp) ([] ++ pinsAt fp s7.heap) (wipe σ8 vs1) H' s' ∧ tn1 j s'.heap ∧ (∀ b ∈ fp1, H' b = none) ∧ W1 j k H') _ m1
            ⟨0, H11, I11.weak (wipe_length _ _) (fun j v e => (wipe_some e).1), st11, fun b hb => (f11 b hb).1, wm1⟩
          rintro k s12 ⟨j, H12, I12, st12, n12, w12⟩
          rcases turn1 j k H12 w12 with ⟨stop1, nx1⟩ | ⟨go1, Nx1, hNx1, step1⟩
          · apply thnF (T1.done (X.blk s3 H3 sc ce fp) rfl rfl rfl calm j _ s12 (wipe σ8 vs1) H12 (fun _ _ => False) I12 (foot1 n12) st12 stop1)
            rintro r s13 ⟨rfl, I13⟩
            refine ⟨rfl, fin I13 (wipe_length _ _) (fun j v e => ?_) nx1⟩
            obtain ⟨e1, e2⟩ := know8 j v e
            rw [wipe_out fun z => e2 (sub j z)]
            exact e1
          · apply thnF (T1.item (X.blk s3 H3 sc ce fp) rfl rfl rfl calm j _ s12 (wipe σ8 vs1) H12 (fun _ _ => False) I12 (foot1 n12) st12 go1)
            rintro r s13 ⟨v1, rfl, h13⟩
            apply thnF h13
            rintro _ s14 ⟨x1, H14, I14, r14, y14, st14, n14⟩
            have P14 := I14.pinned (foot1 n14) (T1.obj _ _ st14)
            apply thnF (rg1.run _ s14 (wipe σ8 vs1) H14 x1 v1 _ P14 r14 (step1 x1 H14 y14))
            rintro _ s15 ⟨σ15, H15, I15, hw15, q15⟩
            apply thnF (rt1.run _ s15 σ15 H15 _ I15 q15)
            rintro b1 s16 ⟨H16, I16, q16⟩
            have fin1 : ∀ {s' : Shared} {H' : Hp}, L2.Inv (X.blk s3 H3 sc ce fp) (([] ++ pinsAt fp s7.heap) ++ pinsAt fp1 s14.heap) σ15 H' s' → Nx1 H' →
                ∃ m, m < k ∧ ∃ j H', L2.Inv (X.blk s3 H3 sc ce fp) ([] ++ pinsAt fp s7.heap) (wipe σ8 vs1) H' s' ∧ tn1 j s'.heap ∧ (∀ b ∈ fp1, H' b = none) ∧ W1 j m H' := by
              intro s' H' J' nx
              obtain ⟨m', hm, w'⟩ := hNx1 H' nx
              have pin' : ∀ b ∈ fp1, ∀ ob, s14.heap.get? b = some ob → s'.heap.get? b = some ob ∧ H' b = none := by
                intro b hb ob e
                have z := J'.pin (b, ob) (List.mem_append_right _ (List.mem_append_right _ (mem_pinsAt hb e)))
                exact ⟨z.1, z.2.1⟩
              refine ⟨m', hm, j + 1, H', J'.unpinned.weak (by rw [← hw15, wipe_length]) (fun j v e => ?_), T1.keep _ _ _ st14 fun b hb ob e => (pin' b hb ob e).1, ?_, w'⟩
              · rw [← hw15] at e
                exact (wipe_some e).1
              · intro b hb
                obtain ⟨ob, e, _⟩ := T1.obj _ _ st14 b hb
                exact (pin' b hb ob e).2
            cases b1 with
            | false =>
              simp only [Bool.false_eq_true, if_false] at q16 ⊢
              exact fin1 I16 q16
            | true =>
              simp only [if_true] at q16 ⊢
              exact leafF rl I16 q16 fin1
        exact dc2_start1 loop1 (T1.self X.A 0 _ _ _ st11 loop1)
  exact codeAny_compStart_dict loop (T.self X.A 0 _ _ _ st4 loop)
theorem leafK {Y : Cx} {tk tv : TE} (xe : Y.xe = fun _ _ => False) (hk : PE Y kx tk) (hv : PE Y vx tv) : Leaf Y kx vx (Vm.uDc tk tv) := by
  intro pins s σ H D Nx I q
  have a := hk.run pins s σ H _ I q
  rw [xe] at a
  apply thn a
  rintro kv s1 ⟨y, H1, I1, r1, q1⟩
  have b := hv.run pins s1 σ H1 _ I1 q1
  rw [xe] at b
  apply thn b
  rintro vv s2 ⟨z, H2, I2, r2, kvs, k, rfl, hD, hz, nx⟩
  exact d_dictSet I2 hD hz r1 r2 fun s3 I3 => ⟨_, I3, nx⟩
theorem leafT {Y : Cx} {tk tv : TE} (xe : Y.xe = fun _ _ => False) (hu : Y.A.units + 1 < cLine) (hk : PE Y kx tk) (hv : PE Y vx tv) : Leaf Y kx vx (Vm.uDcT tk tv) := by
  intro pins s σ H D Nx I q
  have a := hk.run pins s σ H _ I q
  rw [xe] at a
  apply thn a
  rintro kv s1 ⟨y, H1, I1, r1, q1⟩
  have b := hv.run pins s1 σ H1 _ I1 q1
  rw [xe] at b
  apply thn b
  rintro vv s2 ⟨z, H2, I2, r2, kvs, k, c, rfl, hc, hD, hz, nx⟩
  cases (show kv = Value.ref c from r1)
  exact setT hu I2 hD hc hz r2 fun s3 I3 => ⟨_, I3, nx⟩
end
end Gk

namespace Vm
open PySem PySem.Spec PyProof.Rows L2 Gk
section
variable {P : Program} {w : World} {K : PySem.W.Frag} {mg : Str → Option Value} {base : Heap}
theorem okGN {x qual : Str} {params : Arguments} {body : List Stmt} {scope : Scope} {dvs : List V} {kws : List (Str × V)}
    {f : Addr} {fd : FuncData} {N ps : List Str} {k : Nat} {sp : Sp}
    (F : FunD K x qual params body scope dvs kws f fd) (S : FnScope N ps scope)
    (ar : ∀ vs H Q E, sp vs H Q E → vs.length = ps.length)
    (hb : ∀ (cdv : Value) (A : Around) (outer : List Env) (s : Shared) (H : Hp) (vs : List V) (Q : VK) (E : XK),
      A.guards = some [] → Room k (A.deeper (envOfC qual scope s.heap.objs.size f cdv)) → sp vs H Q E →
      ∃ t, PSs (cxOf CX0 P w K mg base N qual scope f cdv A outer s H E).nox body t ∧
        t { nx := fun _ H' => Q .non H', rt := Q } (start N vs) H) :
    FnG P w K mg base CX0 (k + 1) f fd ps sp :=
  okGD F S ar fun cdv A outer s H vs Q E hg hr h => let ⟨t, h1, h2⟩ := hb cdv A outer s H vs Q E hg hr h; ⟨t, h1.nox, h2⟩
end
theorem rep_zero (n : Nat) : repS "0" n = ⟨(List.replicate n 48).toArray⟩ := by
  unfold repS
  rw [show ("0" : Str).cps.toList = [48] from rfl]
  congr 2
  induction n with
  | zero => rfl
  | succ n ih => rw [List.replicate_succ, List.flatten_cons, ih]; rfl
theorem big_text1 : ("1" : Str) ++ repS "0" 900 = bigS := by
  rw [rep_zero, show ("1" : Str) = ⟨#[49]⟩ from rfl]
  show (⟨#[49] ++ (List.replicate 900 48).toArray⟩ : Str) = _
  unfold bigS bigC
  simp
theorem big_arg {σ : L2.St} {H : Hp} {Q : List V → Hp → Prop} (h : Q [V.str bigS] H) :
    tCons (tOp rAddS (tC (V.str "1")) (tOp (fun x y H Q => ∃ (z : Str) (k : Nat), x = .str z ∧ y = .int (k : Int) ∧ z.length * k ≤ 10000000 ∧ k ≤ 10000000 ∧ z.length ≤ 10000000 ∧ Q (.str (repS z k)) H) (tC (V.str "0")) (tC (V.int 900)))) tNil σ H Q :=
  ⟨"0", 900, rfl, rfl, by decide +kernel, by decide, by decide, "1", _, rfl, rfl, by rw [repS_length]; decide, by rw [big_text1]; exact h⟩
end Vm

namespace Vm
open PySem PySem.Spec PyProof.Rows L2 Gk
/-! ### calls by keywords, of defs that show things -/
def ClKG (P : Program) (w : World) (K : PySem.W.Frag) (mg : Str → Option Value) (base : Heap) (k : Nat) (x : Str) (ps : List Str) (sp : Sp)
    (n : Nat) (ks : List Str) (gV : List V → List V → List V) : Prop :=
  ∃ f fd g, FnG P w K mg base CX0 k f fd ps sp ∧ mg x = some (.ref f) ∧ PySem.W.keepIn K (.ref f) = true ∧ KBn K fd ps n ks g gV
def ClDG (P : Program) (w : World) (K : PySem.W.Frag) (mg : Str → Option Value) (base : Heap) (k : Nat) (x : Str) (ps : List Str) (sp : Sp) (dvs : List V) : Prop :=
  ∃ f fd ds, FnG P w K mg base CX0 k f fd ps sp ∧ mg x = some (.ref f) ∧ PySem.W.keepIn K (.ref f) = true ∧ Vals dvs ds ∧ Binds K fd ps ds
section
variable {X : Cx} {k j n : Nat} {x : Str} {ps ks : List Str} {sp : Sp} {p pos : Pos} {e : Expr} {es : List Expr} {t tk : TA} {kws : List Keyword} {gV : List V → List V → List V} {dvs : List V}
theorem goes_named {f : Addr} {fd : FuncData} {g : List Value → List Value → List Value} {pins : List (Addr × Obj)} {σ : L2.St} {H : Hp} {s : Shared} {Q : VK} {us ws : List Value} {vs zs : List V}
    (F : FnG X.prog X.w X.K X.mg X.base CX0 k f fd ps sp) (gd : X.A.guards = some []) (hr : Room k X.A) (hb : KBn X.K fd ps n ks g gV)
    (I : L2.Inv X pins σ H s) (r : Vals vs us) (rz : Vals zs ws) (l1 : vs.length = n) (l2 : zs.length = ks.length) (h : sp (gV vs zs) H Q E0) :
    wpAny (model X.prog X.w) X.A (call (.ref f) us (ks.zip ws)) (EP X pins σ Q) X.xe s := by
  have bt := hb.to s us ws I.kIn (by rw [← r.length]; exact l1) (by rw [← rz.length]; exact l2)
  apply wpAny_call
  apply codeAny_mono (F.go X.A X.stack s H ⟨us, ks.zip ws⟩ _ _ Q E0 gd hr I.env0 bt (hb.rel r rz) h)
  intro out s' q
  rcases out with e | fl
  · exact pass0 pins σ H s e s' I q
  · cases fl <;> first | exact I.after q | exact q.elim
theorem pe_clDG (c : ClDG X.prog X.w X.K X.mg X.base k x ps sp dvs) (gd : X.A.guards = some []) (hr : Room j X.A) (hk : k ≤ j) (hg : Gl X x) (ha : PA X (e :: es) t)
    (hdb : (x == ("__debug__" : Str)) = false := by decide)
    (he : starEach (e :: es) X.env = (false, eval e X.env) :: starEach es X.env := by rfl)
    (hpl : (backTo pos (starEach es X.env)).any (·.1) = false := by rfl) :
    PE X (.Call (.Name x p) (e :: es) [] pos) (tCall sp dvs E0 t) :=
  let ⟨_, _, _, F, hm, kp, r, b⟩ := c
  pe_callG F gd (hr.mono hk) hg hm kp b r pass0 ha hdb he hpl
theorem pe_clKNG (c : ClKG X.prog X.w X.K X.mg X.base k x ps sp n ks gV) (gd : X.A.guards = some []) (hr : Room j X.A) (hk : k ≤ j) (hg : Gl X x) (ha : PA X (e :: es) t) (hkw : PK X kws tk)
    (hall : (backToKw pos (keywordEach kws X.env)).all (·.1.isSome) = true := by rfl)
    (hks : (backToKw pos (keywordEach kws X.env)).filterMap (·.1) = ks := by rfl)
    (hdb : (x == ("__debug__" : Str)) = false := by decide)
    (he : starEach (e :: es) X.env = (false, eval e X.env) :: starEach es X.env := by rfl)
    (hpl : ((backTo pos (starEach (e :: es) X.env)).any (·.1) || (backToKw pos (keywordEach kws X.env)).any (·.1.isNone)) = false := by rfl) :
    PE X (.Call (.Name x p) (e :: es) kws pos) (tCallN n ks.length sp gV E0 t tk) := by
  obtain ⟨f, fd, g, F, hm, kp, b⟩ := c
  constructor
  intro pins s σ H Q I h
  apply wpAny_Call_Name_kw
  apply ld_glob I hg hm _ hdb
  refine PySem.W.callWith_KW (h₀ := X.base) I.ok.mod.kin kp hall ?_ hpl he
  apply thn (ha.run pos pins s σ H _ I h)
  rintro us s1 ⟨vs, H1, I1, r, q⟩
  apply thn (hkw.run pos pins s1 σ H1 _ I1 q)
  rintro ws s2 ⟨zs, H2, I2, rz, l1, l2, q2⟩
  refine ⟨I2.kIn, ?_⟩
  rw [hks]
  exact goes_named F gd (hr.mono hk) b I2 r rz l1 l2 q2
theorem pe_clK0G (c : ClKG X.prog X.w X.K X.mg X.base k x ps sp 0 ks gV) (gd : X.A.guards = some []) (hr : Room j X.A) (hk : k ≤ j) (hg : Gl X x) (ha : PK X kws tk)
    (hall : (backToKw pos (keywordEach kws X.env)).all (·.1.isSome) = true := by rfl)
    (hks : (backToKw pos (keywordEach kws X.env)).filterMap (·.1) = ks := by rfl)
    (hdb : (x == ("__debug__" : Str)) = false := by decide)
    (hpl : (backToKw pos (keywordEach kws X.env)).any (·.1.isNone) = false := by rfl) :
    PE X (.Call (.Name x p) [] kws pos) (tCallN 0 ks.length sp gV E0 tNil tk) := by
  obtain ⟨f, fd, g, F, hm, kp, b⟩ := c
  constructor
  intro pins s σ H Q I h
  apply wpAny_Call_Name_kw
  apply ld_glob I hg hm _ hdb
  apply PySem.W.callWith_KW0 (h₀ := X.base) I.ok.mod.kin kp hall _ hpl
  apply thn (ha.run pos pins s σ H _ I h)
  rintro ws s2 ⟨zs, H2, I2, rz, l1, l2, q2⟩
  refine ⟨I2.kIn, ?_⟩
  rw [hks]
  exact goes_named (us := []) F gd (hr.mono hk) b I2 .nil rz l1 l2 q2
end
section
variable {K : PySem.W.Frag} {p p' p2 : List Addr} {H H' H2 : Hp} {σ σ' σ2 : L2.St} {α α' α2 α0 : AS} {A A' A2 : FT}
/-! ### zip of two tuples -/
def iZp (ma : MA) : MI := fun α => (ma α).bind fun l => (ownA l.2 l.1).bind fun x => match x with
  | [.tuple xs, .tuple ys] => some (((xs.zip ys).map fun t => .tuple [t.1, t.2], []), l.2)
  | _ => none
theorem zt_ok {a b : Addr} {us vs : List V} {xs ys : List Da} (ha : H a = some (.tup us)) (hb : H b = some (.tup vs)) (dx : DzA K p H us xs) (dy : DzA K p H vs ys) :
    ItR K p H σ α (RZ.ItzT K a b) ((xs.zip ys).map fun t => .tuple [t.1, t.2]) [] := ⟨fun p1 H1 σ1 α1 A1 R1 t _ => by
  have ha1 := SqT.of (K := K) (t.tp _ _ ha)
  have hb1 := SqT.of (K := K) (t.tp _ _ hb)
  have dx1 := dx.tr t
  have dy1 := dy.tr t
  refine ⟨fun n x hx => ?_, us, vs, ha1, hb1, ?_⟩
  · rw [List.getElem?_map] at hx
    obtain ⟨⟨y, z⟩, hyz, rfl⟩ := Option.map_eq_some_iff.mp hx
    obtain ⟨hy, hz⟩ := List.getElem?_zip_eq_some.mp hyz
    obtain ⟨u, eu, du⟩ := dx1.get hy
    obtain ⟨v, ev, dv⟩ := dy1.get hz
    refine ⟨⟨us, vs, u, v, ha1, hb1, eu, ev⟩, fun r H3 q => ?_⟩
    obtain ⟨T, u', v', rfl, hT, rfl, q1, q2⟩ := q
    have e1 := q1 _ ha1
    rw [eu] at e1
    cases e1
    have e2 := q2 _ hb1
    rw [ev] at e2
    cases e2
    have s := same_new (o := .tup [u, v]) hT
    exact ⟨s, .tup upd_same (show 2 ≤ LIM by decide) ((DzA.cons du (.cons dv .nil)).tr (tr_same s))⟩
  · rw [List.length_map, List.length_zip, dx.length, dy.length]
    omega⟩
theorem ref_iZip {ta : TA} {ma : MA} (ha : RefA K ta ma) : RefI K (RZ.iZipA K ta) (iZp ma) := ⟨fun p H σ α A x α' Rr R e h => by
  simp only [iZp, Option.bind_eq_some_iff] at e
  obtain ⟨⟨ls, α1⟩, e1, y, e2, e3⟩ := e
  split at e3
  · rename_i xs ys
    cases e3
    refine ha.go p H σ α A ls _ _ R e1 fun p1 H1 A1 vs R1 S1 q1 => ?_
    cases ownA_dz R1 q1 e2 with
    | cons d1 r =>
      cases r with
      | cons d2 r =>
        cases r
        cases d1 with
        | tup h1 l1 z1 =>
          cases d2 with
          | tup h2 l2 z2 =>
            exact ⟨_, _, _, _, rfl, .inr ⟨.of h1, .of h2, h p1 H1 A1 _ R1 S1 (zt_ok h1 h2 z1 z2) lockable_nil⟩⟩
  · cases e3⟩
/-! ### is True, is False -/
def tIsB (neg b : Bool) (ta : TE) : TE := fun σ H Q => ta σ H fun x H1 => ∃ c, x = .bl c ∧ Q (.bl (if neg = true then c != b else c == b)) H1
theorem pc_isB {X : Cx} {a : Expr} {ta : TE} {b : Bool} {j pos'} (ha : PE X a ta) : PC X .Is a (.Constant (.bool b) j pos') (tIsB false b ta) := by
  constructor
  intro pins s σ H Q I h
  apply thn (ha.run pins s σ H _ I h)
  rintro v s1 ⟨x, H1, I1, r1, c, rfl, q1⟩
  cases r1
  exact Constant_bool (is_bool ⟨.bl _, H1, I1, rfl, q1⟩)
theorem pc_isBn {X : Cx} {a : Expr} {ta : TE} {b : Bool} {j pos'} (ha : PE X a ta) : PC X .IsNot a (.Constant (.bool b) j pos') (tIsB true b ta) := by
  constructor
  intro pins s σ H Q I h
  apply thn (ha.run pins s σ H _ I h)
  rintro v s1 ⟨x, H1, I1, r1, c, rfl, q1⟩
  cases r1
  exact Constant_bool (isnot_bool ⟨.bl _, H1, I1, rfl, q1⟩)
def eIsB (neg b : Bool) (ma : ME) : ME := fun α => (ma α).bind fun x => (res x.2 x.1).bind fun a => match a with
  | .bool c => some (.d (.bool (if neg = true then c != b else c == b)), x.2)
  | _ => none
theorem ref_isB {ta : TE} {ma : ME} {neg b : Bool} (ha : RefE K ta ma) : RefE K (tIsB neg b ta) (eIsB neg b ma) := ⟨fun p H σ α A l α' Q R e h => by
  simp only [eIsB, Option.bind_eq_some_iff] at e
  obtain ⟨⟨l1, α1⟩, e1, a, e2, e3⟩ := e
  split at e3
  · rename_i c
    cases e3
    refine ha.go p H σ α A l1 _ _ R e1 fun p1 H1 A1 v R1 S1 q => ?_
    cases res_vz R1 q e2 with
    | of d =>
      cases d
      exact ⟨c, rfl, h p1 H1 A1 _ R1 S1 (.bl _)⟩
    | top t => exact t.elim
  · cases e3⟩
/-! ### sorted(d), few ints -/
def intsK : List (Key × Da) → Option (List Int)
  | [] => some []
  | (.inl i, _) :: r => (intsK r).bind fun js => some (i :: js)
  | _ => none
theorem intsK_keys : ∀ {ds : List (Key × Da)} {js : List Int}, intsK ds = some js → ds.map (·.1) = js.map Sum.inl
  | [], _, e => by cases e; rfl
  | (.inl i, _) :: r, _, e => by
    simp only [intsK, Option.bind_eq_some_iff] at e
    obtain ⟨js, e1, e2⟩ := e
    cases e2
    rw [List.map_cons, intsK_keys e1]
    rfl
  | (.inr _, _) :: r, _, e => by cases e
theorem DzK.keys : ∀ {xs : List (Key × V)} {ds : List (Key × Da)}, DzK K p H xs ds → xs.map (·.1) = ds.map (·.1)
  | _, _, .nil => rfl
  | _, _, .cons _ _ t => by rw [List.map_cons, List.map_cons, DzK.keys t]
abbrev leI : Int → Int → Bool := fun i j => decide (i ≤ j)
def rSortDI : List V → Hp → VK → Prop := fun xs H Q => ∃ (a : Addr) (kvs : List (Key × V)) (ks : List Int), xs = [.ref a] ∧ Rd H a (.dK kvs) ∧ kvs.map (·.1) = ks.map Sum.inl ∧ ks.length < 64 ∧
    ∀ (ys : List Int) (p : Addr), ys.Perm ks → ys.Pairwise (· ≤ ·) → H p = none → Q (.ref p) (upd H p (.lst (ys.map V.int)))
theorem cr_sortDI {X : Cx} (calm : X.calm = true) : CallR X (.builtin "sorted") rSortDI := call_sortedDI calm
theorem sorted_one {ys zs : List Int} (h : ys.Perm zs) (a : ys.Pairwise (· ≤ ·)) (b : zs.Pairwise (· ≤ ·)) : ys = zs :=
  h.eq_of_pairwise (fun _ _ _ _ h1 h2 => Int.le_antisymm h1 h2) a b
theorem sort_pw (js : List Int) : (js.mergeSort leI).Pairwise (· ≤ ·) :=
  (List.pairwise_mergeSort (le := leI) (fun a b c h1 h2 => by simp only [leI, decide_eq_true_eq] at *; omega) (fun a b => by simp only [leI, Bool.or_eq_true, decide_eq_true_eq]; omega) js).imp fun h => of_decide_eq_true h
theorem ints_dz (js : List Int) : DzA K p H (js.map V.int) (js.map Da.int) := by
  induction js with
  | nil => exact .nil
  | cons j js ih => exact .cons (.int j) ih
def fSortDI (ma : MA) : MF := fun α => (ma α).bind fun x => (resA x.2 x.1).bind fun a => match a with
  | [.dk kvs] => (intsK kvs).bind fun js => if js.length < 64 then some (.r (.list ((js.mergeSort leI).map Da.int)), x.2) else none
  | _ => none
theorem ref_fSortDI {ta : TA} {ma : MA} (ha : RefA K ta ma) : RefF K (tCB rSortDI ta) (fSortDI ma) := ⟨fun p H σ α A r α' Q R e h => by
  simp only [fSortDI, Option.bind_eq_some_iff] at e
  obtain ⟨⟨ls, α1⟩, e1, a, e2, e3⟩ := e
  split at e3
  · rename_i kvs
    simp only [Option.bind_eq_some_iff] at e3
    obtain ⟨js, e4, e5⟩ := e3
    split at e5
    · rename_i h64
      cases e5
      refine ha.go p H σ α A ls _ _ R e1 fun p1 H1 A1 vs R1 S1 q1 => ?_
      obtain ⟨v, rfl, hv⟩ := vz1 (resA_vz R1 q1 e2)
      obtain ⟨ad, xs, rfl, h1, h2, h3⟩ := vz_dk hv
      refine ⟨ad, xs, js, rfl, h1, h3.keys.trans (intsK_keys e4), h64, fun ys q pm pw hq => ?_⟩
      have ey := sorted_one (pm.trans (List.mergeSort_perm js leI).symm) pw (sort_pw js)
      subst ey
      obtain ⟨R2, S2, nr⟩ := rel_new (o := .lst ((js.mergeSort leI).map V.int)) R1 hq
      refine h _ _ A1 q [] R2 (S1.trans R S2) (fresh_one (List.mem_cons_self ..) (S1.dom q hq) nr) ⟨rfl, _, upd_same, ?_, ints_dz _⟩
      rw [List.length_map, List.length_mergeSort]
      show js.length ≤ LIM
      have : (64 : Nat) ≤ LIM := by decide
      omega
    · cases e5
  · cases e3⟩
end
end Vm

namespace Vm
open PySem PySem.Spec PyProof.Rows L2 Gk
/-! ### dict(a list of pairs), keys ints and texts -/
def PairK (H : Hp) (p : Addr) (e : Key × V) : Prop := H p = some (.tup [kV e.1, e.2])
def rDictK : List V → Hp → VK → Prop := fun xs H Q => ∃ (a : Addr) (ps : List Addr) (es : List (Key × V)),
  xs = [.ref a] ∧ H a = some (.lst (ps.map V.ref)) ∧ Paired (PairK H) ps es ∧ ∀ q, H q = none → Q (.ref q) (upd H q (.dK (mergeK [] es)))
section
variable {X : Cx} {pins : List (Addr × Obj)} {σ : L2.St} {H : Hp} {s : Shared}
theorem entsK (I : L2.Inv X pins σ H s) : ∀ {ps : List Addr} {es : List (Key × V)}, Paired (PairK H) ps es →
    ∃ fs : List (Value × Value × Key), fs.length = ps.length ∧ KV es (fs.map fun q => (q.2.2, q.2.1)) ∧ (∀ q ∈ fs, (mixKind X.prog X.w).is q.2.2 q.1 = true) ∧
      ∀ (j : Nat) (q : Value × Value × Key), fs[j]? = some q → ∃ b, ps[j]? = some b ∧ s.heap.IsTuple b #[q.1, q.2.1]
  | _, _, .nil => ⟨[], rfl, .nil, fun q m => (List.not_mem_nil m).elim, fun j q e => by simp at e⟩
  | p :: ps, e :: es, .cons h t => by
    obtain ⟨fs, hl, r, hk, hp⟩ := entsK I t
    obtain ⟨_, its, rv, ht⟩ := I.hok _ _ (show H p = some (.tup [kV e.1, e.2]) from h)
    obtain ⟨u, y, rfl, ru, ry⟩ := vals2 rv
    refine ⟨(u, y, e.1) :: fs, by rw [List.length_cons, List.length_cons, hl], .cons ⟨rfl, ry⟩ r, fun q m => ?_, fun j q eq => ?_⟩
    · rcases List.mem_cons.mp m with rfl | m
      · exact kV_is ru
      · exact hk q m
    · cases j with
      | zero =>
        cases (Option.some.inj eq)
        obtain ⟨o, h1, h2, n, h3⟩ := ht
        exact ⟨p, rfl, ⟨o, h1, h2, n, h3⟩⟩
      | succ j =>
        obtain ⟨b, e1, e2⟩ := hp j q (by simpa using eq)
        exact ⟨b, by simpa using e1, e2⟩
end
theorem call_dictK {X : Cx} (calm : X.calm = true) : CallR X (.type "dict") rDictK := by
  intro pins s σ H xs us Q I r q
  obtain ⟨a, ps, es, rfl, ha, hp, q⟩ := q
  obtain ⟨u, rfl, rx⟩ := vals1 r
  cases (show u = Value.ref a from rx)
  obtain ⟨hz, its, n, rv, ho⟩ := I.hok _ _ ha
  have ei := refs_at rv
  subst ei
  obtain ⟨fs, hl, rel, hks, hpr⟩ := entsK I hp
  rw [List.length_map] at hz
  have big := sizeLine_eq
  apply call_dict_pairs (knd := mixKind X.prog X.w) (kvs := fs.map fun q => (q.2.2, q.2.1))
    (PairArg.list a (ps.map Value.ref).toArray (fun j => ps.getD j 0) (fs.map fun q => (q.1, q.2.1))) (I.ok.hd calm)
  · refine ⟨⟨_, n, ho, rfl, rfl, rfl⟩, by simp [hl], ?_⟩
    intro j k v e
    rw [List.getElem?_map] at e
    cases ej : fs[j]? with
    | none => rw [ej] at e; cases e
    | some q =>
      rw [ej] at e
      cases e
      obtain ⟨b, e1, e2⟩ := hpr j q ej
      have eb : ps.getD j 0 = b := by rw [List.getD_eq_getElem?_getD, e1]; rfl
      refine ⟨?_, .inl ?_⟩
      · show (ps.map Value.ref).toArray[j]? = some (Value.ref (ps.getD j 0))
        rw [List.getElem?_toArray, List.getElem?_map, e1, eb]
        rfl
      · show s.heap.IsTuple (ps.getD j 0) _
        rw [eb]
        exact e2
  · refine ⟨by rw [List.length_map, List.length_map], ?_⟩
    intro i key v e
    have e' : (fs.map fun q => (q.1, q.2.1))[i]? = some (key, v) := e
    rw [List.getElem?_map] at e'
    cases ej : fs[i]? with
    | none => rw [ej] at e'; cases e'
    | some q =>
      rw [ej] at e'
      cases e'
      exact ⟨q.2.2, by rw [List.getElem?_map, ej]; rfl, hks q (List.mem_of_getElem? ej)⟩
  · rw [List.length_map, hl]
    exact hz
  · intro h' tk hd' kept
    have hle := rel.length
    rw [List.length_map] at hle
    have hz2 : (mergeK [] es).length ≤ sizeLine := by
      have h1 := length_mergeK es []
      rw [List.length_nil] at h1
      omega
    have hn := I.hok.fresh (Nat.le_refl s.heap.objs.size)
    exact ⟨.ref s.heap.objs.size, _, I.laid (t' := tk) (fun b u e => kept b u List.not_mem_nil e) (Nat.le_refl _)
      (dk_new hz2 (beq_eq_false_iff_ne.mpr (Nat.ne_of_gt I.big)) (rel.merge .nil) hd'), rfl, q _ hn⟩
section
variable {K : PySem.W.Frag} {p p' p2 : List Addr} {H H' H2 : Hp} {σ σ' σ2 : L2.St} {α α' α2 α0 : AS} {A A' A2 : FT}
theorem pairs_k : ∀ {vs : List V} {xs : List Da} {es : List (Key × Da)}, DzA K p H vs xs → pairsD keyD xs = some es →
    ∃ (ps : List Addr) (fs : List (Key × V)), vs = ps.map V.ref ∧ Paired (PairK H) ps fs ∧ DzK K p H fs es
  | _, _, _, .nil, e => by cases e; exact ⟨[], [], rfl, .nil, .nil⟩
  | _, _, _, .cons (d := d) h t, e => by
    unfold pairsD at e
    split at e
    · rename_i z; cases z
    · rename_i k v r z
      cases z
      simp only [Option.bind_eq_some_iff] at e
      obtain ⟨j, e1, es, e2, e3⟩ := e
      cases e3
      obtain ⟨ps, fs, rfl, q1, q2⟩ := pairs_k t e2
      cases h with
      | tup hr hl hd =>
        cases hd with
        | cons d1 d2 =>
          cases d2 with
          | cons d2 d3 =>
            cases d3
            obtain ⟨rfl, ok⟩ := vz_key (.of d1) e1
            exact ⟨_ :: ps, (j, _) :: fs, rfl, .cons hr q1, .cons ok d2 q2⟩
    · cases e
theorem merge_k : ∀ {fs : List (Key × V)} {es : List (Key × Da)} {acc : List (Key × V)} {dcc : List (Key × Da)}, DzK K p H fs es → DzK K p H acc dcc →
    DzK K p H (mergeK acc fs) (es.foldl (fun acc kv => putD acc kv.1 kv.2) dcc)
  | _, _, acc, _, .nil, h => h
  | (k, v) :: fs, (_, d) :: es, acc, dcc, .cons hk hd t, h => merge_k (fs := fs) (es := es) (acc := putK acc k v) (dcc := putD dcc k d) t (h.put hk hd)
def fDictK (ma : MA) : MF := fun α => (ma α).bind fun x => (resA x.2 x.1).bind fun a => match a with
  | [.list xs] => (pairsD keyD xs).bind fun es => some (.r (.dk (mkD es)), x.2)
  | _ => none
theorem ref_fDictK {ta : TA} {ma : MA} (ha : RefA K ta ma) : RefF K (tCB rDictK ta) (fDictK ma) := ⟨fun p H σ α A r α' Q R e h => by
  simp only [fDictK, Option.bind_eq_some_iff] at e
  obtain ⟨⟨ls, α1⟩, e1, a, e2, e3⟩ := e
  split at e3
  · rename_i xs
    simp only [Option.bind_eq_some_iff] at e3
    obtain ⟨es, e4, e5⟩ := e3
    cases e5
    refine ha.go p H σ α A ls _ _ R e1 fun p1 H1 A1 vs R1 S1 q1 => ?_
    obtain ⟨v, rfl, hv⟩ := vz1 (resA_vz R1 q1 e2)
    obtain ⟨ad, us, rfl, h1, h2, h3⟩ := vz_lst hv
    obtain ⟨ps, fs, rfl, g1, g2⟩ := pairs_k h3 e4
    refine ⟨ad, ps, fs, rfl, h1, g1, fun q hq => ?_⟩
    have m1 := merge_k g2 (acc := []) (dcc := []) .nil
    obtain ⟨R2, S2, nr⟩ := rel_new (o := .dK (mergeK [] fs)) R1 hq
    refine h _ _ A1 q [] R2 (S1.trans R S2) (fresh_one (List.mem_cons_self ..) (S1.dom q hq) nr) ⟨rfl, _, .of upd_same, ?_, m1.tr (tr_new hq (same_new hq))⟩
    have l1 := paired_len g1
    rw [List.length_map] at h2
    have := length_mergeK fs []
    rw [List.length_nil] at this
    omega
  · cases e3⟩
/-! ### {k: v, ..} -/
abbrev MD := AS → Option (List (Key × Da) × AS)
structure RefD (K : PySem.W.Frag) (ts : List (TE × TE)) (m : MD) : Prop where
  go : ∀ p H σ α A es α' Q, Rel K p H σ α A → m α = some (es, α') →
    (∀ p' H' A' kvs, Rel K p' H' σ α' A' → Step p H σ α A p' H' σ α' A' → DzK K p' H' kvs es → Q (kvs.map fun kv => (kV kv.1, kv.2)) H') → tPairs ts σ H Q
def dpNil : MD := fun α => some ([], α)
def dpCons (mk mv : ME) (m : MD) : MD := fun α => (mk α).bind fun x => (own x.2 x.1).bind fun a => (keyD a).bind fun k => (mv x.2).bind fun y => (own y.2 y.1).bind fun b => (m y.2).bind fun r => some ((k, b) :: r.1, r.2)
theorem ref_dpNil : RefD K [] dpNil := ⟨fun p H σ α A es α' Q R e h => by cases e; exact h p H A [] R .refl .nil⟩
theorem ref_dpCons {tk tv : TE} {ts : List (TE × TE)} {mk mv : ME} {m : MD} (hk : RefE K tk mk) (hv : RefE K tv mv) (hm : RefD K ts m) : RefD K ((tk, tv) :: ts) (dpCons mk mv m) :=
  ⟨fun p H σ α A es α' Q R e h => by
    simp only [dpCons, Option.bind_eq_some_iff] at e
    obtain ⟨⟨l, α1⟩, e1, a, e2, k, e3, ⟨l2, α2⟩, e4, b, e5, ⟨r, α3⟩, e6, e7⟩ := e
    cases e7
    refine hk.go p H σ α A l α1 _ R e1 fun p1 H1 A1 v R1 S1 q1 => ?_
    obtain ⟨rfl, ok⟩ := vz_key (.of (own_dz R1 q1 e2)) e3
    refine hv.go p1 H1 σ α1 A1 l2 α2 _ R1 e4 fun p2 H2 A2 w R2 S2 q2 => ?_
    have dw := own_dz R2 q2 e5
    refine hm.go p2 H2 σ α2 A2 r _ _ R2 e6 fun p3 H3 A3 kvs R3 S3 dz => ?_
    exact h p3 H3 A3 ((k, w) :: kvs) R3 ((S1.trans R S2).trans R S3) (.cons ok (dw.tr (S3.tr R2)) dz)⟩
def fDisp (m : MD) : MF := fun α => (m α).bind fun r => if r.1.length ≤ 15 then some (.r (.dk (mkD r.1)), r.2) else none
theorem ref_fDisp {ts : List (TE × TE)} {m : MD} (hm : RefD K ts m) : RefF K (tDisp ts) (fDisp m) := ⟨fun p H σ α A r α' Q R e h => by
  simp only [fDisp, Option.bind_eq_some_iff] at e
  obtain ⟨⟨es, α1⟩, e1, e2⟩ := e
  split at e2
  · rename_i hl
    cases e2
    intro D hD
    obtain ⟨R0, S0, nr⟩ := rel_new (o := .dK []) R hD
    refine hm.go _ _ σ α A es _ _ R0 e1 fun p1 H1 A1 kvs R1 S1 dz => ?_
    obtain ⟨hD1, hDp1, nD1⟩ := acc_stay R0 S1 (List.mem_cons_self ..) nr upd_same
    have lk := dz.length
    have lk' : kvs.length ≤ 15 := by rw [lk]; exact hl
    refine ⟨hD1, kvs, rfl, lk', ?_⟩
    have m1 := merge_k dz (acc := []) (dcc := []) .nil
    refine h p1 _ A1 D [] (rel_upd R1 hDp1 hD1 trivial nD1) ((S0.trans R S1).upd hD) (fresh_one hDp1 hD nD1) ⟨rfl, _, .of upd_same, ?_, m1.tr (tr_upd hDp1 hD1 trivial)⟩
    have := length_mergeK kvs []
    rw [List.length_nil] at this
    show (mergeK [] kvs).length ≤ LIM
    have : (15 : Nat) ≤ LIM := by decide
    omega
  · cases e2⟩
/-! ### a dict of the module's own top, its values texts -/
structure KdOk (K : PySem.W.Frag) (w : World) (mg : Str → Option Value) (x : Str) (kvs : List (Str × Str)) : Prop where
  go : ∃ d es n, KDict K w d es n ∧ mg x = some (.ref d) ∧ ∀ q ∈ kvs, ∃ t, PySem.W.nsIn K d q.1 = some (some (.str q.2 t))
def tKd (kvs : List (Str × Str)) (tk : TE) : TE := fun σ H Q => tk σ H fun y H1 => ∃ q ∈ kvs, y = .str q.1 ∧ Q (.str q.2) H1
def eKd (kvs : List (Str × Str)) (mk : ME) : ME := fun α => (mk α).bind fun x => (res x.2 x.1).bind fun a => match a with
  | .str z => (kvs.find? fun q => decide (q.1 = z)).bind fun q => if q.2.length ≤ SLIM then some (.d (.str q.2), x.2) else none
  | _ => none
theorem ref_kd {kvs : List (Str × Str)} {tk : TE} {mk : ME} (hk : RefE K tk mk) : RefE K (tKd kvs tk) (eKd kvs mk) := ⟨fun p H σ α A l α' Q R e h => by
  simp only [eKd, Option.bind_eq_some_iff] at e
  obtain ⟨⟨l1, α1⟩, e1, a, e2, e3⟩ := e
  split at e3
  · rename_i z
    simp only [Option.bind_eq_some_iff] at e3
    obtain ⟨q, e4, e5⟩ := e3
    split at e5
    · rename_i hq
      cases e5
      refine hk.go p H σ α A l1 _ _ R e1 fun p1 H1 A1 v R1 S1 q1 => ?_
      have hz : q.1 = z := of_decide_eq_true (p := q.1 = z) (List.find?_some (p := fun q : Str × Str => decide (q.1 = z)) e4)
      cases res_vz R1 q1 e2 with
      | of d =>
        cases d
        exact ⟨q, List.mem_of_find?_eq_some e4, by rw [hz], h p1 H1 A1 _ R1 S1 (.str _ hq)⟩
      | top t => exact t.elim
    · cases e5
  · cases e3⟩
theorem pe_kd {X : Cx} {x : Str} {p pos : Pos} {e : Expr} {tk : TE} {kvs : List (Str × Str)} (D : KdOk X.K X.w X.mg x kvs) (hg : Gl X x) (he : PE X e tk)
    (hs : ∀ v u, subscripted e false v u = operate [v, u] (getItem v u)) (hdb : (x == ("__debug__" : Str)) = false := by decide) : PE X (.Subscript (.Name x p) e pos) (tKd kvs tk) := by
  obtain ⟨d, es, n, kd, hm, hv⟩ := D.go
  have ix : IxR X (fun x y H Q => x = .ref d ∧ ∃ q ∈ kvs, y = .str q.1 ∧ Q (.str q.2) H) := by
    intro value slice pins s σ H x y v u Q I rx ry h hs
    obtain ⟨rfl, q, mq, rfl, hq⟩ := h
    cases rx
    obtain ⟨t, rfl⟩ := ry
    obtain ⟨t2, e⟩ := hv q mq
    refine tail_any (kd_type kd I) PySem.F.slot_dict_getitem.lookup ?_ hs
    exact op_item_kd kd pins s σ H (.ref d) (.str q.1) (.ref d) (.str q.1 t) Q I rfl ⟨t, rfl⟩ ⟨q.1, _, .str q.2, rfl, rfl, e, ⟨t2, rfl⟩, hq⟩
  have nm : PE X (.Name x p) (tC (.ref d)) := pe_k hg ⟨_, hm, rfl⟩ hdb
  exact ⟨fun pins s σ H Q I h => (pe_ix ix nm he hs).run pins s σ H Q I (by
    have e : (fun y H1 => V.ref d = V.ref d ∧ ∃ q ∈ kvs, y = V.str q.1 ∧ Q (.str q.2) H1) = fun y H1 => ∃ q ∈ kvs, y = V.str q.1 ∧ Q (.str q.2) H1 := by
      funext y H1
      simp
    show tk σ H (fun y H1 => V.ref d = V.ref d ∧ ∃ q ∈ kvs, y = V.str q.1 ∧ Q (.str q.2) H1)
    rw [e]
    exact h)⟩
end
end Vm

/-! what a function of data answers -/
namespace Vm
open PySem PySem.Spec PyProof.Rows L2 Gk
def Wp {τ : Type} (o : Option τ) (Q : τ → Prop) : Prop := ∃ r, o = some r ∧ Q r
theorem Wp.mono {τ : Type} {o : Option τ} {Q R : τ → Prop} (h : Wp o Q) (i : ∀ r, Q r → R r) : Wp o R := let ⟨r, e, q⟩ := h; ⟨r, e, i r q⟩
theorem wp_some {τ : Type} {a : τ} {Q : τ → Prop} : Wp (some a) Q = Q a := propext ⟨fun ⟨_, e, q⟩ => by cases e; exact q, fun q => ⟨a, rfl, q⟩⟩
theorem wp_none {τ : Type} {Q : τ → Prop} : Wp none Q = False := propext ⟨fun ⟨_, e, _⟩ => (nomatch e), False.elim⟩
theorem wp_bind {τ υ : Type} {o : Option τ} {f : τ → Option υ} {Q : υ → Prop} : Wp (o.bind f) Q = Wp o fun a => Wp (f a) Q := propext ⟨fun ⟨r, e, q⟩ => by
  obtain ⟨a, e1, e2⟩ := Option.bind_eq_some_iff.mp e
  exact ⟨a, e1, r, e2, q⟩, fun ⟨a, e1, r, e2, q⟩ => ⟨r, Option.bind_eq_some_iff.mpr ⟨a, e1, e2⟩, q⟩⟩
theorem wp_first {τ : Type} {o p : Option τ} {Q : τ → Prop} (h : o = p) : Wp o Q = Wp p Q := by rw [h]
theorem bind_first {τ υ : Type} {a b : Option τ} {f : τ → Option υ} (h : a = b) : a.bind f = b.bind f := by rw [h]
theorem wp_if {τ : Type} {c : Prop} [Decidable c] {a b : Option τ} {Q : τ → Prop} : Wp (if c then a else b) Q = ((c → Wp a Q) ∧ (¬c → Wp b Q)) := by
  by_cases h : c <;> simp [h]
theorem wp_iff {τ : Type} {o : Option τ} {Q : τ → Prop} : Wp o Q ↔ ∃ r, o = some r ∧ Q r := .rfl
/-- a loop, by an invariant of the items that are behind and ahead -/
theorem for_wp {g : MG} {b : MS} {Q : Out → Prop} (I : List Da → List Da → AS → Prop)
    (step : ∀ done x rest α, I done (x :: rest) α → Wp (g x α) fun α1 => Wp (b α1) fun o => match o with
      | .nx α2 => I (done ++ [x]) rest α2
      | .ct α2 => I (done ++ [x]) rest α2
      | .bk α2 => Q (.bk α2)
      | .rt r α2 => Q (.rt r α2)) (fin : ∀ done α, I done [] α → Q (.nx α)) : ∀ xs done α, I done xs α → Wp (forL g b xs α) Q
  | [], done, α, h => ⟨_, rfl, fin done α h⟩
  | x :: xs, done, α, h => by
    unfold forL
    rw [wp_bind]
    refine (step done x xs α h).mono fun α1 h1 => ?_
    rw [wp_bind]
    refine h1.mono fun o h2 => ?_
    cases o with
    | nx α2 => exact for_wp I step fin xs _ α2 h2
    | ct α2 => exact for_wp I step fin xs _ α2 h2
    | bk α2 => exact ⟨_, rfl, h2⟩
    | rt r α2 => exact ⟨_, rfl, h2⟩
theorem cm_wp {β : Type} {vs : List Nat} {g : MG} {tt : MT} {u : AS → Option (List β × AS)} (I : List Da → List Da → List β → AS → Prop)
    (step : ∀ done x rest acc α, I done (x :: rest) acc α → Wp (g x α) fun α1 => Wp (tt α1) fun c => if c.1 = true then Wp (u c.2) fun y => I (done ++ [x]) rest (acc ++ y.1) (wipeA y.2 vs) else I (done ++ [x]) rest acc (wipeA c.2 vs)) :
    ∀ xs done acc α (Q : List β × AS → Prop), I done xs acc α → (∀ done ys α', I done [] (acc ++ ys) α' → Q (ys, α')) → Wp (cmL vs g tt u xs α) Q
  | [], done, acc, α, Q, h, fin => ⟨_, rfl, fin done [] α (by rw [List.append_nil]; exact h)⟩
  | x :: xs, done, acc, α, Q, h, fin => by
    unfold cmL
    rw [wp_bind]
    refine (step done x xs acc α h).mono fun α1 h1 => ?_
    rw [wp_bind]
    refine h1.mono fun c h2 => ?_
    by_cases hc : c.1 = true
    · rw [if_pos hc] at h2 ⊢
      rw [wp_bind]
      refine h2.mono fun y h3 => ?_
      rw [wp_bind]
      refine cm_wp I step xs _ _ _ _ h3 fun d zs α' h4 => ?_
      rw [wp_some]
      refine fin d _ α' ?_
      rw [← List.append_assoc]
      exact h4
    · rw [if_neg hc] at h2 ⊢
      exact cm_wp I step xs _ _ _ _ h2 fun d zs α' h4 => fin d zs α' h4
/-- the parts of a comprehension, one by one; the state is told by s -/
theorem cm_all {β S : Type} {vs : List Nat} {g : MG} {tt : MT} {u : AS → Option (List β × AS)} {St : S → AS} {OK : S → Prop} {P : Da → List β → Prop} : ∀ {xs : List Da} {s : S},
    (∀ x ∈ xs, ∀ s, OK s → Wp (g x (St s)) fun α1 => Wp (tt α1) fun c => if c.1 = true then Wp (u c.2) fun y => P x y.1 ∧ ∃ s', OK s' ∧ wipeA y.2 vs = St s' else P x [] ∧ ∃ s', OK s' ∧ wipeA c.2 vs = St s') →
    OK s → Wp (cmL vs g tt u xs (St s)) fun r => ∃ yss s', OK s' ∧ r = (yss.flatten, St s') ∧ Paired P xs yss
  | [], s, _, hs => ⟨_, rfl, [], s, hs, rfl, .nil⟩
  | x :: xs, s, h, hs => by
    unfold cmL
    rw [wp_bind]
    refine (h x (List.mem_cons_self ..) s hs).mono fun α1 h1 => ?_
    rw [wp_bind]
    refine h1.mono fun c h2 => ?_
    have rest : ∀ s', OK s' → Wp (cmL vs g tt u xs (St s')) fun r => ∃ yss s', OK s' ∧ r = (yss.flatten, St s') ∧ Paired P xs yss := fun s' hs' =>
      cm_all (fun x m => h x (List.mem_cons_of_mem _ m)) hs'
    by_cases hc : c.1 = true
    · rw [if_pos hc] at h2 ⊢
      rw [wp_bind]
      refine h2.mono fun y ⟨hp, s', hs', e⟩ => ?_
      rw [wp_bind, e]
      refine (rest s' hs').mono fun r ⟨yss, s2, h3, er, pr⟩ => ?_
      subst er
      rw [wp_some]
      exact ⟨y.1 :: yss, s2, h3, rfl, .cons hp pr⟩
    · rw [if_neg hc] at h2 ⊢
      obtain ⟨hp, s', hs', e⟩ := h2
      rw [e]
      refine (rest s' hs').mono fun r ⟨yss, s2, h3, er, pr⟩ => ?_
      subst er
      exact ⟨[] :: yss, s2, h3, rfl, .cons hp pr⟩
theorem ones_flat {β : Type} {P : Da → β → Prop} : ∀ {xs : List Da} {yss : List (List β)}, Paired (fun x ys => ∃ y, ys = [y] ∧ P x y) xs yss → ∃ ys, yss.flatten = ys ∧ Paired P xs ys
  | _, _, .nil => ⟨[], rfl, .nil⟩
  | _, _, .cons ⟨y, e, h⟩ t => by
    obtain ⟨ys, e2, p⟩ := ones_flat t
    subst e
    exact ⟨y :: ys, by rw [List.flatten_cons, e2]; rfl, .cons h p⟩
/-- a list comprehension without a test -/
theorem lc_wp {S : Type} {i : MI} {vs : List Nat} {g : MG} {me : ME} {St : S → AS} {OK : S → Prop} {P : Da → Da → Prop} {α : AS} {Q : Nw × AS → Prop}
    (hi : Wp (i α) fun x => ∃ s, OK s ∧ x.1.2 = [] ∧ noRoots x.2 vs ∧ wipeA x.2 vs = St s ∧ x.1.1.length ≤ LIM ∧
      (∀ y ∈ x.1.1, ∀ s, OK s → Wp (g y (St s)) fun α1 => Wp (me α1) fun l => Wp (own l.2 l.1) fun z => P y z ∧ ∃ s', OK s' ∧ wipeA l.2 vs = St s') ∧
      ∀ ys s', OK s' → Paired P x.1.1 ys → Q (.r (.list ys), backA x.2 (St s') vs)) : Wp (fLc (cmI i vs g tYesM (mLc me)) α) Q := by
  unfold fLc cmI
  rw [wp_bind, wp_bind]
  refine hi.mono fun x hx => ?_
  obtain ⟨s, hs, e1, nr, e2, hl, h, q⟩ := hx
  rw [e1, if_pos ⟨nr, fun i m => (List.not_mem_nil m).elim⟩, wp_bind, lockA_nil, e2]
  refine (cm_all (P := fun x ys => ∃ y, ys = [y] ∧ P x y) (fun y m s hs => ?_) hs).mono ?_
  · refine (h y m s hs).mono fun α1 h1 => ?_
    show Wp (some (true, α1)) _
    rw [wp_some]
    show Wp (mLc me α1) _
    unfold mLc
    rw [wp_bind]
    refine h1.mono fun l h2 => ?_
    rw [wp_bind]
    refine h2.mono fun z h3 => ?_
    rw [wp_some]
    exact ⟨⟨z, rfl, h3.1⟩, h3.2⟩
  · rintro r ⟨yss, s', hs', er, pr⟩
    subst er
    obtain ⟨ys, e, p2⟩ := ones_flat pr
    rw [wp_some, freeA_nil, wp_if]
    have hlen : ys.length = x.1.1.length := (paired_len p2).symm
    refine ⟨fun _ => ?_, fun z => (z ?_).elim⟩
    · rw [wp_some, e]
      exact q ys s' hs' p2
    · show yss.flatten.length ≤ LIM
      rw [e, hlen]
      exact hl
theorem lc_go {S : Type} {i : MI} {vs : List Nat} {g : MG} {me : ME} {St : S → AS} {OK : S → Prop} {P : Da → Da → Prop} {α α1 : AS} {Q : Nw × AS → Prop} {xs : List Da} {s : S}
    (hi : i α = some ((xs, []), α1)) (hs : OK s) (nr : noRoots α1 vs) (e2 : wipeA α1 vs = St s) (hl : xs.length ≤ LIM)
    (h : ∀ y ∈ xs, ∀ s, OK s → Wp (g y (St s)) fun α1 => Wp (me α1) fun l => Wp (own l.2 l.1) fun z => P y z ∧ ∃ s', OK s' ∧ wipeA l.2 vs = St s')
    (q : ∀ ys s', OK s' → Paired P xs ys → Q (.r (.list ys), backA α1 (St s') vs)) : Wp (fLc (cmI i vs g tYesM (mLc me)) α) Q :=
  lc_wp ⟨_, hi, s, hs, rfl, nr, e2, hl, h, q⟩
def rgN (n : Nat) : List Da := (List.range n).map fun k : Nat => Da.int (k : Int)
theorem rgN_len (n : Nat) : (rgN n).length = n := by unfold rgN; rw [List.length_map, List.length_range]
theorem rgN_mem {n : Nat} {x : Da} (h : x ∈ rgN n) : ∃ k : Nat, k < n ∧ x = .int (k : Int) := by
  unfold rgN at h
  obtain ⟨k, m, rfl⟩ := List.mem_map.mp h
  exact ⟨k, List.mem_range.mp m, rfl⟩
theorem noRoots_of {α : AS} {vs : List Nat} (h : (vs.all fun i => (α[i]?).all fun r => !r.isRoot) = true) : noRoots α vs := fun i m r e => by
  have h1 := List.all_eq_true.mp h i m
  rw [e] at h1
  simpa using h1
end Vm

/-! rests that simp leaves alone -/
namespace Vm
open PySem PySem.Spec PyProof.Rows L2 Gk
inductive Tag {τ : Type} (x : τ) : Type
  | mk : Tag x
def bindD {τ υ : Type} (o : Option τ) (f : τ → Option υ) (_ : Tag f) : Option υ := o.bind f
theorem bind_tag {τ υ : Type} {o : Option τ} {f : τ → Option υ} : o.bind f = bindD o f .mk := id rfl
theorem bindD_some {τ υ : Type} {a : τ} {f : τ → Option υ} {t : Tag f} : bindD (some a) f t = f a := id rfl
theorem bindD_none {τ υ : Type} {f : τ → Option υ} {t : Tag f} : bindD none f t = none := id rfl
theorem bindD_back {τ υ : Type} {o : Option τ} {f : τ → Option υ} {t : Tag f} : bindD o f t = o.bind f := id rfl
def WpD {τ : Type} (o : Option τ) (Q : τ → Prop) (_ : Tag Q) : Prop := Wp o Q
theorem wp_tag {τ : Type} {o : Option τ} {Q : τ → Prop} : Wp o Q = WpD o Q .mk := id rfl
theorem wpD_some {τ : Type} {a : τ} {Q : τ → Prop} {t : Tag Q} : WpD (some a) Q t = Q a := wp_some
theorem wpD_none {τ : Type} {Q : τ → Prop} {t : Tag Q} : WpD none Q t = False := wp_none
theorem wpD_bind {τ υ : Type} {o : Option τ} {f : τ → Option υ} {s : Tag f} {Q : υ → Prop} {t : Tag Q} : WpD (bindD o f s) Q t = WpD o (fun a => Wp (f a) Q) .mk := wp_bind
theorem wpD_back {τ : Type} {o : Option τ} {Q : τ → Prop} {t : Tag Q} : WpD o Q t = Wp o Q := id rfl
end Vm

/-! texts, and what is shown -/
namespace Vm
open PySem PySem.Spec PyProof.Rows L2 Gk
def lettersS : Str := "abcdefghijklmnopqrstuvwxyz"
def Tx (n : Nat) (x : Str) : Prop := x.length ≤ n ∧ ∀ c ∈ x.cps.toList, c < 1000000
theorem Tx.mono {n m : Nat} {x : Str} (h : Tx n x) (l : n ≤ m) : Tx m x := ⟨Nat.le_trans h.1 l, h.2⟩
theorem Tx.cat {n m : Nat} {x y : Str} (h : Tx n x) (k : Tx m y) : Tx (n + m) (x ++ y) := by
  refine ⟨?_, fun c hc => ?_⟩
  · rw [strLen_append]
    have := h.1
    have := k.1
    omega
  · have e : (x ++ y).cps.toList = x.cps.toList ++ y.cps.toList := by
      show (x.cps ++ y.cps).toList = _
      simp
    rw [e] at hc
    exact (List.mem_append.mp hc).elim (h.2 c) (k.2 c)
theorem Tx.cut {n : Nat} {x : Str} (h : Tx n x) (lo hi : Option Int) : Tx n (cutS x lo hi) := by
  refine ⟨Nat.le_trans (cutS_length x lo hi) h.1, fun c hc => h.2 c ?_⟩
  exact List.mem_of_mem_drop (List.mem_of_mem_take hc)
theorem Tx.rep {n : Nat} {x : Str} (h : Tx n x) (k : Nat) : Tx (k * n) (repS x k) := by
  refine ⟨?_, fun c hc => ?_⟩
  · rw [repS_length]
    exact Nat.mul_le_mul_left k h.1
  · obtain ⟨l, hl, hc⟩ := List.mem_flatten.mp hc
    exact h.2 c (by rw [List.mem_replicate] at hl; rw [hl.2] at hc; exact hc)
theorem Tx.one {c : Nat} (h : c < 1000000) : Tx 1 ⟨#[c]⟩ := ⟨Nat.le_refl 1, fun e he => by
  have : e = c := by simpa using he
  rw [this]; exact h⟩
theorem letters_small : ∀ c ∈ lettersS.cps.toList, c < 1000000 := by decide +kernel
theorem upper_small : ∀ c ∈ lettersS.cps.toList, ∀ e ∈ Unicode.upperOf c, e < 1000000 := by decide +kernel
/-- a name as it is drawn -/
def Nm (x : Str) : Prop := 1 ≤ x.length ∧ x.length ≤ 6 ∧ ∀ c ∈ x.cps.toList, c ∈ lettersS.cps.toList
theorem Nm.tx {x : Str} (h : Nm x) : Tx 6 x := ⟨h.2.1, fun c hc => letters_small c (h.2.2 c hc)⟩
theorem Nm.up {x : Str} (h : Nm x) : Tx 18 (Txt.upper x) := by
  refine ⟨?_, fun c hc => ?_⟩
  · have := len_upper x
    have := h.2.1
    omega
  · have hc' : c ∈ (x.cps.mapIdx fun _ c => (Unicode.upperOf c).toArray).flatten := Array.mem_toList_iff.mp hc
    rw [Array.mem_flatten] at hc'
    obtain ⟨l, hl, hc'⟩ := hc'
    rw [Array.mem_mapIdx] at hl
    obtain ⟨i, hi, rfl⟩ := hl
    exact upper_small _ (h.2.2 _ (Array.mem_toList_iff.mpr (Array.getElem_mem hi))) c (by simpa using hc')
theorem join_one {ys : List Str} (h : ∀ y ∈ ys, ∃ c, y = ⟨#[c]⟩ ∧ c ∈ lettersS.cps.toList) :
    (Txt.join "" ys).length = ys.length ∧ ∀ c ∈ (Txt.join "" ys).cps.toList, c ∈ lettersS.cps.toList := by
  rw [TL.join_eq]
  induction ys with
  | nil => exact ⟨rfl, fun c hc => absurd hc List.not_mem_nil⟩
  | cons y r ih =>
    obtain ⟨c, rfl, hc⟩ := h y (List.mem_cons_self ..)
    have ih := ih fun z hz => h z (List.mem_cons_of_mem _ hz)
    cases r with
    | nil => exact ⟨rfl, fun e he => by
        have : e = c := by simpa [Str.join] using he
        rw [this]; exact hc⟩
    | cons z r =>
      have e : Str.join "" (⟨#[c]⟩ :: z :: r) = (⟨#[c]⟩ ++ "" ++ Str.join "" (z :: r) : Str) := rfl
      rw [e]
      refine ⟨?_, fun e he => ?_⟩
      · rw [strLen_append, strLen_append, ih.1]
        show 1 + 0 + (r.length + 1) = r.length + 1 + 1
        omega
      · have q : ((⟨#[c]⟩ : Str) ++ "" ++ Str.join "" (z :: r)).cps.toList = c :: (Str.join "" (z :: r)).cps.toList := by
          show ((#[c] ++ #[]) ++ (Str.join "" (z :: r)).cps).toList = _
          simp
        rw [q] at he
        rcases List.mem_cons.mp he with z' | z'
        · rw [z']; exact hc
        · exact ih.2 e z'
theorem shown_z {z : Str} (h : Tx 6 z) : (PyData.str z).shown.length ≤ 62 := by
  have := StrLaws.reprText_len z fun c hc => Nat.lt_of_lt_of_le (h.2 c hc) (by decide)
  have := h.1
  show (reprText z).length ≤ 62
  omega
theorem all_sh : ∀ {ds : List PyData}, (∀ d ∈ ds, d.showable = true) → PyData.showableAll ds = true
  | [], _ => rfl
  | d :: ds, h => by
    simp only [PyData.showableAll, h d (List.mem_cons_self ..), all_sh fun e he => h e (List.mem_cons_of_mem _ he), Bool.and_self]
theorem all_dp {k : Nat} : ∀ {ds : List PyData}, (∀ d ∈ ds, d.depth ≤ k) → PyData.depthAll ds ≤ k
  | [], _ => by simp only [PyData.depthAll]; omega
  | d :: ds, h => by
    have h1 := h d (List.mem_cons_self ..)
    have h2 := all_dp fun e he => h e (List.mem_cons_of_mem _ he)
    simp only [PyData.depthAll]
    omega
theorem all_nd : ∀ {ds : List PyData}, (∀ d ∈ ds, d.hasDict = false) → PyData.hasDictAll ds = false
  | [], _ => rfl
  | d :: ds, h => by
    simp only [PyData.hasDictAll, h d (List.mem_cons_self ..), all_nd fun e he => h e (List.mem_cons_of_mem _ he), Bool.or_self]
theorem six_in : ∀ c ∈ ("abcxyz" : Str).cps.toList, c ∈ lettersS.cps.toList := by decide +kernel
def Ls (n : Nat) (x : Str) : Prop := x.length ≤ n ∧ ∀ c ∈ x.cps.toList, c ∈ lettersS.cps.toList
theorem Ls.cat {n m : Nat} {x y : Str} (h : Ls n x) (k : Ls m y) : Ls (n + m) (x ++ y) := by
  refine ⟨by rw [strLen_append]; exact Nat.add_le_add h.1 k.1, fun c hc => ?_⟩
  have e : (x ++ y).cps.toList = x.cps.toList ++ y.cps.toList := by
    show (x.cps ++ y.cps).toList = _
    simp
  rw [e] at hc
  exact (List.mem_append.mp hc).elim (h.2 c) (k.2 c)
theorem Ls.cut {n : Nat} {x : Str} (h : Ls n x) (lo hi : Option Int) : Ls n (cutS x lo hi) :=
  ⟨Nat.le_trans (cutS_length x lo hi) h.1, fun c hc => h.2 c (List.mem_of_mem_drop (List.mem_of_mem_take hc))⟩
theorem cut_both (x : Str) (k : Nat) : (cutS x none (some (k : Int))).length + (cutS x (some (k : Int)) none).length = x.length := by
  show (List.take _ _).toArray.size + (List.take _ _).toArray.size = _
  rw [List.size_toArray, List.size_toArray, List.length_take, List.length_take, List.length_drop, List.length_drop, Array.length_toList]
  have e1 : HT.sIx x.length x.length (some (k : Int)) = min k x.length := HT.sIx_nat _ _ k
  have e2 : HT.sIx x.length 0 (some (k : Int)) = min k x.length := HT.sIx_nat _ _ k
  have e3 : HT.sIx x.length 0 none = 0 := rfl
  have e4 : HT.sIx x.length x.length none = x.length := rfl
  rw [e1, e2, e3, e4]
  show min (min k x.cps.size - 0) (x.cps.size - 0) + min (x.cps.size - min k x.cps.size) (x.cps.size - min k x.cps.size) = x.cps.size
  omega
structure Sh (d : PyData) (k n : Nat) : Prop where
  ok : d.showable = true
  deep : d.depth ≤ k
  size : d.shown.length ≤ n
  clean : d.hasDict = false
theorem Sh.shows {d : PyData} {k n : Nat} (h : Sh d k n) (hk : k ≤ 30) (hn : n ≤ 16000000) : Shows d := ⟨h.ok, Nat.le_trans h.deep hk, Nat.le_trans h.size hn, .inl h.clean⟩
theorem Sh.mono {d : PyData} {k n k' n' : Nat} (h : Sh d k n) (hk : k ≤ k') (hn : n ≤ n') : Sh d k' n' := ⟨h.ok, Nat.le_trans h.deep hk, Nat.le_trans h.size hn, h.clean⟩
theorem tup_sh {ds : List PyData} {k n m : Nat} (h : ∀ d ∈ ds, Sh d k n) (hl : ds.length ≤ m) : Sh (.tuple ds) (k + 1) (m * (n + 2) + 3) := by
  refine ⟨all_sh fun d hd => (h d hd).ok, ?_, ?_, all_nd fun d hd => (h d hd).clean⟩
  · have := all_dp fun d hd => (h d hd).deep
    simp only [PyData.depth]
    omega
  · have := shown_tuple_le fun d hd => (h d hd).size
    have := Nat.mul_le_mul_right (n + 2) hl
    omega
theorem lst_sh {ds : List PyData} {k n m : Nat} (h : ∀ d ∈ ds, Sh d k n) (hl : ds.length ≤ m) : Sh (.list ds) (k + 1) (m * (n + 2) + 3) := by
  refine ⟨all_sh fun d hd => (h d hd).ok, ?_, ?_, all_nd fun d hd => (h d hd).clean⟩
  · have := all_dp fun d hd => (h d hd).deep
    simp only [PyData.depth]
    omega
  · have := shown_list_le fun d hd => (h d hd).size
    have := Nat.mul_le_mul_right (n + 2) hl
    omega
theorem small_ints : ∀ b : Fin 41, (PyData.int ((b.val : Nat) : Int)).showable = true ∧ (PyData.int ((b.val : Nat) : Int)).depth ≤ 0 ∧ (PyData.int ((b.val : Nat) : Int)).shown.length ≤ 2 ∧ (PyData.int ((b.val : Nat) : Int)).hasDict = false := by
  decide +kernel
theorem int_sh {b : Nat} (h : b < 41) : Sh (.int (b : Int)) 0 2 := let ⟨h1, h2, h3, h4⟩ := small_ints ⟨b, h⟩; ⟨h1, h2, h3, h4⟩
theorem str_sh {z : Str} (h : Nm z) : Sh (.str z) 0 62 := ⟨rfl, Nat.le_refl _, shown_z h.tx, rfl⟩
end Vm

namespace Vm
open PySem PySem.Spec PyProof.Rows L2 Gk
theorem wp_asg {m : ME} {g : MG} {α : AS} {Q : Out → Prop} : Wp (sAsg m g α) Q = Wp (m α) fun x => Wp (own x.2 x.1) fun y => Wp (g y x.2) fun β => Q (.nx β) := by
  unfold sAsg; simp only [wp_bind, wp_some]
theorem wp_eF {m : MF} {α : AS} {Q : Lc × AS → Prop} : Wp (eF m α) Q = Wp (m α) fun x => Q (.d x.1.da, x.2) := by
  unfold eF; simp only [wp_bind, wp_some]
theorem wp_join {a : Str} {mb : ME} {α : AS} {Q : Lc × AS → Prop} : Wp (eJoin (eC (.str a)) mb α) Q = Wp (mb α) fun y => Wp (res y.2 y.1) fun b => Wp (fJoin (.str a) b) fun c => Q (.d c, y.2) := by
  unfold eJoin eC; simp only [wp_bind, wp_some, res, Option.bind_some]
theorem wp_seq {m n : MS} {α : AS} {Q : Out → Prop} : Wp (sSeq m n α) Q = Wp (m α) fun o => match o with | .nx β => Wp (n β) Q | o => Q o := by
  unfold sSeq
  rw [wp_bind]
  congr 1
  funext o
  cases o <;> simp [wp_some]
theorem wp_ret {m : ME} {α : AS} {Q : Out → Prop} : Wp (sRet m α) Q = Wp (m α) fun x => Q (.rt (.one x.1) x.2) := by
  unfold sRet; simp only [wp_bind, wp_some]
theorem wp_aCons {m : ME} {n : MA} {α : AS} {Q : List Lc × AS → Prop} : Wp (aCons m n α) Q = Wp (m α) fun x => Wp (n x.2) fun y => Q (x.1 :: y.1, y.2) := by
  unfold aCons; simp only [wp_bind, wp_some]
theorem wp_aNil {α : AS} {Q : List Lc × AS → Prop} : Wp (aNil α) Q = Q ([], α) := by unfold aNil; rw [wp_some]
theorem wp_eCB {f : List Da → Option Da} {m : MA} {α : AS} {Q : Lc × AS → Prop} : Wp (eCB f m α) Q = Wp (m α) fun x => Wp (resA x.2 x.1) fun a => Wp (f a) fun c => Q (.d c, x.2) := by
  unfold eCB; simp only [wp_bind, wp_some]
theorem wp_sort {m : MA} {α : AS} {Q : Nw × AS → Prop} : Wp (fSortM m α) Q = Wp (m α) fun x => Wp (resA x.2 x.1) fun a => match a with
    | [.list xs] => Wp (sortD xs) fun ys => Q (.r (.list ys), x.2)
    | _ => False := by
  unfold fSortM
  simp only [wp_bind]
  congr 1
  funext x
  congr 1
  funext a
  split <;> simp [wp_bind, wp_some, wp_none]
theorem toPys_strs : ∀ zs : List Str, toPys (zs.map Da.str) = some (zs.map PyData.str)
  | [] => rfl
  | z :: zs => by simp [toPys, toPy, toPys_strs zs]
theorem strsD_map : ∀ zs : List Str, strsD (zs.map Da.str) = some zs
  | [] => rfl
  | z :: zs => by simp [strsD, strsD_map zs]
theorem depth_str (z : Str) : (PyData.str z).depth = 0 := rfl
theorem zip_self {τ υ : Type} (f : τ → υ) : ∀ xs : List τ, (xs.zip (xs.map f)).map (·.1) = xs
  | [] => rfl
  | x :: xs => by rw [List.map_cons, List.zip_cons_cons, List.map_cons, zip_self f xs]
/-- texts, sorted -/
theorem sort_strs (zs : List Str) : Wp (sortD (zs.map Da.str)) fun ys => ∃ ws : List Str, ys = ws.map Da.str ∧ ws.Perm zs := by
  have hc : PySem.W.AllAlike (zs.map PyData.str) ∧ PySem.W.Sortable (zs.map PyData.str) ∧ ∀ d ∈ zs.map PyData.str, d.depth ≤ 64 := by
    refine ⟨PySem.W.AllAlike.of fun b b' => rfl, PySem.W.Sortable.others fun b => ⟨fun z => PyData.noConfusion z, fun xs z => PyData.noConfusion z⟩, fun d hd => ?_⟩
    obtain ⟨z, _, rfl⟩ := List.mem_map.mp hd
    exact Nat.zero_le _
  have e : (zs.map Da.str).zip (zs.map PyData.str) = zs.map fun z => (Da.str z, PyData.str z) := by
    clear hc
    induction zs with
    | nil => rfl
    | cons z zs ih => rw [List.map_cons, List.map_cons, List.zip_cons_cons, ih, List.map_cons]
  refine ⟨_, ?_, (zs.mergeSort fun a b => PySem.W.dataLe false (fun t : Da × PyData => t.2) (Da.str a, PyData.str a) (Da.str b, PyData.str b)), rfl, List.mergeSort_perm ..⟩
  unfold sortD
  rw [toPys_strs, Option.bind_some, if_pos hc, e, merge_map, List.map_map]
  rfl
theorem rg1_go {ma : MA} {α α1 : AS} {ls : List Lc} {k : Nat} (e : ma α = some (ls, α1)) (e2 : resA α1 ls = some [.int (k : Int)]) (hk : k ≤ 1000000) : iRg1 ma α = some ((rgN k, []), α1) := by
  unfold iRg1
  rw [e, Option.bind_some]
  dsimp only
  rw [e2, Option.bind_some]
  dsimp only
  rw [if_pos ⟨by omega, by omega⟩]
  rfl
theorem eqS_int (a b : Int) : fEqS (.int a) (.int b) = some (.bool (a == b)) := rfl
theorem neS_int (a b : Int) : fNeS (.int a) (.int b) = some (.bool (!(a == b))) := rfl
theorem all_of_paired {τ υ : Type} {P : υ → Prop} : ∀ {xs : List τ} {ys : List υ}, Paired (fun _ y => P y) xs ys → ∀ y ∈ ys, P y
  | _, _, .nil, y, m => (List.not_mem_nil m).elim
  | _, _, .cons h t, y, m => (List.mem_cons.mp m).elim (fun e => by rw [e]; exact h) (all_of_paired t y)
theorem strs_of {P : Str → Prop} : ∀ {ws : List Da}, (∀ y ∈ ws, ∃ x, y = .str x ∧ P x) → ∃ xs : List Str, ws = xs.map Da.str ∧ ∀ x ∈ xs, P x
  | [], _ => ⟨[], rfl, fun c m => (List.not_mem_nil m).elim⟩
  | y :: ws, h => by
    obtain ⟨cs, rfl, h4⟩ := strs_of (ws := ws) fun y m => h y (List.mem_cons_of_mem _ m)
    obtain ⟨c, rfl, h5⟩ := h y (List.mem_cons_self ..)
    exact ⟨c :: cs, rfl, fun d m => (List.mem_cons.mp m).elim (fun z => by rw [z]; exact h5) (h4 d)⟩
theorem sif_true {c : MT} {m n : MS} {α α1 : AS} {Q : Out → Prop} (e : c α = some (true, α1)) (h : Wp (m α1) Q) : Wp (sIf c m n α) Q := by
  unfold sIf; rw [wp_bind, e, wp_some]; exact h
theorem sif_false {c : MT} {m n : MS} {α α1 : AS} {Q : Out → Prop} (e : c α = some (false, α1)) (h : Wp (n α1) Q) : Wp (sIf c m n α) Q := by
  unfold sIf; rw [wp_bind, e, wp_some]; exact h
theorem wp_asgR {i : Nat} {m : MF} {α : AS} {Q : Out → Prop} : Wp (sAsgR i m α) Q = Wp (m α) fun x => Wp (setR i x.1 x.2) fun β => Q (.nx β) := by
  unfold sAsgR; simp only [wp_bind, wp_some]
theorem wp_next {α : AS} {Q : Out → Prop} : Wp (sNext α) Q = Q (.nx α) := by unfold sNext; rw [wp_some]
theorem setD_go {i : Nat} {x : Da} {α : AS} {q : AV} (h : α[i]? = some q) (hf : q.isFix = false) : setD i x α = some (α.set i (.d x)) := by
  unfold setD; rw [h]; simp [hf]
theorem setR_go {i : Nat} {x : Nw} {α : AS} {q : AV} (h : α[i]? = some q) (hf : q.isFix = false) : setR i x α = some (α.set i x.av) := by
  unfold setR; rw [h]; simp [hf]
theorem for_go {i : MI} {g : MG} {b : MS} {α α1 : AS} {xs : List Da} {Q : Out → Prop} (hi : i α = some ((xs, []), α1))
    (h : Wp (forL g b xs α1) fun o => match o with
      | .nx β => Q (.nx β)
      | .bk β => Q (.nx β)
      | .ct β => Q (.nx β)
      | .rt r β => Q (.rt r β)) : Wp (sForD i g b α) Q := by
  unfold sForD
  rw [wp_bind, hi, wp_some, wp_bind]
  dsimp only
  rw [lockA_nil]
  refine h.mono fun o ho => ?_
  rw [wp_some]
  cases o <;> simp only [Out.freed, freeA_nil] <;> exact ho
/-- a loop that goes to its end -/
theorem for_inv {S : Type} {i : MI} {g : MG} {b : MS} {α α1 : AS} {xs : List Da} {Q : Out → Prop} (St : S → AS) (J : Nat → S → Prop) (s0 : S) (hi : i α = some ((xs, []), α1)) (e0 : α1 = St s0) (h0 : J 0 s0)
    (h : ∀ k x s, xs[k]? = some x → J k s → Wp (g x (St s)) fun β => Wp (b β) fun o => ∃ s', o = .nx (St s') ∧ J (k + 1) s')
    (fin : ∀ s, J xs.length s → Q (.nx (St s))) : Wp (sForD i g b α) Q := by
  refine for_go hi ?_
  refine for_wp (fun done rest β => ∃ s, β = St s ∧ J done.length s ∧ done ++ rest = xs) ?_ ?_ xs [] α1 ⟨s0, e0, h0, rfl⟩
  · rintro done x rest _ ⟨s, rfl, hj, e⟩
    refine (h done.length x s ?_ hj).mono fun β hb => hb.mono ?_
    · rw [← e, List.getElem?_append_right (Nat.le_refl _), Nat.sub_self]
      rfl
    · rintro _ ⟨s', rfl, hj'⟩
      exact ⟨s', rfl, by rw [List.length_append]; exact hj', by rw [List.append_assoc]; exact e⟩
  · rintro done _ ⟨s, rfl, hj, e⟩
    rw [List.append_nil] at e
    rw [e] at hj
    exact fin s hj
/-- arms, as they are gathered -/
def armD (bs : List Nat) : List (Key × Da) := bs.map fun b : Nat => (.inl (b : Int), .bool true)
theorem arm_put (bs : List Nat) (b : Nat) : ∃ cs : List Nat, putD (armD bs) (.inl (b : Int)) (.bool true) = armD cs ∧ (∀ c ∈ cs, c ∈ bs ∨ c = b) ∧ cs.length ≤ bs.length + 1 ∧ cs ≠ [] ∧ (bs.Nodup → cs.Nodup) := by
  unfold putD armD
  by_cases h : b ∈ bs
  · refine ⟨bs, ?_, fun c m => .inl m, by omega, List.ne_nil_of_mem h, fun z => z⟩
    rw [if_pos]
    · rw [List.map_map]
      apply List.map_congr_left
      intro c _
      simp only [Function.comp]
      split
      · rename_i e; rfl
      · rfl
    · rw [List.any_eq_true]
      exact ⟨_, List.mem_map_of_mem h, by simp⟩
  · refine ⟨bs ++ [b], ?_, fun c m => by simpa using m, by simp, by simp, fun z => ?_⟩
    · rw [if_neg]
      · simp
      · rw [List.any_eq_true]
        rintro ⟨x, m, e⟩
        obtain ⟨c, mc, rfl⟩ := List.mem_map.mp m
        simp only [decide_eq_true_eq, Sum.inl.injEq, Int.ofNat_inj] at e
        rw [e] at mc
        exact h mc
    · rw [List.nodup_append]
      exact ⟨z, by simp, fun x hx y hy => by simp at hy; rw [hy]; intro e; rw [e] at hx; exact h hx⟩
theorem arm_len (bs : List Nat) : (armD bs).length = bs.length := by unfold armD; rw [List.length_map]
theorem arm_ints : ∀ bs : List Nat, intsK (armD bs) = some (bs.map fun b : Nat => (b : Int))
  | [] => rfl
  | b :: bs => by
    show intsK ((.inl (b : Int), .bool true) :: armD bs) = _
    unfold intsK
    rw [arm_ints bs]
    rfl
theorem sort_nats (bs : List Nat) : ∃ cs : List Nat, (bs.map fun b : Nat => (b : Int)).mergeSort leI = cs.map (fun b : Nat => (b : Int)) ∧ cs.Perm bs ∧ cs.Pairwise (· ≤ ·) := by
  refine ⟨bs.mergeSort fun a b => leI a b, ?_, List.mergeSort_perm .., ?_⟩
  · rw [merge_map]
  · have := sort_pw (bs.map fun b : Nat => (b : Int))
    rw [merge_map, List.pairwise_map] at this
    exact this.imp fun h => by omega
theorem append_go {i : Nat} {ma : MA} {α α1 : AS} {l : Lc} {y : Da} {f f0 : Bool} {xs ys : List Da} (h1 : rootAt α i = some (f0, .list ys)) (h2 : ma α = some ([l], α1)) (h3 : own α1 l = some y) (h4 : rootAt α1 i = some (f, .list xs)) (hl : xs.length < LIM) :
    sAppend i ma α = some (.nx (α1.set i (.r f false (.list (xs ++ [y]))))) := by
  unfold sAppend
  rw [h1]
  dsimp only
  rw [h2, Option.bind_some]
  dsimp only
  rw [show ownA α1 [l] = some [y] by simp [ownA, h3], Option.bind_some]
  simp [h4, hl]
end Vm

/-! comprehensions whose parts change nothing -/
namespace Vm
open PySem PySem.Spec PyProof.Rows L2 Gk
theorem wipe_one {α : AS} {v : Nat} {q : AV} (x : AV) (h : α[v]? = some q) : wipeA (α.set v x) [v] = α.set v .un := by
  unfold wipeA wipeA
  rw [List.set_set]
theorem wipe_one' {α : AS} {v : Nat} : wipeA α [v] = α.set v .un := rfl
theorem back_one {α : AS} {v : Nat} {q : AV} (h : α[v]? = some q) : backA α (α.set v .un) [v] = α := by
  unfold backA
  apply List.ext_getElem?
  intro i
  rw [List.getElem?_mapIdx, List.getElem?_set]
  by_cases e : v = i
  · subst e
    have hv : v < α.length := getElem?_lt h
    rw [if_pos rfl, if_pos hv, h]
    simp
  · rw [if_neg e]
    cases z : α[i]? with
    | none => rfl
    | some r => simp [Ne.symm e]
/-- the parts of a comprehension with one name -/
theorem cm_pure {β : Type} {v : Nat} {tt : MT} {u : AS → Option (List β × AS)} {α : AS} {p : Da → Bool} {f : Da → List β} (hv : α[v]? = some .un) : ∀ {xs : List Da},
    (∀ x ∈ xs, tt (α.set v (.d x)) = some (p x, α.set v (.d x))) → (∀ x ∈ xs, p x = true → u (α.set v (.d x)) = some (f x, α.set v (.d x))) →
    cmL [v] (setD v) tt u xs α = some ((xs.filter p).flatMap f, α)
  | [], _, _ => rfl
  | x :: xs, h1, h2 => by
    have ih := cm_pure (xs := xs) hv (fun y m => h1 y (List.mem_cons_of_mem _ m)) fun y m => h2 y (List.mem_cons_of_mem _ m)
    have w : wipeA (α.set v (.d x)) [v] = α := by
      rw [wipe_one _ hv]
      exact List.ext_getElem? fun i => by
        rw [List.getElem?_set]
        by_cases e : v = i
        · subst e; rw [if_pos rfl, if_pos (getElem?_lt hv), hv]
        · rw [if_neg e]
    unfold cmL
    rw [setD_go hv rfl, Option.bind_some, h1 x (List.mem_cons_self ..), Option.bind_some]
    dsimp only
    by_cases hp : p x = true
    · rw [if_pos hp, h2 x (List.mem_cons_self ..) hp, Option.bind_some]
      dsimp only
      rw [w, ih, Option.bind_some, List.filter_cons_of_pos hp, List.flatMap_cons]
    · rw [if_neg hp, w, ih, List.filter_cons_of_neg hp]
theorem set_un {α : AS} {v : Nat} {q : AV} (h : α[v]? = some q) : (α.set v .un)[v]? = some .un := by
  rw [List.getElem?_set_self (getElem?_lt h)]
theorem cmI_pure {β : Type} {i : MI} {v : Nat} {tt : MT} {u : AS → Option (List β × AS)} {α0 α : AS} {q : AV} {xs : List Da} {p : Da → Bool} {f : Da → List β} (hi : i α0 = some ((xs, []), α)) (hv : α[v]? = some q) (nr : q.isRoot = false)
    (h1 : ∀ x ∈ xs, tt (α.set v (.d x)) = some (p x, α.set v (.d x))) (h2 : ∀ x ∈ xs, p x = true → u (α.set v (.d x)) = some (f x, α.set v (.d x))) :
    cmI i [v] (setD v) tt u α0 = some ((xs.filter p).flatMap f, α) := by
  unfold cmI
  rw [hi, Option.bind_some]
  dsimp only
  rw [if_pos ⟨fun j m r e => by rw [List.mem_singleton.mp m, hv] at e; cases e; exact nr, fun j m => (List.not_mem_nil m).elim⟩, lockA_nil, wipe_one',
    cm_pure (p := p) (f := f) (set_un hv) (fun x m => by rw [List.set_set]; exact h1 x m) (fun x m hp => by rw [List.set_set]; exact h2 x m hp), Option.bind_some]
  dsimp only
  rw [freeA_nil, back_one hv]
theorem flat_ones {τ υ : Type} (f : τ → υ) : ∀ xs : List τ, (xs.flatMap fun x => [f x]) = xs.map f
  | [] => rfl
  | x :: xs => by rw [List.flatMap_cons, flat_ones f xs]; rfl
/-- a list comprehension with one name and a test -/
theorem lc_filt {i : MI} {v : Nat} {tt : MT} {me : ME} {α0 α : AS} {q : AV} {xs : List Da} {p : Da → Bool} {f : Da → Da} (hi : i α0 = some ((xs, []), α)) (hv : α[v]? = some q) (nr : q.isRoot = false) (hl : xs.length ≤ LIM)
    (h1 : ∀ x ∈ xs, tt (α.set v (.d x)) = some (p x, α.set v (.d x))) (h2 : ∀ x ∈ xs, p x = true → ∃ l, me (α.set v (.d x)) = some (l, α.set v (.d x)) ∧ own (α.set v (.d x)) l = some (f x)) :
    fLc (cmI i [v] (setD v) tt (mLc me)) α0 = some (.r (.list ((xs.filter p).map f)), α) := by
  unfold fLc
  rw [cmI_pure (p := p) (f := fun x => [f x]) hi hv nr h1 (fun x m hp => by
    obtain ⟨l, e1, e2⟩ := h2 x m hp
    unfold mLc
    rw [e1, Option.bind_some]
    dsimp only
    rw [e2, Option.bind_some]), Option.bind_some]
  dsimp only
  rw [flat_ones, if_pos]
  rw [List.length_map]
  exact Nat.le_trans (List.length_filter_le ..) hl
theorem lc_pure {i : MI} {v : Nat} {me : ME} {α0 α : AS} {q : AV} {xs : List Da} {f : Da → Da} (hi : i α0 = some ((xs, []), α)) (hv : α[v]? = some q) (nr : q.isRoot = false) (hl : xs.length ≤ LIM)
    (h2 : ∀ x ∈ xs, ∃ l, me (α.set v (.d x)) = some (l, α.set v (.d x)) ∧ own (α.set v (.d x)) l = some (f x)) :
    fLc (cmI i [v] (setD v) tYesM (mLc me)) α0 = some (.r (.list (xs.map f)), α) := by
  have := lc_filt (tt := tYesM) (p := fun _ => true) (f := f) hi hv nr hl (fun x m => rfl) fun x m _ => h2 x m
  rw [this]
  congr 4
  rw [List.filter_eq_self.mpr (fun _ _ => rfl)]
theorem bls_map (f : Da → Bool) : ∀ xs : List Da, blsD (xs.map fun x => .bool (f x)) = some (xs.map f)
  | [] => rfl
  | x :: xs => by rw [List.map_cons, List.map_cons]; unfold blsD; rw [bls_map f xs]; rfl
theorem ecb_one {F : List Da → Option Da} {mf : MF} {α0 α : AS} {xs : List Da} {c : Da} (h : mf α0 = some (.r (.list xs), α)) (hc : F [.list xs] = some c) : eCB F (aCons (eF mf) aNil) α0 = some (.d c, α) := by
  unfold eCB aCons eF aNil
  rw [h, Option.bind_some, Option.bind_some]
  dsimp only
  rw [Option.bind_some, Option.bind_some]
  dsimp only
  rw [show resA α [Lc.d (Nw.r (.list xs)).da] = some [.list xs] from rfl, Option.bind_some, hc, Option.bind_some]
theorem any_pure {i : MI} {v : Nat} {me : ME} {α0 α : AS} {q : AV} {xs : List Da} {f : Da → Bool} (hi : i α0 = some ((xs, []), α)) (hv : α[v]? = some q) (nr : q.isRoot = false) (hl : xs.length ≤ LIM)
    (h2 : ∀ x ∈ xs, me (α.set v (.d x)) = some (.d (.bool (f x)), α.set v (.d x))) :
    eCB fAny (aCons (eF (fLc (cmI i [v] (setD v) tYesM (mLc me)))) aNil) α0 = some (.d (.bool (xs.any f)), α) := by
  refine ecb_one (lc_pure (f := fun x => .bool (f x)) hi hv nr hl fun x m => ⟨_, h2 x m, rfl⟩) ?_
  unfold fAny
  dsimp only
  rw [bls_map, Option.bind_some, List.any_map]
  rfl
theorem all_pure {i : MI} {v : Nat} {me : ME} {α0 α : AS} {q : AV} {xs : List Da} {f : Da → Bool} (hi : i α0 = some ((xs, []), α)) (hv : α[v]? = some q) (nr : q.isRoot = false) (hl : xs.length ≤ LIM)
    (h2 : ∀ x ∈ xs, me (α.set v (.d x)) = some (.d (.bool (f x)), α.set v (.d x))) :
    eCB fAll (aCons (eF (fLc (cmI i [v] (setD v) tYesM (mLc me)))) aNil) α0 = some (.d (.bool (xs.all f)), α) := by
  refine ecb_one (lc_pure (f := fun x => .bool (f x)) hi hv nr hl fun x m => ⟨_, h2 x m, rfl⟩) ?_
  unfold fAll
  dsimp only
  rw [bls_map, Option.bind_some, List.all_map]
  rfl
theorem tuple_one {mf : MF} {α0 α : AS} {xs : List Da} (h : mf α0 = some (.r (.list xs), α)) : eCB fTuple (aCons (eF mf) aNil) α0 = some (.d (.tuple xs), α) := ecb_one h rfl
theorem keys_go {i : Nat} {α : AS} {L : List (Key × Da)} (h : α[i]? = some (.d (.dk L))) : iAny (eV i) α = some ((L.map fun kv => kD kv.1, []), α) := by
  have e : eV i α = some (.s i, α) := by unfold eV; rw [h]
  unfold iAny iLst iTpl iKey
  rw [e]
  simp [own, keysOf, h, AV.get]
theorem in_dk (c : Int) (L : List (Key × Da)) (neg : Bool) : fIn neg (.int c) (.dk L) = some (.bool (if neg = true then !(valA L (.inl c)).isSome else (valA L (.inl c)).isSome)) := rfl
theorem sub_dk (c : Int) (L : List (Key × Da)) : fSubs (.dk L) (.int c) = valA L (.inl c) := by
  show ((some (valA L (.inl c))).bind id : Option Da) = _
  cases valA L (.inl c) <;> rfl
end Vm

/-! calls whose first argument is the own thing of slot 0; calls with data alone -/
namespace Vm
open PySem PySem.Spec PyProof.Rows L2 Gk
theorem put0 {p p' : AV} {rest as' : List AV} {ls : List Lc} (hp : p.isRoot = true) (hn : ls.filterMap (rootIx (p :: rest)) = []) : putBack (p :: rest) (.s 0 :: ls) (p' :: as') = p' :: rest := by
  unfold putBack
  apply List.ext_getElem?
  intro k
  rw [List.getElem?_mapIdx]
  cases k with
  | zero =>
    show some (if p.isRoot = true then _ else _) = some p'
    rw [if_pos hp, List.findIdx?_cons, if_pos (by decide)]
    rfl
  | succ k =>
    rw [List.getElem?_cons_succ, List.getElem?_cons_succ]
    cases z : rest[k]? with
    | none => rfl
    | some r =>
      show some (if r.isRoot = true then _ else _) = some r
      by_cases hr : r.isRoot = true
      · rw [if_pos hr, List.findIdx?_cons, if_neg (by simp [isS])]
        cases f : ls.findIdx? (isS (k + 1)) with
        | none => rfl
        | some i =>
          have m := findIdx?_isS f
          have : k + 1 ∈ ls.filterMap (rootIx (p :: rest)) := List.mem_filterMap.mpr ⟨_, List.mem_of_getElem? m, by
            show ((p :: rest)[k + 1]?).bind _ = _
            rw [List.getElem?_cons_succ, z]
            simp [hr]⟩
          rw [hn] at this
          exact (List.not_mem_nil this).elim
      · rw [if_neg hr]
theorem putD0 {α : AS} {as' : List AV} {ls : List Lc} (hn : ls.filterMap (rootIx α) = []) : putBack α ls as' = α := by
  unfold putBack
  apply List.ext_getElem?
  intro k
  rw [List.getElem?_mapIdx]
  cases z : α[k]? with
  | none => rfl
  | some r =>
    show some (if r.isRoot = true then _ else _) = some r
    by_cases hr : r.isRoot = true
    · rw [if_pos hr]
      cases f : ls.findIdx? (isS k) with
      | none => rfl
      | some i =>
        have m := findIdx?_isS f
        have : k ∈ ls.filterMap (rootIx α) := List.mem_filterMap.mpr ⟨_, List.mem_of_getElem? m, by
          show (α[k]?).bind _ = _
          rw [z]
          simp [hr]⟩
        rw [hn] at this
        exact (List.not_mem_nil this).elim
    · rw [if_neg hr]
/-- f(pot, ..) -/
theorem wcallP {F : FV} {ma : MA} {α : AS} {p : AV} {rest as : List AV} {ls : List Lc} {Q : Lc × AS → Prop} (hm : ma α = some (.s 0 :: ls, p :: rest)) (hp : p.isRoot = true) (ha : argsOf (p :: rest) ls = some as) (hn : ls.filterMap (rootIx (p :: rest)) = [])
    (hF : Wp (F (p :: as)) fun y => ∃ p' as', y.2 = p' :: as' ∧ Q (.d y.1.da, p' :: rest)) : Wp (eCall F [] ma α) Q := by
  obtain ⟨⟨v, zs⟩, e, p', as', rfl, q⟩ := hF
  refine ⟨_, ?_, q⟩
  have hu : argOf (p :: rest) (.s 0) = some p := by
    unfold argOf
    cases p with
    | un => cases hp
    | d x => cases hp
    | sc x => cases hp
    | r a b c => rfl
    | n a b c => rfl
  have hr : rootIx (p :: rest) (.s 0) = some 0 := by
    unfold rootIx
    simp [hp]
  unfold eCall callM
  rw [hm, Option.bind_some]
  dsimp only
  rw [List.map_nil, List.append_nil]
  unfold argsOf
  rw [hu, Option.bind_some, ha, Option.bind_some, Option.bind_some, e, Option.bind_some]
  dsimp only
  rw [List.filterMap_cons, hr, hn]
  dsimp only
  rw [if_pos (by simp), Option.bind_some, put0 hp hn]
/-- f(data, ..) -/
theorem callD {F : FV} {ma : MA} {α α1 : AS} {as as' : List AV} {ls : List Lc} {v : Rv} (hm : ma α = some (ls, α1)) (ha : argsOf α1 ls = some as) (hn : ls.filterMap (rootIx α1) = []) (hF : F as = some (v, as')) : eCall F [] ma α = some (.d v.da, α1) := by
  unfold eCall callM
  rw [hm, Option.bind_some]
  dsimp only
  rw [List.map_nil, List.append_nil, ha, Option.bind_some, hF, Option.bind_some, hn, if_pos (by simp), Option.bind_some]
  dsimp only
  rw [putD0 hn]
/-- what a def of data answers -/
theorem defD {np nn : Nat} {b : MS} {as : AS} {Q : Da → Prop} (hl : as.length = np) (hr : ∀ q ∈ as, q.isRoot = false) (hb : Wp (b (startA nn as)) fun o => ∃ x α, o = .rt (.one (.d x)) α ∧ Q x) : Wp (mDef np nn b as) fun y => ∃ x, y = (.one (.d x), as) ∧ Q x := by
  obtain ⟨_, e, x, α, rfl, q⟩ := hb
  refine ⟨_, ?_, x, rfl, q⟩
  unfold mDef
  rw [if_pos hl, e, Option.bind_some]
  dsimp only
  rw [show resRL α (.one (.d x)) = some (.one (.d x)) from rfl, Option.bind_some]
  congr 2
  unfold backP
  apply List.ext_getElem?
  intro i
  rw [List.getElem?_mapIdx]
  cases z : as[i]? with
  | none => rfl
  | some r =>
    show some (if r.isRoot = true then _ else _) = some r
    rw [if_neg (by rw [hr r (List.mem_of_getElem? z)]; decide)]
theorem sub_flat {xs : List Da} {yss : List (List Da)} (h : Paired (fun x ys => ys = [] ∨ ys = [x]) xs yss) : yss.flatten.Sublist xs := by
  induction h with
  | nil => exact List.Sublist.refl _
  | cons h t ih =>
    rcases h with rfl | rfl
    · exact ih.cons _
    · exact ih.cons_cons _
/-- [x for x in xs if ..], the test changes the state -/
theorem lc_some {S : Type} {i : MI} {v : Nat} {tt : MT} {α0 α : AS} {q : AV} {xs : List Da} {St : S → AS} {OK : S → Prop} {s : S} (hi : i α0 = some ((xs, []), α)) (hv : α[v]? = some q) (nr : q.isRoot = false) (e2 : α.set v .un = St s) (hs : OK s) (hl : xs.length ≤ LIM)
    (h : ∀ x ∈ xs, ∀ s, OK s → Wp (setD v x (St s)) fun α1 => Wp (tt α1) fun c => c.2[v]? = some (.d x) ∧ ∃ s', OK s' ∧ wipeA c.2 [v] = St s') :
    Wp (fLc (cmI i [v] (setD v) tt (mLc (eV v))) α0) fun r => ∃ ys s', OK s' ∧ ys.Sublist xs ∧ r = (.r (.list ys), backA α (St s') [v]) := by
  unfold fLc cmI
  rw [wp_bind, wp_bind, hi, wp_some, if_pos ⟨fun j m r e => by rw [List.mem_singleton.mp m, hv] at e; cases e; exact nr, fun j m => (List.not_mem_nil m).elim⟩, wp_bind, lockA_nil, wipe_one', e2]
  refine (cm_all (P := fun x ys => ys = [] ∨ ys = [x]) (fun y m s hs => ?_) hs).mono ?_
  · refine (h y m s hs).mono fun α1 h1 => h1.mono fun c ⟨hc, s', hs', e⟩ => ?_
    by_cases hb : c.1 = true
    · rw [if_pos hb]
      refine ⟨([y], c.2), ?_, .inr rfl, s', hs', e⟩
      unfold mLc eV
      rw [hc]
      simp [own, hc, AV.get]
    · rw [if_neg hb]
      exact ⟨.inl rfl, s', hs', e⟩
  · rintro r ⟨yss, s', hs', er, pr⟩
    subst er
    have sb := sub_flat pr
    rw [wp_some, freeA_nil, wp_if]
    refine ⟨fun _ => ?_, fun z => (z (Nat.le_trans sb.length_le hl)).elim⟩
    rw [wp_some]
    exact ⟨_, s', hs', sb, rfl⟩
end Vm

namespace K50
open PySem PySem.Spec PyProof.Rows L2 Gk Vm
def topS (i : Nat) : Stmt := PySem.Challenge.pw_woundwalks_k50_asks_and_worlds.main.body.getD i (.Pass ⟨0, 0, 0, 0⟩)
abbrev FnP (K : PySem.W.Frag) (x : Str) (st : Stmt) (f : Addr) (fd : FuncData) : Prop := FunD K x x (defArgs st) (defBody st) (defScope st) [] [] f fd
abbrev FnPk (K : PySem.W.Frag) (x : Str) (st : Stmt) (kw : List (Str × V)) (f : Addr) (fd : FuncData) : Prop := FunD K x x (defArgs st) (defBody st) (defScope st) [] kw f fd
end K50
namespace K50
open PySem
def kd_WANTED : List (Str × Str) := [("somewhere", "steady"), ("from", "firm"), ("into", "late"), ("among", "firm")]
end K50

namespace K50
open PySem PySem.Spec PyProof.Rows L2 Gk Vm
abbrev s_is_whole : Stmt := topS 1
theorem sc_is_whole : FnScope ["thing"] ["thing"] (defScope s_is_whole) := ⟨rfl, rfl, rfl, by decide +kernel, rfl, by decide +kernel, by decide +kernel⟩
noncomputable def m_is_whole : MS := (sRet (eAnd (eIsi "int" (eV 0)) (eNot (eIsi "bool" (eV 0)))))
noncomputable def F_is_whole : FV := mDef 1 1 m_is_whole
theorem ok_is_whole {P : Program} {w : World} {K : PySem.W.Frag} {mg : Str → Option Value} {base : Heap} {f : Addr} {fd : FuncData} (F : FnP K "is_whole" s_is_whole f fd) (B : Bi mg) :
    FnG P w K mg base CX0 1 f fd ["thing"] (spV K F_is_whole) := by
  refine okGN F sc_is_whole (fun vs H Q E h => spV_len h) (fun cdv A outer s H vs Q E hg hr h => ?_)
  exact ⟨_, (pss_one (ps_ret (pe_and (pe_callB (call_isiK (K := K) rfl) (by rfl) B.isinstance (by decide +kernel) (pa_cons (pv 0) (pa_cons (pe_bltn (v := .ty "int") (by rfl) B.int (by decide +kernel) rfl) pa_nil))) (pe_one (pe_not (pe_callB (call_isiK (K := K) rfl) (by rfl) B.isinstance (by decide +kernel) (pa_cons (pv 0) (pa_cons (pe_bltn (v := .ty "bool") (by rfl) B.bool (by decide +kernel) rfl) pa_nil)))))))), body_ok ((ref_ret (ref_andV (ref_isi ref_var) (ref_notV (ref_isi ref_var))))) (by decide) h⟩
abbrev s_is_rising : Stmt := topS 2
theorem sc_is_rising : FnScope ["things", "at"] ["things"] (defScope s_is_rising) := ⟨rfl, rfl, rfl, by decide +kernel, rfl, by decide +kernel, by decide +kernel⟩
noncomputable def m_is_rising : MS := (sRet (eCB fAll (aCons (eF (fLc (cmI (iRg1 (aCons (eOp fSub (eCB fLenB (aCons (eV 0) aNil)) (eC (.int 1))) aNil)) [1] (setD 1) tYesM (mLc (eOp fLtA (eOp fSubs (eV 0) (eV 1)) (eOp fSubs (eV 0) (eOp fAdd (eV 1) (eC (.int 1))))))))) aNil)))
noncomputable def F_is_rising : FV := mDef 1 2 m_is_rising
theorem ok_is_rising {P : Program} {w : World} {K : PySem.W.Frag} {mg : Str → Option Value} {base : Heap} {f : Addr} {fd : FuncData} (F : FnP K "is_rising" s_is_rising f fd) (B : Bi mg) :
    FnG P w K mg base CX0 1 f fd ["things"] (spV K F_is_rising) := by
  refine okGN F sc_is_rising (fun vs H Q E h => spV_len h) (fun cdv A outer s H vs Q E hg hr h => ?_)
  exact ⟨_, (pss_one (ps_ret (pe_callB (all_H rfl) (by rfl) B.all (by decide +kernel) (pa_cons (pe_lc (own := [("at", 1)]) (g := (gName 1)) (tt := tYes) rfl sc_is_rising.nd (pi_range1 (by rfl) B.range (pa_cons (pe_op op_sub (pe_callB len_all (by rfl) B.len (by decide +kernel) (pa_cons (pv 0) pa_nil)) pe_int) pa_nil)) (blkOk_by (own := [("at", 1)]) (N := ["things", "at"]) (sc := defScope s_is_rising) (by decide +kernel)) (fun _ _ _ _ _ => (pg_name (i := 1) sc_is_rising.nd rfl (Or.inl rfl))) (fun _ _ _ _ _ => pts_nil) (fun _ _ _ _ _ => (pe_cmpR (op_ltA (K := K) rfl (hu70_of hr)) (pe_orE (pe_ix ix_any (pv 0) (pv 1) (fun _ _ => rfl)) (pe_dget (hu_of hr) (pv 0) (pv 1) (fun _ _ => rfl))) (pe_orE (pe_ix ix_any (pv 0) (pe_op op_addA (pv 1) pe_int) (fun _ _ => rfl)) (pe_dget (hu_of hr) (pv 0) (pe_op op_addA (pv 1) pe_int) (fun _ _ => rfl))) (nomark _)))) pa_nil)))), body_ok ((ref_ret (ref_cb rr_all (ref_cons (ref_F (ref_lc (ref_iRg1 (ref_cons (ref_op rr_I (ref_cb rr_lenB (ref_cons ref_var ref_nil)) ref_int) ref_nil)) (ref_bName (by decide)) ref_yes (ref_op rr_ltA (ref_sub ref_var ref_var) (ref_sub ref_var (ref_op rr_add ref_var ref_int))))) ref_nil)))) (by decide) h⟩
abbrev s_is_below : Stmt := topS 3
theorem sc_is_below : FnScope ["many", "thing"] ["many", "thing"] (defScope s_is_below) := ⟨rfl, rfl, rfl, by decide +kernel, rfl, by decide +kernel, by decide +kernel⟩
noncomputable def m_is_below : MS := (sRet (eAnd (eCall F_is_whole [] (aCons (eV 1) aNil)) (eChain fLe fLt (eC (.int 0)) (eV 1) (eV 0))))
noncomputable def F_is_below : FV := mDef 2 2 m_is_below
theorem ok_is_below {P : Program} {w : World} {K : PySem.W.Frag} {mg : Str → Option Value} {base : Heap} {f : Addr} {fd : FuncData} (F : FnP K "is_below" s_is_below f fd) (B : Bi mg) (c_is_whole : ClG P w K mg base 1 "is_whole" ["thing"] (spV K F_is_whole)) :
    FnG P w K mg base CX0 2 f fd ["many", "thing"] (spV K F_is_below) := by
  refine okGN F sc_is_below (fun vs H Q E h => spV_len h) (fun cdv A outer s H vs Q E hg hr h => ?_)
  exact ⟨_, (pss_one (ps_ret (pe_and (pe_clG c_is_whole hg hr (by decide) (by rfl) (pa_cons (pv 1) pa_nil)) (pe_one (pe_chain op_le op_lt pe_int (pv 1) (pv 0)))))), body_ok ((ref_ret (ref_andV (ref_call .nil (ref_cons ref_var ref_nil)) (ref_chain rr_IB rr_IB ref_int ref_var ref_var)))) (by decide) h⟩
abbrev s_is_rising_below : Stmt := topS 4
theorem sc_is_rising_below : FnScope ["many", "thing", "part"] ["many", "thing"] (defScope s_is_rising_below) := ⟨rfl, rfl, rfl, by decide +kernel, rfl, by decide +kernel, by decide +kernel⟩
noncomputable def m_is_rising_below : MS := (sSeq (sIf (mOr (mNot (mTru (eIsi "tuple" (eV 1)))) (mNot (mTru (eCB fAll (aCons (eF (fLc (cmI (iAny (eV 1)) [2] (setD 2) tYesM (mLc (eCall F_is_below [] (aCons (eV 0) (aCons (eV 2) aNil))))))) aNil))))) (sRet (eC (.bool false))) sNext)
  (sRet (eCall F_is_rising [] (aCons (eV 1) aNil))))
noncomputable def F_is_rising_below : FV := mDef 2 3 m_is_rising_below
theorem ok_is_rising_below {P : Program} {w : World} {K : PySem.W.Frag} {mg : Str → Option Value} {base : Heap} {f : Addr} {fd : FuncData} (F : FnP K "is_rising_below" s_is_rising_below f fd) (B : Bi mg) (c_is_rising : ClG P w K mg base 1 "is_rising" ["things"] (spV K F_is_rising)) (c_is_below : ClG P w K mg base 2 "is_below" ["many", "thing"] (spV K F_is_below)) :
    FnG P w K mg base CX0 3 f fd ["many", "thing"] (spV K F_is_rising_below) := by
  refine okGN F sc_is_rising_below (fun vs H Q E h => spV_len h) (fun cdv A outer s H vs Q E hg hr h => ?_)
  exact ⟨_, (pss_cons (ps_if ((pw_or (pt_not (pt_tru (pe_callB (call_isiK (K := K) rfl) (by rfl) B.isinstance (by decide +kernel) (pa_cons (pv 1) (pa_cons (pe_bltn (v := .ty "tuple") (by rfl) B.tuple (by decide +kernel) rfl) pa_nil))))) (pw_or1 (pt_not (pt_tru (pe_callB (all_H rfl) (by rfl) B.all (by decide +kernel) (pa_cons (pe_lc (own := [("part", 2)]) (g := (gName 2)) (tt := tYes) rfl sc_is_rising_below.nd (pi_any (K := K) rfl (pv 1)) (blkOk_by (own := [("part", 2)]) (N := ["many", "thing", "part"]) (sc := defScope s_is_rising_below) (by decide +kernel)) (fun _ _ _ _ _ => (pg_name (i := 2) sc_is_rising_below.nd rfl (Or.inl rfl))) (fun _ _ _ _ _ => pts_nil) (fun _ _ _ _ _ => (pe_clG c_is_below hg hr (by decide) (by rfl) (pa_cons (pv 0) (pa_cons (pv 2) pa_nil))))) pa_nil))))))).pt (pss_one (ps_ret pe_bl)) pss_nil)
      (pss_one (ps_ret (pe_clG c_is_rising hg hr (by decide) (by rfl) (pa_cons (pv 1) pa_nil))))), body_ok ((ref_seq (ref_ifS (ref_or (ref_not (ref_tru (ref_isi ref_var))) (ref_not (ref_tru (ref_cb rr_all (ref_cons (ref_F (ref_lc (ref_iAny ref_var) (ref_bName (by decide)) ref_yes (ref_call .nil (ref_cons ref_var (ref_cons ref_var ref_nil))))) ref_nil))))) (ref_ret ref_bl) ref_next)
      (ref_ret (ref_call .nil (ref_cons ref_var ref_nil))))) (by decide) h⟩
abbrev s_goal_crossings : Stmt := topS 6
theorem sc_goal_crossings : FnScope ["web", "goals"] ["web", "goals"] (defScope s_goal_crossings) := ⟨rfl, rfl, rfl, by decide +kernel, rfl, by decide +kernel, by decide +kernel⟩
noncomputable def m_goal_crossings : MS := (sRet (eIf (tOfE (eIsN false (eV 1))) (eTupRg (gRg1 (eOp fSubs (eV 0) (eC (.int 0))))) (eV 1)))
noncomputable def F_goal_crossings : FV := mDef 2 2 m_goal_crossings
theorem ok_goal_crossings {P : Program} {w : World} {K : PySem.W.Frag} {mg : Str → Option Value} {base : Heap} {f : Addr} {fd : FuncData} (F : FnP K "goal_crossings" s_goal_crossings f fd) (B : Bi mg) :
    FnG P w K mg base CX0 1 f fd ["web", "goals"] (spV K F_goal_crossings) := by
  refine okGN F sc_goal_crossings (fun vs H Q E h => spV_len h) (fun cdv A outer s H vs Q E hg hr h => ?_)
  exact ⟨_, (pss_one (ps_ret (pe_ifExp (pt_cmp (pc_isN (pv 1))) (pe_tupRg rfl (by rfl) B.tuple (prg_1 (by rfl) B.range (pe_orE (pe_ix ix_any (pv 0) pe_int (fun _ _ => rfl)) (pe_dget (hu_of hr) (pv 0) pe_int (fun _ _ => rfl))))) (pv 1)))), body_ok ((ref_ret (ref_if (ref_tB (ref_isN ref_var)) (ref_tupRg (ref_rg1 (ref_sub ref_var ref_int))) ref_var))) (by decide) h⟩
abbrev s_right_arms : Stmt := topS 8
theorem sc_right_arms : FnScope ["web", "world", "post", "arm"] ["web", "world"] (defScope s_right_arms) := ⟨rfl, rfl, rfl, by decide +kernel, rfl, by decide +kernel, by decide +kernel⟩
noncomputable def m_right_arms : MS := (sRet (eF (fDcT (cmI (iZp (aCons (eOp fSubs (eV 0) (eC (.int 1))) (aCons (eV 1) aNil))) [2, 3] (gTupD 2 (gsCons (setD 2) (gsCons (setD 3) gsNil))) tYesM (mDc keyT (eSl (eV 2) oNone (oSome (eC (.int 2)))) (eV 3))))))
noncomputable def F_right_arms : FV := mDef 2 4 m_right_arms
theorem ok_right_arms {P : Program} {w : World} {K : PySem.W.Frag} {mg : Str → Option Value} {base : Heap} {f : Addr} {fd : FuncData} (F : FnP K "right_arms" s_right_arms f fd) (B : Bi mg) :
    FnG P w K mg base CX0 1 f fd ["web", "world"] (spV K F_right_arms) := by
  refine okGN F sc_right_arms (fun vs H Q E h => spV_len h) (fun cdv A outer s H vs Q E hg hr h => ?_)
  exact ⟨_, (pss_one (ps_ret (pe_dcT (hu_of hr) (own := [("post", 2), ("arm", 3)]) (g := (gTup K 2 (gCons (gName 2) (gCons (gName 3) gNil)))) (tt := tYes) rfl sc_right_arms.nd (RZ.pi_zipA (by rfl) B.zip (pa_cons (pe_orE (pe_ix ix_any (pv 0) pe_int (fun _ _ => rfl)) (pe_dget (hu_of hr) (pv 0) pe_int (fun _ _ => rfl))) (pa_cons (pv 1) pa_nil))) (blkOk_by (own := [("post", 2), ("arm", 3)]) (N := ["web", "world", "post", "arm"]) (sc := defScope s_right_arms) (by decide +kernel)) (fun _ _ _ _ _ => (pg_tup rfl (pgs_cons (pg_name (i := 2) sc_right_arms.nd rfl (Or.inl rfl)) (pgs_cons (pg_name (i := 3) sc_right_arms.nd rfl (Or.inl rfl)) pgs_nil)))) (fun _ _ _ _ _ => pts_nil) (fun _ _ _ _ _ => (pe_slice sl_any (pv 2) po_none (po_some pe_int))) (fun _ _ _ _ _ => (pv 3))))), body_ok ((ref_ret (ref_F (ref_dcT (ref_iZip (ref_cons (ref_sub ref_var ref_int) (ref_cons ref_var ref_nil))) (ref_bTup (ref_bCons (ref_bName (by decide)) (ref_bCons (ref_bName (by decide)) ref_bNil))) ref_yes (ref_sl ref_var ref_oNone (ref_oSome ref_int)) ref_var)))) (by decide) h⟩
abbrev s_gone_by : Stmt := topS 9
theorem sc_gone_by : FnScope ["right", "start", "row", "come_to", "name"] ["right", "start", "row"] (defScope s_gone_by) := ⟨rfl, rfl, rfl, by decide +kernel, rfl, by decide +kernel, by decide +kernel⟩
noncomputable def m_gone_by : MS := (sSeq (sAsgR 3 (fLst (aCons (eV 1) aNil)))
  (sSeq (sForD (iAny (eV 2)) (setD 4) (sSeq (sIf (tOfE (eOp (fIn true) (eTup (aCons (eOp fSubs (eV 3) (eUn fNeg (eC (.int 1)))) (aCons (eV 4) aNil))) (eV 0))) sBreak sNext)
  (sAppend 3 (aCons (eOp fSubs (eV 0) (eTup (aCons (eOp fSubs (eV 3) (eUn fNeg (eC (.int 1)))) (aCons (eV 4) aNil)))) aNil))))
  (sRet (eCB fTuple (aCons (eV 3) aNil)))))
noncomputable def F_gone_by : FV := mDef 3 5 m_gone_by
theorem ok_gone_by {P : Program} {w : World} {K : PySem.W.Frag} {mg : Str → Option Value} {base : Heap} {f : Addr} {fd : FuncData} (F : FnP K "gone_by" s_gone_by f fd) (B : Bi mg) :
    FnG P w K mg base CX0 1 f fd ["right", "start", "row"] (spV K F_gone_by) := by
  refine okGN F sc_gone_by (fun vs H Q E h => spV_len h) (fun cdv A outer s H vs Q E hg hr h => ?_)
  exact ⟨_, (pss_cons (ps_set (i := 3) sc_gone_by.nd rfl (Or.inl rfl) (pe_lst (pa_cons (pv 1) pa_nil)))
      (pss_cons (ps_for PassesOwn.never rfl (pi_any (K := K) rfl (pv 2)) (pg_name (i := 4) sc_gone_by.nd rfl (Or.inl rfl)) (pss_cons (ps_if (pt_orT (pt_cmpR (op_notInA (K := K) rfl (hu65_of hr)) (pe_tup (pa_cons (pe_orE (pe_ix ix_any (pv 3) (pe_un un_neg pe_int) (fun _ _ => rfl)) (pe_dget (hu_of hr) (pv 3) (pe_un un_neg pe_int) (fun _ _ => rfl))) (pa_cons (pv 4) pa_nil))) (pv 0) rfl) (pt_cmp (pc_dnotin (hu_of hr) (pe_tup (pa_cons (pe_orE (pe_ix ix_any (pv 3) (pe_un un_neg pe_int) (fun _ _ => rfl)) (pe_dget (hu_of hr) (pv 3) (pe_un un_neg pe_int) (fun _ _ => rfl))) (pa_cons (pv 4) pa_nil))) (pv 0)))) (pss_one ps_break) pss_nil)
      (pss_one (ps_expr (pe_bm PySem.F.plainAttrs_list PySem.F.slot_list_append PySem.F.type_list_append mt_append (pv 3) (pa_cons (pe_orE (pe_ix ix_any (pv 0) (pe_tup (pa_cons (pe_orE (pe_ix ix_any (pv 3) (pe_un un_neg pe_int) (fun _ _ => rfl)) (pe_dget (hu_of hr) (pv 3) (pe_un un_neg pe_int) (fun _ _ => rfl))) (pa_cons (pv 4) pa_nil))) (fun _ _ => rfl)) (pe_dget (hu_of hr) (pv 0) (pe_tup (pa_cons (pe_orE (pe_ix ix_any (pv 3) (pe_un un_neg pe_int) (fun _ _ => rfl)) (pe_dget (hu_of hr) (pv 3) (pe_un un_neg pe_int) (fun _ _ => rfl))) (pa_cons (pv 4) pa_nil))) (fun _ _ => rfl))) pa_nil))))))
      (pss_one (ps_ret (pe_callTy tuple_any (by rfl) B.tuple (by decide +kernel) (pa_cons (pv 3) pa_nil)))))), body_ok ((ref_seq (ref_asgR (ref_fLst (ref_cons ref_var ref_nil)))
      (ref_seq (ref_for (ref_iAny ref_var) ref_gName (ref_seq (ref_ifS (ref_testOr (ref_in_ rfl (ref_tup (ref_cons (ref_sub ref_var (ref_un rr_neg ref_int)) (ref_cons ref_var ref_nil))) ref_var)) ref_break ref_next)
      (ref_append (ref_cons (ref_sub ref_var (ref_tup (ref_cons (ref_sub ref_var (ref_un rr_neg ref_int)) (ref_cons ref_var ref_nil)))) ref_nil))))
      (ref_ret (ref_cb rr_tuple (ref_cons ref_var ref_nil)))))) (by decide) h⟩
abbrev s_starts : Stmt := topS 10
theorem sc_starts : FnScope ["web", "world", "row", "goals", "right", "ends", "found", "start", "come_to"] ["web", "world", "row", "goals"] (defScope s_starts) := ⟨rfl, rfl, rfl, by decide +kernel, rfl, by decide +kernel, by decide +kernel⟩
noncomputable def m_starts : MS := (sSeq (sAsg (eCall F_right_arms [] (aCons (eV 0) (aCons (eV 1) aNil))) (setD 4))
  (sSeq (sAsg (eCall F_goal_crossings [] (aCons (eV 0) (aCons (eV 3) aNil))) (setD 5))
  (sSeq (sAsgR 6 (fLst aNil))
  (sSeq (sForD (iRg1 (aCons (eOp fSubs (eV 0) (eC (.int 0))) aNil)) (setD 7) (sSeq (sAsg (eCall F_gone_by [] (aCons (eV 4) (aCons (eV 7) (aCons (eV 2) aNil)))) (setD 8))
  (sIf (mAnd (tOfE (eOp fEqS (eCB fLenB (aCons (eV 8) aNil)) (eOp fAdd (eCB fLenB (aCons (eV 2) aNil)) (eC (.int 1))))) (tOfE (eOp (fIn false) (eOp fSubs (eV 8) (eUn fNeg (eC (.int 1)))) (eV 5)))) (sAppend 6 (aCons (eV 7) aNil)) sNext)))
  (sRet (eCB fTuple (aCons (eV 6) aNil)))))))
noncomputable def F_starts : FV := mDef 4 9 m_starts
theorem ok_starts {P : Program} {w : World} {K : PySem.W.Frag} {mg : Str → Option Value} {base : Heap} {f : Addr} {fd : FuncData} (F : FnPk K "starts" s_starts [("goals", V.non)] f fd) (B : Bi mg) (c_gone_by : ClG P w K mg base 1 "gone_by" ["right", "start", "row"] (spV K F_gone_by)) (c_goal_crossings : ClG P w K mg base 1 "goal_crossings" ["web", "goals"] (spV K F_goal_crossings)) (c_right_arms : ClG P w K mg base 1 "right_arms" ["web", "world"] (spV K F_right_arms)) :
    FnG P w K mg base CX0 2 f fd ["web", "world", "row", "goals"] (spV K F_starts) := by
  refine okGN F sc_starts (fun vs H Q E h => spV_len h) (fun cdv A outer s H vs Q E hg hr h => ?_)
  exact ⟨_, (pss_cons (ps_set (i := 4) sc_starts.nd rfl (Or.inl rfl) (pe_clG c_right_arms hg hr (by decide) (by rfl) (pa_cons (pv 0) (pa_cons (pv 1) pa_nil))))
      (pss_cons (ps_set (i := 5) sc_starts.nd rfl (Or.inl rfl) (pe_clG c_goal_crossings hg hr (by decide) (by rfl) (pa_cons (pv 0) (pa_cons (pv 3) pa_nil))))
      (pss_cons (ps_set (i := 6) sc_starts.nd rfl (Or.inl rfl) (pe_lst pa_nil))
      (pss_cons (ps_for PassesOwn.never rfl (pi_range1 (by rfl) B.range (pa_cons (pe_orE (pe_ix ix_any (pv 0) pe_int (fun _ _ => rfl)) (pe_dget (hu_of hr) (pv 0) pe_int (fun _ _ => rfl))) pa_nil)) (pg_name (i := 7) sc_starts.nd rfl (Or.inl rfl)) (pss_cons (ps_set (i := 8) sc_starts.nd rfl (Or.inl rfl) (pe_clG c_gone_by hg hr (by decide) (by rfl) (pa_cons (pv 4) (pa_cons (pv 7) (pa_cons (pv 2) pa_nil)))))
      (pss_one (ps_if ((pw_and (pt_cmpR (op_eqK (K := K) rfl (hu64_of hr)) (pe_callB len_all (by rfl) B.len (by decide +kernel) (pa_cons (pv 8) pa_nil)) (pe_op op_addA (pe_callB len_all (by rfl) B.len (by decide +kernel) (pa_cons (pv 2) pa_nil)) pe_int) (nomark _)) (pw_and1 (pt_orT (pt_cmpR (op_inA (K := K) rfl (hu65_of hr)) (pe_orE (pe_ix ix_any (pv 8) (pe_un un_neg pe_int) (fun _ _ => rfl)) (pe_dget (hu_of hr) (pv 8) (pe_un un_neg pe_int) (fun _ _ => rfl))) (pv 5) rfl) (pt_cmp (pc_din (hu_of hr) (pe_orE (pe_ix ix_any (pv 8) (pe_un un_neg pe_int) (fun _ _ => rfl)) (pe_dget (hu_of hr) (pv 8) (pe_un un_neg pe_int) (fun _ _ => rfl))) (pv 5))))))).pt (pss_one (ps_expr (pe_bm PySem.F.plainAttrs_list PySem.F.slot_list_append PySem.F.type_list_append mt_append (pv 6) (pa_cons (pv 7) pa_nil)))) pss_nil))))
      (pss_one (ps_ret (pe_callTy tuple_any (by rfl) B.tuple (by decide +kernel) (pa_cons (pv 6) pa_nil)))))))), body_ok ((ref_seq (ref_asg (ref_call .nil (ref_cons ref_var (ref_cons ref_var ref_nil))) ref_gName)
      (ref_seq (ref_asg (ref_call .nil (ref_cons ref_var (ref_cons ref_var ref_nil))) ref_gName)
      (ref_seq (ref_asgR (ref_fLst ref_nil))
      (ref_seq (ref_for (ref_iRg1 (ref_cons (ref_sub ref_var ref_int) ref_nil)) ref_gName (ref_seq (ref_asg (ref_call .nil (ref_cons ref_var (ref_cons ref_var (ref_cons ref_var ref_nil)))) ref_gName)
      (ref_ifS (ref_and (ref_test (ref_op rr_eq (ref_cb rr_lenB (ref_cons ref_var ref_nil)) (ref_op rr_add (ref_cb rr_lenB (ref_cons ref_var ref_nil)) ref_int))) (ref_testOr (ref_in_ rfl (ref_sub ref_var (ref_un rr_neg ref_int)) ref_var))) (ref_append (ref_cons ref_var ref_nil)) ref_next)))
      (ref_ret (ref_cb rr_tuple (ref_cons ref_var ref_nil)))))))) (by decide) h⟩
abbrev s_is_ask : Stmt := topS 13
theorem sc_is_ask : FnScope ["web", "thing"] ["web", "thing"] (defScope s_is_ask) := ⟨rfl, rfl, rfl, by decide +kernel, rfl, by decide +kernel, by decide +kernel⟩
noncomputable def m_is_ask : MS := (sSeq (sIf (mOr (mNot (mTru (eIsi "tuple" (eV 1)))) (mOr (mNot (mTru (eV 1))) (mNot (mTru (eIsi "str" (eOp fSubs (eV 1) (eC (.int 0)))))))) (sRet (eC (.bool false))) sNext)
  (sSeq (sIf (tOfE (eOp fEqS (eOp fSubs (eV 1) (eC (.int 0))) (eC (.str (Str.ofString "somewhere"))))) (sRet (eOp fEqS (eCB fLenB (aCons (eV 1) aNil)) (eC (.int 1)))) sNext)
  (sSeq (sIf (tOfE (eOp fNeS (eCB fLenB (aCons (eV 1) aNil)) (eC (.int 2)))) (sRet (eC (.bool false))) sNext)
  (sSeq (sIf (tOfE (eOp fEqS (eOp fSubs (eV 1) (eC (.int 0))) (eC (.str (Str.ofString "from"))))) (sRet (eCall F_is_below [] (aCons (eOp fSubs (eV 0) (eC (.int 0))) (aCons (eOp fSubs (eV 1) (eC (.int 1))) aNil)))) sNext)
  (sRet (eAnd (eOp (fIn false) (eOp fSubs (eV 1) (eC (.int 0))) (eTup (aCons (eC (.str (Str.ofString "into"))) (aCons (eC (.str (Str.ofString "among"))) aNil)))) (eCall F_is_rising_below [] (aCons (eOp fSubs (eV 0) (eC (.int 0))) (aCons (eOp fSubs (eV 1) (eC (.int 1))) aNil)))))))))
noncomputable def F_is_ask : FV := mDef 2 2 m_is_ask
theorem ok_is_ask {P : Program} {w : World} {K : PySem.W.Frag} {mg : Str → Option Value} {base : Heap} {f : Addr} {fd : FuncData} (F : FnP K "is_ask" s_is_ask f fd) (B : Bi mg) (c_is_rising_below : ClG P w K mg base 3 "is_rising_below" ["many", "thing"] (spV K F_is_rising_below)) (c_is_below : ClG P w K mg base 2 "is_below" ["many", "thing"] (spV K F_is_below)) :
    FnG P w K mg base CX0 4 f fd ["web", "thing"] (spV K F_is_ask) := by
  refine okGN F sc_is_ask (fun vs H Q E h => spV_len h) (fun cdv A outer s H vs Q E hg hr h => ?_)
  exact ⟨_, (pss_cons (ps_if ((pw_or (pt_not (pt_tru (pe_callB (call_isiK (K := K) rfl) (by rfl) B.isinstance (by decide +kernel) (pa_cons (pv 1) (pa_cons (pe_bltn (v := .ty "tuple") (by rfl) B.tuple (by decide +kernel) rfl) pa_nil))))) (pw_or (pt_not (pt_tru (pv 1))) (pw_or1 (pt_not (pt_tru (pe_callB (call_isiK (K := K) rfl) (by rfl) B.isinstance (by decide +kernel) (pa_cons (pe_orE (pe_ix ix_any (pv 1) pe_int (fun _ _ => rfl)) (pe_dget (hu_of hr) (pv 1) pe_int (fun _ _ => rfl))) (pa_cons (pe_bltn (v := .ty "str") (by rfl) B.str (by decide +kernel) rfl) pa_nil))))))))).pt (pss_one (ps_ret pe_bl)) pss_nil)
      (pss_cons (ps_if (pt_cmpR (op_eqK (K := K) rfl (hu64_of hr)) (pe_orE (pe_ix ix_any (pv 1) pe_int (fun _ _ => rfl)) (pe_dget (hu_of hr) (pv 1) pe_int (fun _ _ => rfl))) pe_str (nomark _)) (pss_one (ps_ret (pe_cmpR (op_eqK (K := K) rfl (hu64_of hr)) (pe_callB len_all (by rfl) B.len (by decide +kernel) (pa_cons (pv 1) pa_nil)) pe_int (nomark _)))) pss_nil)
      (pss_cons (ps_if (pt_cmpR (op_neK (K := K) rfl (hu64_of hr)) (pe_callB len_all (by rfl) B.len (by decide +kernel) (pa_cons (pv 1) pa_nil)) pe_int (nomark _)) (pss_one (ps_ret pe_bl)) pss_nil)
      (pss_cons (ps_if (pt_cmpR (op_eqK (K := K) rfl (hu64_of hr)) (pe_orE (pe_ix ix_any (pv 1) pe_int (fun _ _ => rfl)) (pe_dget (hu_of hr) (pv 1) pe_int (fun _ _ => rfl))) pe_str (nomark _)) (pss_one (ps_ret (pe_clG c_is_below hg hr (by decide) (by rfl) (pa_cons (pe_orE (pe_ix ix_any (pv 0) pe_int (fun _ _ => rfl)) (pe_dget (hu_of hr) (pv 0) pe_int (fun _ _ => rfl))) (pa_cons (pe_orE (pe_ix ix_any (pv 1) pe_int (fun _ _ => rfl)) (pe_dget (hu_of hr) (pv 1) pe_int (fun _ _ => rfl))) pa_nil))))) pss_nil)
      (pss_one (ps_ret (pe_and (pe_orE (pe_cmpR (op_inA (K := K) rfl (hu65_of hr)) (pe_orE (pe_ix ix_any (pv 1) pe_int (fun _ _ => rfl)) (pe_dget (hu_of hr) (pv 1) pe_int (fun _ _ => rfl))) (pe_tup (pa_cons pe_str (pa_cons pe_str pa_nil))) rfl) (pe_cmp (pc_din (hu_of hr) (pe_orE (pe_ix ix_any (pv 1) pe_int (fun _ _ => rfl)) (pe_dget (hu_of hr) (pv 1) pe_int (fun _ _ => rfl))) (pe_tup (pa_cons pe_str (pa_cons pe_str pa_nil)))))) (pe_one (pe_clG c_is_rising_below hg hr (by decide) (by rfl) (pa_cons (pe_orE (pe_ix ix_any (pv 0) pe_int (fun _ _ => rfl)) (pe_dget (hu_of hr) (pv 0) pe_int (fun _ _ => rfl))) (pa_cons (pe_orE (pe_ix ix_any (pv 1) pe_int (fun _ _ => rfl)) (pe_dget (hu_of hr) (pv 1) pe_int (fun _ _ => rfl))) pa_nil))))))))))), body_ok ((ref_seq (ref_ifS (ref_or (ref_not (ref_tru (ref_isi ref_var))) (ref_or (ref_not (ref_tru ref_var)) (ref_not (ref_tru (ref_isi (ref_sub ref_var ref_int)))))) (ref_ret ref_bl) ref_next)
      (ref_seq (ref_ifS (ref_test (ref_op rr_eq (ref_sub ref_var ref_int) (ref_str (by decide +kernel)))) (ref_ret (ref_op rr_eq (ref_cb rr_lenB (ref_cons ref_var ref_nil)) ref_int)) ref_next)
      (ref_seq (ref_ifS (ref_test (ref_op rr_ne (ref_cb rr_lenB (ref_cons ref_var ref_nil)) ref_int)) (ref_ret ref_bl) ref_next)
      (ref_seq (ref_ifS (ref_test (ref_op rr_eq (ref_sub ref_var ref_int) (ref_str (by decide +kernel)))) (ref_ret (ref_call .nil (ref_cons (ref_sub ref_var ref_int) (ref_cons (ref_sub ref_var ref_int) ref_nil)))) ref_next)
      (ref_ret (ref_andV (ref_in_ rfl (ref_sub ref_var ref_int) (ref_tup (ref_cons (ref_str (by decide +kernel)) (ref_cons (ref_str (by decide +kernel)) ref_nil)))) (ref_call .nil (ref_cons (ref_sub ref_var ref_int) (ref_cons (ref_sub ref_var ref_int) ref_nil)))))))))) (by decide) h⟩
abbrev s_wanted : Stmt := topS 14
theorem sc_wanted : FnScope ["ask"] ["ask"] (defScope s_wanted) := ⟨rfl, rfl, rfl, by decide +kernel, rfl, by decide +kernel, by decide +kernel⟩
noncomputable def m_wanted : MS := (sRet (eKd kd_WANTED (eOp fSubs (eV 0) (eC (.int 0)))))
noncomputable def F_wanted : FV := mDef 1 1 m_wanted
theorem ok_wanted {P : Program} {w : World} {K : PySem.W.Frag} {mg : Str → Option Value} {base : Heap} {f : Addr} {fd : FuncData} (F : FnP K "wanted" s_wanted f fd) (B : Bi mg) (c_WANTED : KdOk K w mg "WANTED" kd_WANTED) :
    FnG P w K mg base CX0 1 f fd ["ask"] (spV K F_wanted) := by
  refine okGN F sc_wanted (fun vs H Q E h => spV_len h) (fun cdv A outer s H vs Q E hg hr h => ?_)
  exact ⟨_, (pss_one (ps_ret (pe_kd c_WANTED (by rfl) (pe_orE (pe_ix ix_any (pv 0) pe_int (fun _ _ => rfl)) (pe_dget (hu_of hr) (pv 0) pe_int (fun _ _ => rfl))) (fun _ _ => rfl)))), body_ok ((ref_ret (ref_kd (ref_sub ref_var ref_int)))) (by decide) h⟩
abbrev s_asked_crossings : Stmt := topS 15
theorem sc_asked_crossings : FnScope ["web", "ask"] ["web", "ask"] (defScope s_asked_crossings) := ⟨rfl, rfl, rfl, by decide +kernel, rfl, by decide +kernel, by decide +kernel⟩
noncomputable def m_asked_crossings : MS := (sSeq (sIf (tOfE (eOp fEqS (eOp fSubs (eV 1) (eC (.int 0))) (eC (.str (Str.ofString "from"))))) (sRet (eTup (aCons (eOp fSubs (eV 1) (eC (.int 1))) aNil))) sNext)
  (sRet (eIf (tOfE (eOp fEqS (eOp fSubs (eV 1) (eC (.int 0))) (eC (.str (Str.ofString "among"))))) (eOp fSubs (eV 1) (eC (.int 1))) (eTupRg (gRg1 (eOp fSubs (eV 0) (eC (.int 0))))))))
noncomputable def F_asked_crossings : FV := mDef 2 2 m_asked_crossings
theorem ok_asked_crossings {P : Program} {w : World} {K : PySem.W.Frag} {mg : Str → Option Value} {base : Heap} {f : Addr} {fd : FuncData} (F : FnP K "asked_crossings" s_asked_crossings f fd) (B : Bi mg) :
    FnG P w K mg base CX0 1 f fd ["web", "ask"] (spV K F_asked_crossings) := by
  refine okGN F sc_asked_crossings (fun vs H Q E h => spV_len h) (fun cdv A outer s H vs Q E hg hr h => ?_)
  exact ⟨_, (pss_cons (ps_if (pt_cmpR (op_eqK (K := K) rfl (hu64_of hr)) (pe_orE (pe_ix ix_any (pv 1) pe_int (fun _ _ => rfl)) (pe_dget (hu_of hr) (pv 1) pe_int (fun _ _ => rfl))) pe_str (nomark _)) (pss_one (ps_ret (pe_tup (pa_cons (pe_orE (pe_ix ix_any (pv 1) pe_int (fun _ _ => rfl)) (pe_dget (hu_of hr) (pv 1) pe_int (fun _ _ => rfl))) pa_nil)))) pss_nil)
      (pss_one (ps_ret (pe_ifExp (pt_cmpR (op_eqK (K := K) rfl (hu64_of hr)) (pe_orE (pe_ix ix_any (pv 1) pe_int (fun _ _ => rfl)) (pe_dget (hu_of hr) (pv 1) pe_int (fun _ _ => rfl))) pe_str (nomark _)) (pe_orE (pe_ix ix_any (pv 1) pe_int (fun _ _ => rfl)) (pe_dget (hu_of hr) (pv 1) pe_int (fun _ _ => rfl))) (pe_tupRg rfl (by rfl) B.tuple (prg_1 (by rfl) B.range (pe_orE (pe_ix ix_any (pv 0) pe_int (fun _ _ => rfl)) (pe_dget (hu_of hr) (pv 0) pe_int (fun _ _ => rfl))))))))), body_ok ((ref_seq (ref_ifS (ref_test (ref_op rr_eq (ref_sub ref_var ref_int) (ref_str (by decide +kernel)))) (ref_ret (ref_tup (ref_cons (ref_sub ref_var ref_int) ref_nil))) ref_next)
      (ref_ret (ref_if (ref_test (ref_op rr_eq (ref_sub ref_var ref_int) (ref_str (by decide +kernel)))) (ref_sub ref_var ref_int) (ref_tupRg (ref_rg1 (ref_sub ref_var ref_int))))))) (by decide) h⟩
abbrev s_asked_goals : Stmt := topS 16
theorem sc_asked_goals : FnScope ["ask"] ["ask"] (defScope s_asked_goals) := ⟨rfl, rfl, rfl, by decide +kernel, rfl, by decide +kernel, by decide +kernel⟩
noncomputable def m_asked_goals : MS := (sRet (eIf (tOfE (eOp fEqS (eOp fSubs (eV 0) (eC (.int 0))) (eC (.str (Str.ofString "into"))))) (eOp fSubs (eV 0) (eC (.int 1))) (eC .none)))
noncomputable def F_asked_goals : FV := mDef 1 1 m_asked_goals
theorem ok_asked_goals {P : Program} {w : World} {K : PySem.W.Frag} {mg : Str → Option Value} {base : Heap} {f : Addr} {fd : FuncData} (F : FnP K "asked_goals" s_asked_goals f fd) (B : Bi mg) :
    FnG P w K mg base CX0 1 f fd ["ask"] (spV K F_asked_goals) := by
  refine okGN F sc_asked_goals (fun vs H Q E h => spV_len h) (fun cdv A outer s H vs Q E hg hr h => ?_)
  exact ⟨_, (pss_one (ps_ret (pe_ifExp (pt_cmpR (op_eqK (K := K) rfl (hu64_of hr)) (pe_orE (pe_ix ix_any (pv 0) pe_int (fun _ _ => rfl)) (pe_dget (hu_of hr) (pv 0) pe_int (fun _ _ => rfl))) pe_str (nomark _)) (pe_orE (pe_ix ix_any (pv 0) pe_int (fun _ _ => rfl)) (pe_dget (hu_of hr) (pv 0) pe_int (fun _ _ => rfl))) pe_non))), body_ok ((ref_ret (ref_if (ref_test (ref_op rr_eq (ref_sub ref_var ref_int) (ref_str (by decide +kernel)))) (ref_sub ref_var ref_int) ref_non))) (by decide) h⟩
abbrev s_fails : Stmt := topS 17
theorem sc_fails : FnScope ["web", "world", "word", "ask", "walked", "crossing"] ["web", "world", "word", "ask"] (defScope s_fails) := ⟨rfl, rfl, rfl, by decide +kernel, rfl, by decide +kernel, by decide +kernel⟩
noncomputable def m_fails : MS := (sSeq (sAsg (eCallN 3 1 F_starts (fun ls ms => ls ++ ms) (aCons (eV 0) (aCons (eV 1) (aCons (eV 2) aNil))) (aCons (eCall F_asked_goals [] (aCons (eV 3) aNil)) aNil)) (setD 4))
  (sRet (eNot (eCB fAny (aCons (eF (fLc (cmI (iAny (eCall F_asked_crossings [] (aCons (eV 0) (aCons (eV 3) aNil)))) [5] (setD 5) tYesM (mLc (eOp (fIn false) (eV 5) (eV 4)))))) aNil)))))
noncomputable def F_fails : FV := mDef 4 6 m_fails
theorem ok_fails {P : Program} {w : World} {K : PySem.W.Frag} {mg : Str → Option Value} {base : Heap} {f : Addr} {fd : FuncData} (F : FnP K "fails" s_fails f fd) (B : Bi mg) (c_asked_crossings : ClG P w K mg base 1 "asked_crossings" ["web", "ask"] (spV K F_asked_crossings)) (c_asked_goals : ClG P w K mg base 1 "asked_goals" ["ask"] (spV K F_asked_goals)) (k_starts_3 : ClKG P w K mg base 2 "starts" ["web", "world", "row", "goals"] (spV K F_starts) 3 ["goals"] (fun us ws => us ++ ws)) :
    FnG P w K mg base CX0 3 f fd ["web", "world", "word", "ask"] (spV K F_fails) := by
  refine okGN F sc_fails (fun vs H Q E h => spV_len h) (fun cdv A outer s H vs Q E hg hr h => ?_)
  exact ⟨_, (pss_cons (ps_set (i := 4) sc_fails.nd rfl (Or.inr rfl) (pe_clKNG k_starts_3 hg hr (by decide) (by rfl) (pa_cons (pv 0) (pa_cons (pv 1) (pa_cons (pv 2) pa_nil))) (pk_cons (pe_clG c_asked_goals hg hr (by decide) (by rfl) (pa_cons (pv 3) pa_nil)) pk_nil)))
      (pss_one (ps_ret (pe_not (pe_callB (any_H rfl) (by rfl) B.any (by decide +kernel) (pa_cons (pe_lc (own := [("crossing", 5)]) (g := (gName 5)) (tt := tYes) rfl sc_fails.nd (pi_any (K := K) rfl (pe_clG c_asked_crossings hg hr (by decide) (by rfl) (pa_cons (pv 0) (pa_cons (pv 3) pa_nil)))) (blkOk_by (own := [("crossing", 5)]) (N := ["web", "world", "word", "ask", "walked", "crossing"]) (sc := defScope s_fails) (by decide +kernel)) (fun _ _ _ _ _ => (pg_name (i := 5) sc_fails.nd rfl (Or.inl rfl))) (fun _ _ _ _ _ => pts_nil) (fun _ _ _ _ _ => (pe_orE (pe_cmpR (op_inA (K := K) rfl (hu65_of hr)) (pv 5) (pv 4) rfl) (pe_cmp (pc_din (hu_of hr) (pv 5) (pv 4)))))) pa_nil)))))), body_ok ((ref_seq (ref_asg (ref_callN mix_app (ref_cons ref_var (ref_cons ref_var (ref_cons ref_var ref_nil))) (ref_cons (ref_call .nil (ref_cons ref_var ref_nil)) ref_nil)) ref_gName)
      (ref_ret (ref_notV (ref_cb rr_any (ref_cons (ref_F (ref_lc (ref_iAny (ref_call .nil (ref_cons ref_var (ref_cons ref_var ref_nil)))) (ref_bName (by decide)) ref_yes (ref_in_ rfl ref_var ref_var))) ref_nil)))))) (by decide) h⟩
abbrev s_law_pot : Stmt := topS 19
theorem sc_law_pot : FnScope ["_law_script", "_law_k", "_law_cell", "_law_great"] ["_law_script", "_law_k"] (defScope s_law_pot) := ⟨rfl, rfl, rfl, by decide +kernel, rfl, by decide +kernel, by decide +kernel⟩
noncomputable def m_law_pot : MS := (sSeq (sAsg (eOp fAdd (eOp fMul (eC (.int 3)) (eV 1)) (eScLen 0)) (setD 2))
  (sSeq (sIf (tOfE (eOp fLtA (eV 1) (eScLen 0))) (sAsg (eScIx 0 (eV 1)) (setD 2)) sNext)
  (sSeq (sAsg (eOp fMul (eOp fMod (eCB fAbs (aCons (eV 2) aNil)) eBig) (eCB fInt (aCons (eOp fGe (eCB fAbs (aCons (eV 2) aNil)) (eOp fPow (eC (.int 10)) (eC (.int 18)))) aNil))) (setD 3))
  (sRetF (fLst (aCons (eV 3) (aCons (eOp fMod (eOp fMul (eOp fAdd (eOp fAdd (eOp fMod (eV 2) (eC (.int 2305843009213693951))) (eOp fMul (eOp fMul (eC (.int 7919)) (eV 1)) (eV 1))) (eC (.int 11))) (eC (.int 48271))) (eC (.int 2305843009213693951))) aNil)))))))
noncomputable def F_law_pot : FV := mDef 2 4 m_law_pot
theorem ok_law_pot {P : Program} {w : World} {K : PySem.W.Frag} {mg : Str → Option Value} {base : Heap} {f : Addr} {fd : FuncData} (F : FnP K "_law_pot" s_law_pot f fd) (B : Bi mg) (hd : PySem.W.nsIn K cStatics "sys.int_max_str_digits" = some none) :
    FnG P w K mg base CX0 1 f fd ["_law_script", "_law_k"] (spV K F_law_pot) := by
  refine okGN F sc_law_pot (fun vs H Q E h => spV_len h) (fun cdv A outer s H vs Q E hg hr h => ?_)
  exact ⟨_, (pss_cons (ps_set (i := 2) sc_law_pot.nd rfl (Or.inl rfl) (pe_op op_addA (pe_op op_mul pe_int (pv 1)) (pe_callB (len_L (K := K) rfl) (by rfl) B.len (by decide +kernel) (pa_cons (pv 0) pa_nil))))
      (pss_cons (ps_if (pt_cmpR (op_ltA (K := K) rfl (hu70_of hr)) (pv 1) (pe_callB (len_L (K := K) rfl) (by rfl) B.len (by decide +kernel) (pa_cons (pv 0) pa_nil)) (nomark _)) (pss_one (ps_set (i := 2) sc_law_pot.nd rfl (Or.inl rfl) (pe_ix (ix_L (K := K) rfl) (pv 0) (pv 1) (fun _ _ => rfl)))) pss_nil)
      (pss_cons (ps_set (i := 3) sc_law_pot.nd rfl (Or.inl rfl) (pe_op op_mul (pe_op op_mod (pe_callB cr_abs (by rfl) B.abs (by decide +kernel) (pa_cons (pv 2) pa_nil)) (pe_callTy (cr_big hd) (by rfl) B.int (by decide +kernel) (pa_cons (pe_op op_add_str pe_str (pe_op op_mulStr pe_str pe_int)) pa_nil))) (pe_callTy cr_int (by rfl) B.int (by decide +kernel) (pa_cons (pe_cmpR op_ge (pe_callB cr_abs (by rfl) B.abs (by decide +kernel) (pa_cons (pv 2) pa_nil)) (pe_op op_pow pe_int pe_int) (nomark _)) pa_nil))))
      (pss_one (ps_ret (pe_lst (pa_cons (pv 3) (pa_cons (pe_op op_mod (pe_op op_mul (pe_op op_addA (pe_op op_addA (pe_op op_mod (pv 2) pe_int) (pe_op op_mul (pe_op op_mul pe_int (pv 1)) (pv 1))) pe_int) pe_int) pe_int) pa_nil)))))))), body_ok ((ref_seq (ref_asg (ref_op rr_add (ref_op rr_mul ref_int ref_var) ref_scLen) ref_gName)
      (ref_seq (ref_ifS (ref_test (ref_op rr_ltA ref_var ref_scLen)) (ref_asg (ref_scIx ref_var) ref_gName) ref_next)
      (ref_seq (ref_asg (ref_op rr_mul (ref_op rr_mod (ref_cb rr_abs (ref_cons ref_var ref_nil)) (ref_big fun _ _ _ h => big_arg h)) (ref_cb rr_int (ref_cons (ref_op rr_IB (ref_cb rr_abs (ref_cons ref_var ref_nil)) (ref_op rr_pow ref_int ref_int)) ref_nil))) ref_gName)
      (ref_retF (ref_fLst (ref_cons ref_var (ref_cons (ref_op rr_mod (ref_op rr_mul (ref_op rr_add (ref_op rr_add (ref_op rr_mod ref_var ref_int) (ref_op rr_mul (ref_op rr_mul ref_int ref_var) ref_var)) ref_int) ref_int) ref_int) ref_nil)))))))) (by decide) h⟩
abbrev s_law_take : Stmt := topS 20
theorem sc_law_take : FnScope ["_law_pot_here", "_law_upto", "_law_digit"] ["_law_pot_here", "_law_upto"] (defScope s_law_take) := ⟨rfl, rfl, rfl, by decide +kernel, rfl, by decide +kernel, by decide +kernel⟩
noncomputable def m_law_take : MS := (sSeq (sIf (tOfE (eOp fGt (eOp fSubs (eV 0) (eC (.int 0))) (eC (.int 0)))) (sSeq (sAsg (eOp fMod (eOp fSubs (eV 0) (eC (.int 0))) (eV 1)) (setD 2))
  (sSeq (sSetI 0 (eOp fDiv (eOp fSubs (eV 0) (eC (.int 0))) (eV 1)) (eC (.int 0)))
  (sRet (eV 2)))) sNext)
  (sSeq (sSetI 0 (eOp fMod (eOp fAdd (eOp fMul (eOp fSubs (eV 0) (eC (.int 1))) (eC (.int 1181783497276652981))) (eC (.int 12345678910987))) (eC (.int 2305843009213693951))) (eC (.int 1)))
  (sRet (eOp fMod (eOp fDiv (eOp fMod (eOp fMul (eOp fDiv (eOp fSubs (eV 0) (eC (.int 1))) (eC (.int 65537))) (eOp fAdd (eOp fMod (eOp fSubs (eV 0) (eC (.int 1))) (eC (.int 65537))) (eC (.int 3)))) (eC (.int 2305843009213693921))) (eC (.int 97))) (eV 1)))))
noncomputable def F_law_take : FV := mDef 2 3 m_law_take
theorem ok_law_take {P : Program} {w : World} {K : PySem.W.Frag} {mg : Str → Option Value} {base : Heap} {f : Addr} {fd : FuncData} (F : FnP K "_law_take" s_law_take f fd) (B : Bi mg) :
    FnG P w K mg base CX0 1 f fd ["_law_pot_here", "_law_upto"] (spV K F_law_take) := by
  refine okGN F sc_law_take (fun vs H Q E h => spV_len h) (fun cdv A outer s H vs Q E hg hr h => ?_)
  exact ⟨_, (pss_cons (ps_if (pt_cmpR op_gt (pe_orE (pe_ix ix_any (pv 0) pe_int (fun _ _ => rfl)) (pe_dget (hu_of hr) (pv 0) pe_int (fun _ _ => rfl))) pe_int (nomark _)) (pss_cons (ps_set (i := 2) sc_law_take.nd rfl (Or.inl rfl) (pe_op op_mod (pe_orE (pe_ix ix_any (pv 0) pe_int (fun _ _ => rfl)) (pe_dget (hu_of hr) (pv 0) pe_int (fun _ _ => rfl))) (pv 1)))
      (pss_cons (ps_orS (ps_asg (pe_op op_fdiv (pe_orE (pe_ix ix_any (pv 0) pe_int (fun _ _ => rfl)) (pe_dget (hu_of hr) (pv 0) pe_int (fun _ _ => rfl))) (pv 1)) (pg_sub (pv 0) pe_int set_list)) (ps_dput (hu_of hr) (pv 0) pe_int (pe_op op_fdiv (pe_orE (pe_ix ix_any (pv 0) pe_int (fun _ _ => rfl)) (pe_dget (hu_of hr) (pv 0) pe_int (fun _ _ => rfl))) (pv 1)) (by rfl)))
      (pss_one (ps_ret (pv 2))))) pss_nil)
      (pss_cons (ps_orS (ps_asg (pe_op op_mod (pe_op op_addA (pe_op op_mul (pe_orE (pe_ix ix_any (pv 0) pe_int (fun _ _ => rfl)) (pe_dget (hu_of hr) (pv 0) pe_int (fun _ _ => rfl))) pe_int) pe_int) pe_int) (pg_sub (pv 0) pe_int set_list)) (ps_dput (hu_of hr) (pv 0) pe_int (pe_op op_mod (pe_op op_addA (pe_op op_mul (pe_orE (pe_ix ix_any (pv 0) pe_int (fun _ _ => rfl)) (pe_dget (hu_of hr) (pv 0) pe_int (fun _ _ => rfl))) pe_int) pe_int) pe_int) (by rfl)))
      (pss_one (ps_ret (pe_op op_mod (pe_op op_fdiv (pe_op op_mod (pe_op op_mul (pe_op op_fdiv (pe_orE (pe_ix ix_any (pv 0) pe_int (fun _ _ => rfl)) (pe_dget (hu_of hr) (pv 0) pe_int (fun _ _ => rfl))) pe_int) (pe_op op_addA (pe_op op_mod (pe_orE (pe_ix ix_any (pv 0) pe_int (fun _ _ => rfl)) (pe_dget (hu_of hr) (pv 0) pe_int (fun _ _ => rfl))) pe_int) pe_int)) pe_int) pe_int) (pv 1)))))), body_ok ((ref_seq (ref_ifS (ref_test (ref_op rr_IB (ref_sub ref_var ref_int) ref_int)) (ref_seq (ref_asg (ref_op rr_mod (ref_sub ref_var ref_int) ref_var) ref_gName)
      (ref_seq (ref_setI (ref_op rr_div (ref_sub ref_var ref_int) ref_var) ref_int)
      (ref_ret ref_var))) ref_next)
      (ref_seq (ref_setI (ref_op rr_mod (ref_op rr_add (ref_op rr_mul (ref_sub ref_var ref_int) ref_int) ref_int) ref_int) ref_int)
      (ref_ret (ref_op rr_mod (ref_op rr_div (ref_op rr_mod (ref_op rr_mul (ref_op rr_div (ref_sub ref_var ref_int) ref_int) (ref_op rr_add (ref_op rr_mod (ref_sub ref_var ref_int) ref_int) ref_int)) ref_int) ref_int) ref_var))))) (by decide) h⟩
abbrev s_law_of : Stmt := topS 21
theorem sc_law_of : FnScope ["_law_pot_here", "_law_some"] ["_law_pot_here", "_law_some"] (defScope s_law_of) := ⟨rfl, rfl, rfl, by decide +kernel, rfl, by decide +kernel, by decide +kernel⟩
noncomputable def m_law_of : MS := (sRet (eOp fSubs (eV 1) (eCall F_law_take [] (aCons (eV 0) (aCons (eCB fLenB (aCons (eV 1) aNil)) aNil)))))
noncomputable def F_law_of : FV := mDef 2 2 m_law_of
theorem ok_law_of {P : Program} {w : World} {K : PySem.W.Frag} {mg : Str → Option Value} {base : Heap} {f : Addr} {fd : FuncData} (F : FnP K "_law_of" s_law_of f fd) (B : Bi mg) (c_law_take : ClG P w K mg base 1 "_law_take" ["_law_pot_here", "_law_upto"] (spV K F_law_take)) :
    FnG P w K mg base CX0 2 f fd ["_law_pot_here", "_law_some"] (spV K F_law_of) := by
  refine okGN F sc_law_of (fun vs H Q E h => spV_len h) (fun cdv A outer s H vs Q E hg hr h => ?_)
  exact ⟨_, (pss_one (ps_ret (pe_orE (pe_ix ix_any (pv 1) (pe_clG c_law_take hg hr (by decide) (by rfl) (pa_cons (pv 0) (pa_cons (pe_callB len_all (by rfl) B.len (by decide +kernel) (pa_cons (pv 1) pa_nil)) pa_nil))) (fun _ _ => rfl)) (pe_dget (hu_of hr) (pv 1) (pe_clG c_law_take hg hr (by decide) (by rfl) (pa_cons (pv 0) (pa_cons (pe_callB len_all (by rfl) B.len (by decide +kernel) (pa_cons (pv 1) pa_nil)) pa_nil))) (fun _ _ => rfl))))), body_ok ((ref_ret (ref_sub ref_var (ref_call .nil (ref_cons ref_var (ref_cons (ref_cb rr_lenB (ref_cons ref_var ref_nil)) ref_nil)))))) (by decide) h⟩
abbrev s_law_names : Stmt := topS 22
theorem sc_law_names : FnScope ["_law_pot_here", "_law_many", "_law_stem", "_law_at", "_law_first", "_law_leap", "_law_letters", "_law_k", "_law_letter"] ["_law_pot_here", "_law_many"] (defScope s_law_names) := ⟨rfl, rfl, rfl, by decide +kernel, rfl, by decide +kernel, by decide +kernel⟩
noncomputable def m_law_names : MS := (sSeq (sAsg (eJoin (eC (.str (Str.ofString ""))) (eF (fLc (cmI (iRg1 (aCons (eCall F_law_take [] (aCons (eV 0) (aCons (eC (.int 6)) aNil))) aNil)) [7] (setD 7) tYesM (mLc (eCall F_law_of [] (aCons (eV 0) (aCons (eF (fListM (aCons (eC (.str (Str.ofString "abcxyz"))) aNil))) aNil)))))))) (setD 2))
  (sSeq (sAsg (eTup (aCons (eCall F_law_take [] (aCons (eV 0) (aCons (eOp fAdd (eCB fLenB (aCons (eV 2) aNil)) (eC (.int 1))) aNil))) (aCons (eCall F_law_take [] (aCons (eV 0) (aCons (eC (.int 26)) aNil))) (aCons (eCall F_law_of [] (aCons (eV 0) (aCons (eF (fLst (aCons (eC (.int 1)) (aCons (eC (.int 3)) (aCons (eC (.int 5)) (aCons (eC (.int 7)) (aCons (eC (.int 9)) (aCons (eC (.int 11)) aNil)))))))) aNil))) aNil)))) (gTupD 3 (gsCons (setD 3) (gsCons (setD 4) (gsCons (setD 5) gsNil)))))
  (sSeq (sAsg (eF (fLc (cmI (iRg1 (aCons (eV 1) aNil)) [7] (setD 7) tYesM (mLc (eOp fSubs (eC (.str (Str.ofString "abcdefghijklmnopqrstuvwxyz"))) (eOp fMod (eOp fAdd (eV 4) (eOp fMul (eV 5) (eV 7))) (eC (.int 26)))))))) (setD 6))
  (sRet (eF (fSortM (aCons (eF (fLc (cmI (iAny (eV 6)) [8] (setD 8) tYesM (mLc (eOp fAdd (eOp fAdd (eSl (eV 2) oNone (oSome (eV 3))) (eV 8)) (eSl (eV 2) (oSome (eV 3)) oNone)))))) aNil)))))))
noncomputable def F_law_names : FV := mDef 2 9 m_law_names
theorem ok_law_names {P : Program} {w : World} {K : PySem.W.Frag} {mg : Str → Option Value} {base : Heap} {f : Addr} {fd : FuncData} (F : FnP K "_law_names" s_law_names f fd) (B : Bi mg) (c_law_of : ClG P w K mg base 2 "_law_of" ["_law_pot_here", "_law_some"] (spV K F_law_of)) (c_law_take : ClG P w K mg base 1 "_law_take" ["_law_pot_here", "_law_upto"] (spV K F_law_take)) :
    FnG P w K mg base CX0 3 f fd ["_law_pot_here", "_law_many"] (spV K F_law_names) := by
  refine okGN F sc_law_names (fun vs H Q E h => spV_len h) (fun cdv A outer s H vs Q E hg hr h => ?_)
  exact ⟨_, (pss_cons (ps_set (i := 2) sc_law_names.nd rfl (Or.inr rfl) (pe_joinH pe_str (pe_lc (own := [("_law_k", 7)]) (g := (gName 7)) (tt := tYes) rfl sc_law_names.nd (pi_range1 (by rfl) B.range (pa_cons (pe_clG c_law_take hg hr (by decide) (by rfl) (pa_cons (pv 0) (pa_cons pe_int pa_nil))) pa_nil)) (blkOk_by (own := [("_law_k", 7)]) (N := ["_law_pot_here", "_law_many", "_law_stem", "_law_at", "_law_first", "_law_leap", "_law_letters", "_law_k", "_law_letter"]) (sc := defScope s_law_names) (by decide +kernel)) (fun _ _ _ _ _ => (pg_name (i := 7) sc_law_names.nd rfl (Or.inl rfl))) (fun _ _ _ _ _ => pts_nil) (fun _ _ _ _ _ => (pe_clG c_law_of hg hr (by decide) (by rfl) (pa_cons (pv 0) (pa_cons (pe_callTy (list_any rfl) (by rfl) B.list (by decide +kernel) (pa_cons pe_str pa_nil)) pa_nil)))))))
      (pss_cons (ps_asg (pe_tup (pa_cons (pe_clG c_law_take hg hr (by decide) (by rfl) (pa_cons (pv 0) (pa_cons (pe_op op_addA (pe_callB len_all (by rfl) B.len (by decide +kernel) (pa_cons (pv 2) pa_nil)) pe_int) pa_nil))) (pa_cons (pe_clG c_law_take hg hr (by decide) (by rfl) (pa_cons (pv 0) (pa_cons pe_int pa_nil))) (pa_cons (pe_clG c_law_of hg hr (by decide) (by rfl) (pa_cons (pv 0) (pa_cons (pe_lst (pa_cons pe_int (pa_cons pe_int (pa_cons pe_int (pa_cons pe_int (pa_cons pe_int (pa_cons pe_int pa_nil))))))) pa_nil))) pa_nil)))) (pg_tup rfl (pgs_cons (pg_name (i := 3) sc_law_names.nd rfl (Or.inr rfl)) (pgs_cons (pg_name (i := 4) sc_law_names.nd rfl (Or.inr rfl)) (pgs_cons (pg_name (i := 5) sc_law_names.nd rfl (Or.inr rfl)) pgs_nil)))))
      (pss_cons (ps_setLc (i := 6) (own := [("_law_k", 7)]) (g := (gName 7)) (tt := tYes) (by rfl) sc_law_names.nd rfl rfl (sw_true rfl rfl rfl (by decide +kernel)) (pi_range1 (by rfl) B.range (pa_cons (pv 1) pa_nil)) (blkOk_by (own := [("_law_k", 7)]) (N := ["_law_pot_here", "_law_many", "_law_stem", "_law_at", "_law_first", "_law_leap", "_law_letters", "_law_k", "_law_letter"]) (sc := defScope s_law_names) (by decide +kernel)) (fun _ _ _ _ _ => (pg_name (i := 7) sc_law_names.nd rfl (Or.inl rfl))) (fun _ _ _ _ _ => pts_nil) (fun _ _ _ _ _ => (pe_orE (pe_ix ix_any pe_str (pe_op op_mod (pe_op op_addA (pv 4) (pe_op op_mul (pv 5) (pv 7))) pe_int) (fun _ _ => rfl)) (pe_dget (hu_of hr) pe_str (pe_op op_mod (pe_op op_addA (pv 4) (pe_op op_mul (pv 5) (pv 7))) pe_int) (fun _ _ => rfl)))))
      (pss_one (ps_ret (pe_callB (cr_sortD (K := K) rfl (hu70_of hr)) (by rfl) B.sorted (by decide +kernel) (pa_cons (pe_lc (own := [("_law_letter", 8)]) (g := (gName 8)) (tt := tYes) rfl sc_law_names.nd (pi_any (K := K) rfl (pv 6)) (blkOk_by (own := [("_law_letter", 8)]) (N := ["_law_pot_here", "_law_many", "_law_stem", "_law_at", "_law_first", "_law_leap", "_law_letters", "_law_k", "_law_letter"]) (sc := defScope s_law_names) (by decide +kernel)) (fun _ _ _ _ _ => (pg_name (i := 8) sc_law_names.nd rfl (Or.inl rfl))) (fun _ _ _ _ _ => pts_nil) (fun _ _ _ _ _ => (pe_op op_addA (pe_op op_addA (pe_slice sl_any (pv 2) po_none (po_some (pv 3))) (pv 8)) (pe_slice sl_any (pv 2) (po_some (pv 3)) po_none)))) pa_nil))))))), body_ok ((ref_seq (ref_asg (ref_join (ref_str (by decide +kernel)) (ref_F (ref_lc (ref_iRg1 (ref_cons (ref_call .nil (ref_cons ref_var (ref_cons ref_int ref_nil))) ref_nil)) (ref_bName (by decide)) ref_yes (ref_call .nil (ref_cons ref_var (ref_cons (ref_F (ref_fList (ref_cons (ref_str (by decide +kernel)) ref_nil))) ref_nil)))))) ref_gName)
      (ref_seq (ref_asg (ref_tup (ref_cons (ref_call .nil (ref_cons ref_var (ref_cons (ref_op rr_add (ref_cb rr_lenB (ref_cons ref_var ref_nil)) ref_int) ref_nil))) (ref_cons (ref_call .nil (ref_cons ref_var (ref_cons ref_int ref_nil))) (ref_cons (ref_call .nil (ref_cons ref_var (ref_cons (ref_F (ref_fLst (ref_cons ref_int (ref_cons ref_int (ref_cons ref_int (ref_cons ref_int (ref_cons ref_int (ref_cons ref_int ref_nil)))))))) ref_nil))) ref_nil)))) (ref_gTup (ref_gCons ref_gName (ref_gCons ref_gName (ref_gCons ref_gName ref_gNil)))))
      (ref_seq (ref_asg (ref_F (ref_lc (ref_iRg1 (ref_cons ref_var ref_nil)) (ref_bName (by decide)) ref_yes (ref_sub (ref_str (by decide +kernel)) (ref_op rr_mod (ref_op rr_add ref_var (ref_op rr_mul ref_var ref_var)) ref_int)))) ref_gName)
      (ref_ret (ref_F (ref_fSort (ref_cons (ref_F (ref_lc (ref_iAny ref_var) (ref_bName (by decide)) ref_yes (ref_op rr_add (ref_op rr_add (ref_sl ref_var ref_oNone (ref_oSome ref_var)) ref_var) (ref_sl ref_var (ref_oSome ref_var) ref_oNone)))) ref_nil)))))))) (by decide) h⟩
abbrev s_law_word : Stmt := topS 23
theorem sc_law_word : FnScope ["_law_pot_here", "_law_names_here", "_law_most", "_law_many", "_law_way", "_law_turn", "_law_ring", "_law_found", "_law_k"] ["_law_pot_here", "_law_names_here", "_law_most"] (defScope s_law_word) := ⟨rfl, rfl, rfl, by decide +kernel, rfl, by decide +kernel, by decide +kernel⟩
noncomputable def m_law_word : MS := (sSeq (sAsg (eTup (aCons (eCall F_law_take [] (aCons (eV 0) (aCons (eOp fAdd (eV 2) (eC (.int 1))) aNil))) (aCons (eCall F_law_take [] (aCons (eV 0) (aCons (eC (.int 4)) aNil))) (aCons (eOp fAdd (eC (.int 1)) (eCall F_law_take [] (aCons (eV 0) (aCons (eC (.int 3)) aNil)))) aNil)))) (gTupD 3 (gsCons (setD 3) (gsCons (setD 4) (gsCons (setD 5) gsNil)))))
  (sSeq (sAsg (eF (fLc (cmI (iRg1 (aCons (eV 5) aNil)) [8] (setD 8) tYesM (mLc (eCall F_law_of [] (aCons (eV 0) (aCons (eV 1) aNil))))))) (setD 6))
  (sSeq (sIf (tOfE (eOp fEqS (eV 4) (eC (.int 0)))) (sRet (eCB fTuple (aCons (eF (fLc (cmI (iRg1 (aCons (eV 3) aNil)) [8] (setD 8) tYesM (mLc (eCall F_law_of [] (aCons (eV 0) (aCons (eV 1) aNil))))))) aNil))) sNext)
  (sSeq (sAsgR 7 (fLc (cmI (iRg1 (aCons (eV 3) aNil)) [8] (setD 8) tYesM (mLc (eOp fSubs (eV 6) (eOp fMod (eV 8) (eV 5)))))))
  (sSeq (sIf (mAnd (tOfE (eOp fGt (eV 4) (eC (.int 1)))) (tOfE (eOp fGt (eV 3) (eC (.int 1))))) (sSetI 7 (eCall F_law_of [] (aCons (eV 0) (aCons (eV 1) aNil))) (eUn fNeg (eC (.int 1)))) sNext)
  (sSeq (sIf (mAnd (tOfE (eOp fEqS (eV 4) (eC (.int 3)))) (tOfE (eOp fGt (eV 3) (eC (.int 2))))) (sSetI 7 (eCall F_law_of [] (aCons (eV 0) (aCons (eV 1) aNil))) (eC (.int 0))) sNext)
  (sRet (eCB fTuple (aCons (eV 7) aNil)))))))))
noncomputable def F_law_word : FV := mDef 3 9 m_law_word
theorem ok_law_word {P : Program} {w : World} {K : PySem.W.Frag} {mg : Str → Option Value} {base : Heap} {f : Addr} {fd : FuncData} (F : FnP K "_law_word" s_law_word f fd) (B : Bi mg) (c_law_of : ClG P w K mg base 2 "_law_of" ["_law_pot_here", "_law_some"] (spV K F_law_of)) (c_law_take : ClG P w K mg base 1 "_law_take" ["_law_pot_here", "_law_upto"] (spV K F_law_take)) :
    FnG P w K mg base CX0 3 f fd ["_law_pot_here", "_law_names_here", "_law_most"] (spV K F_law_word) := by
  refine okGN F sc_law_word (fun vs H Q E h => spV_len h) (fun cdv A outer s H vs Q E hg hr h => ?_)
  exact ⟨_, (pss_cons (ps_asg (pe_tup (pa_cons (pe_clG c_law_take hg hr (by decide) (by rfl) (pa_cons (pv 0) (pa_cons (pe_op op_addA (pv 2) pe_int) pa_nil))) (pa_cons (pe_clG c_law_take hg hr (by decide) (by rfl) (pa_cons (pv 0) (pa_cons pe_int pa_nil))) (pa_cons (pe_op op_addA pe_int (pe_clG c_law_take hg hr (by decide) (by rfl) (pa_cons (pv 0) (pa_cons pe_int pa_nil)))) pa_nil)))) (pg_tup rfl (pgs_cons (pg_name (i := 3) sc_law_word.nd rfl (Or.inl rfl)) (pgs_cons (pg_name (i := 4) sc_law_word.nd rfl (Or.inl rfl)) (pgs_cons (pg_name (i := 5) sc_law_word.nd rfl (Or.inr rfl)) pgs_nil)))))
      (pss_cons (ps_set (i := 6) sc_law_word.nd rfl (Or.inr rfl) (pe_lc (own := [("_law_k", 8)]) (g := (gName 8)) (tt := tYes) rfl sc_law_word.nd (pi_range1 (by rfl) B.range (pa_cons (pv 5) pa_nil)) (blkOk_by (own := [("_law_k", 8)]) (N := ["_law_pot_here", "_law_names_here", "_law_most", "_law_many", "_law_way", "_law_turn", "_law_ring", "_law_found", "_law_k"]) (sc := defScope s_law_word) (by decide +kernel)) (fun _ _ _ _ _ => (pg_name (i := 8) sc_law_word.nd rfl (Or.inl rfl))) (fun _ _ _ _ _ => pts_nil) (fun _ _ _ _ _ => (pe_clG c_law_of hg hr (by decide) (by rfl) (pa_cons (pv 0) (pa_cons (pv 1) pa_nil))))))
      (pss_cons (ps_if (pt_cmpR (op_eqK (K := K) rfl (hu64_of hr)) (pv 4) pe_int (nomark _)) (pss_one (ps_ret (pe_callTy tuple_any (by rfl) B.tuple (by decide +kernel) (pa_cons (pe_lc (own := [("_law_k", 8)]) (g := (gName 8)) (tt := tYes) rfl sc_law_word.nd (pi_range1 (by rfl) B.range (pa_cons (pv 3) pa_nil)) (blkOk_by (own := [("_law_k", 8)]) (N := ["_law_pot_here", "_law_names_here", "_law_most", "_law_many", "_law_way", "_law_turn", "_law_ring", "_law_found", "_law_k"]) (sc := defScope s_law_word) (by decide +kernel)) (fun _ _ _ _ _ => (pg_name (i := 8) sc_law_word.nd rfl (Or.inl rfl))) (fun _ _ _ _ _ => pts_nil) (fun _ _ _ _ _ => (pe_clG c_law_of hg hr (by decide) (by rfl) (pa_cons (pv 0) (pa_cons (pv 1) pa_nil))))) pa_nil)))) pss_nil)
      (pss_cons (ps_setLc (i := 7) (own := [("_law_k", 8)]) (g := (gName 8)) (tt := tYes) (by rfl) sc_law_word.nd rfl rfl (sw_true rfl rfl rfl (by decide +kernel)) (pi_range1 (by rfl) B.range (pa_cons (pv 3) pa_nil)) (blkOk_by (own := [("_law_k", 8)]) (N := ["_law_pot_here", "_law_names_here", "_law_most", "_law_many", "_law_way", "_law_turn", "_law_ring", "_law_found", "_law_k"]) (sc := defScope s_law_word) (by decide +kernel)) (fun _ _ _ _ _ => (pg_name (i := 8) sc_law_word.nd rfl (Or.inl rfl))) (fun _ _ _ _ _ => pts_nil) (fun _ _ _ _ _ => (pe_orE (pe_ix ix_any (pv 6) (pe_op op_mod (pv 8) (pv 5)) (fun _ _ => rfl)) (pe_dget (hu_of hr) (pv 6) (pe_op op_mod (pv 8) (pv 5)) (fun _ _ => rfl)))))
      (pss_cons (ps_if ((pw_and (pt_cmpR op_gt (pv 4) pe_int (nomark _)) (pw_and1 (pt_cmpR op_gt (pv 3) pe_int (nomark _))))).pt (pss_one (ps_orS (ps_asg (pe_clG c_law_of hg hr (by decide) (by rfl) (pa_cons (pv 0) (pa_cons (pv 1) pa_nil))) (pg_sub (pv 7) (pe_un un_neg pe_int) set_list)) (ps_dput (hu_of hr) (pv 7) (pe_un un_neg pe_int) (pe_clG c_law_of hg hr (by decide) (by rfl) (pa_cons (pv 0) (pa_cons (pv 1) pa_nil))) (by rfl)))) pss_nil)
      (pss_cons (ps_if ((pw_and (pt_cmpR (op_eqK (K := K) rfl (hu64_of hr)) (pv 4) pe_int (nomark _)) (pw_and1 (pt_cmpR op_gt (pv 3) pe_int (nomark _))))).pt (pss_one (ps_orS (ps_asg (pe_clG c_law_of hg hr (by decide) (by rfl) (pa_cons (pv 0) (pa_cons (pv 1) pa_nil))) (pg_sub (pv 7) pe_int set_list)) (ps_dput (hu_of hr) (pv 7) pe_int (pe_clG c_law_of hg hr (by decide) (by rfl) (pa_cons (pv 0) (pa_cons (pv 1) pa_nil))) (by rfl)))) pss_nil)
      (pss_one (ps_ret (pe_callTy tuple_any (by rfl) B.tuple (by decide +kernel) (pa_cons (pv 7) pa_nil)))))))))), body_ok ((ref_seq (ref_asg (ref_tup (ref_cons (ref_call .nil (ref_cons ref_var (ref_cons (ref_op rr_add ref_var ref_int) ref_nil))) (ref_cons (ref_call .nil (ref_cons ref_var (ref_cons ref_int ref_nil))) (ref_cons (ref_op rr_add ref_int (ref_call .nil (ref_cons ref_var (ref_cons ref_int ref_nil)))) ref_nil)))) (ref_gTup (ref_gCons ref_gName (ref_gCons ref_gName (ref_gCons ref_gName ref_gNil)))))
      (ref_seq (ref_asg (ref_F (ref_lc (ref_iRg1 (ref_cons ref_var ref_nil)) (ref_bName (by decide)) ref_yes (ref_call .nil (ref_cons ref_var (ref_cons ref_var ref_nil))))) ref_gName)
      (ref_seq (ref_ifS (ref_test (ref_op rr_eq ref_var ref_int)) (ref_ret (ref_cb rr_tuple (ref_cons (ref_F (ref_lc (ref_iRg1 (ref_cons ref_var ref_nil)) (ref_bName (by decide)) ref_yes (ref_call .nil (ref_cons ref_var (ref_cons ref_var ref_nil))))) ref_nil))) ref_next)
      (ref_seq (ref_asgR (ref_lc (ref_iRg1 (ref_cons ref_var ref_nil)) (ref_bName (by decide)) ref_yes (ref_sub ref_var (ref_op rr_mod ref_var ref_var))))
      (ref_seq (ref_ifS (ref_and (ref_test (ref_op rr_IB ref_var ref_int)) (ref_test (ref_op rr_IB ref_var ref_int))) (ref_setI (ref_call .nil (ref_cons ref_var (ref_cons ref_var ref_nil))) (ref_un rr_neg ref_int)) ref_next)
      (ref_seq (ref_ifS (ref_and (ref_test (ref_op rr_eq ref_var ref_int)) (ref_test (ref_op rr_IB ref_var ref_int))) (ref_setI (ref_call .nil (ref_cons ref_var (ref_cons ref_var ref_nil))) ref_int) ref_next)
      (ref_ret (ref_cb rr_tuple (ref_cons ref_var ref_nil)))))))))) (by decide) h⟩
abbrev s_law_web : Stmt := topS 24
theorem sc_law_web : FnScope ["_law_pot_here", "_law_n", "_law_names_here", "_law_most", "_law_found", "_law_crossing", "_law_name", "_law_arms", "_law_k"] ["_law_pot_here", "_law_n", "_law_names_here", "_law_most"] (defScope s_law_web) := ⟨rfl, rfl, rfl, by decide +kernel, rfl, by decide +kernel, by decide +kernel⟩
noncomputable def m_law_web : MS := (sSeq (sAsgR 4 (fLst aNil))
  (sSeq (sForD (iRg1 (aCons (eV 1) aNil)) (setD 5) (sForD (iAny (eV 2)) (setD 6) (sSeq (sAsgR 7 (fDK false))
  (sSeq (sForD (iRg1 (aCons (eCall F_law_take [] (aCons (eV 0) (aCons (eOp fAdd (eV 3) (eC (.int 1))) aNil))) aNil)) (setD 8) (sSetI 7 (eC (.bool true)) (eCall F_law_take [] (aCons (eV 0) (aCons (eV 1) aNil)))))
  (sIf (tOfE (eEmp true (eV 7))) (sAppend 4 (aCons (eTup (aCons (eV 5) (aCons (eV 6) (aCons (eCB fTuple (aCons (eF (fSortDI (aCons (eV 7) aNil))) aNil)) aNil)))) aNil)) sNext)))))
  (sRet (eTup (aCons (eV 1) (aCons (eCB fTuple (aCons (eV 4) aNil)) aNil))))))
noncomputable def F_law_web : FV := mDef 4 9 m_law_web
theorem ok_law_web {P : Program} {w : World} {K : PySem.W.Frag} {mg : Str → Option Value} {base : Heap} {f : Addr} {fd : FuncData} (F : FnP K "_law_web" s_law_web f fd) (B : Bi mg) (c_law_take : ClG P w K mg base 1 "_law_take" ["_law_pot_here", "_law_upto"] (spV K F_law_take)) :
    FnG P w K mg base CX0 2 f fd ["_law_pot_here", "_law_n", "_law_names_here", "_law_most"] (spV K F_law_web) := by
  refine okGN F sc_law_web (fun vs H Q E h => spV_len h) (fun cdv A outer s H vs Q E hg hr h => ?_)
  exact ⟨_, (pss_cons (ps_set (i := 4) sc_law_web.nd rfl (Or.inl rfl) (pe_lst pa_nil))
      (pss_cons (ps_for PassesOwn.never rfl (pi_range1 (by rfl) B.range (pa_cons (pv 1) pa_nil)) (pg_name (i := 5) sc_law_web.nd rfl (Or.inl rfl)) (pss_one (ps_for PassesOwn.never rfl (pi_any (K := K) rfl (pv 2)) (pg_name (i := 6) sc_law_web.nd rfl (Or.inl rfl)) (pss_cons (ps_set (i := 7) sc_law_web.nd rfl (Or.inl rfl) pe_dnewK)
      (pss_cons (ps_for PassesOwn.never rfl (pi_range1 (by rfl) B.range (pa_cons (pe_clG c_law_take hg hr (by decide) (by rfl) (pa_cons (pv 0) (pa_cons (pe_op op_addA (pv 3) pe_int) pa_nil))) pa_nil)) (pg_name (i := 8) sc_law_web.nd rfl (Or.inl rfl)) (pss_one (ps_orS (ps_asg pe_bl (pg_sub (pv 7) (pe_clG c_law_take hg hr (by decide) (by rfl) (pa_cons (pv 0) (pa_cons (pv 1) pa_nil))) set_list)) (ps_dput (hu_of hr) (pv 7) (pe_clG c_law_take hg hr (by decide) (by rfl) (pa_cons (pv 0) (pa_cons (pv 1) pa_nil))) pe_bl (by rfl)))))
      (pss_one (ps_if (pt_cmpR (op_neEmp (hu_of hr)) (pv 7) pe_dnewK (nomark _)) (pss_one (ps_expr (pe_bm PySem.F.plainAttrs_list PySem.F.slot_list_append PySem.F.type_list_append mt_append (pv 4) (pa_cons (pe_tup (pa_cons (pv 5) (pa_cons (pv 6) (pa_cons (pe_callTy tuple_any (by rfl) B.tuple (by decide +kernel) (pa_cons (pe_callB (cr_sortDI rfl) (by rfl) B.sorted (by decide +kernel) (pa_cons (pv 7) pa_nil)) pa_nil)) pa_nil)))) pa_nil)))) pss_nil)))))))
      (pss_one (ps_ret (pe_tup (pa_cons (pv 1) (pa_cons (pe_callTy tuple_any (by rfl) B.tuple (by decide +kernel) (pa_cons (pv 4) pa_nil)) pa_nil))))))), body_ok ((ref_seq (ref_asgR (ref_fLst ref_nil))
      (ref_seq (ref_for (ref_iRg1 (ref_cons ref_var ref_nil)) ref_gName (ref_for (ref_iAny ref_var) ref_gName (ref_seq (ref_asgR ref_fDK)
      (ref_seq (ref_for (ref_iRg1 (ref_cons (ref_call .nil (ref_cons ref_var (ref_cons (ref_op rr_add ref_var ref_int) ref_nil))) ref_nil)) ref_gName (ref_setI ref_bl (ref_call .nil (ref_cons ref_var (ref_cons ref_var ref_nil)))))
      (ref_ifS (ref_test (ref_emp ref_var)) (ref_append (ref_cons (ref_tup (ref_cons ref_var (ref_cons ref_var (ref_cons (ref_cb rr_tuple (ref_cons (ref_F (ref_fSortDI (ref_cons ref_var ref_nil))) ref_nil)) ref_nil)))) ref_nil)) ref_next)))))
      (ref_ret (ref_tup (ref_cons ref_var (ref_cons (ref_cb rr_tuple (ref_cons ref_var ref_nil)) ref_nil))))))) (by decide) h⟩
abbrev s_law_world : Stmt := topS 25
theorem sc_law_world : FnScope ["_law_pot_here", "_law_web_here", "_law_post"] ["_law_pot_here", "_law_web_here"] (defScope s_law_world) := ⟨rfl, rfl, rfl, by decide +kernel, rfl, by decide +kernel, by decide +kernel⟩
noncomputable def m_law_world : MS := (sRet (eCB fTuple (aCons (eF (fLc (cmI (iAny (eOp fSubs (eV 1) (eC (.int 1)))) [2] (setD 2) tYesM (mLc (eCall F_law_of [] (aCons (eV 0) (aCons (eF (fListM (aCons (eOp fSubs (eV 2) (eC (.int 2))) aNil))) aNil))))))) aNil)))
noncomputable def F_law_world : FV := mDef 2 3 m_law_world
theorem ok_law_world {P : Program} {w : World} {K : PySem.W.Frag} {mg : Str → Option Value} {base : Heap} {f : Addr} {fd : FuncData} (F : FnP K "_law_world" s_law_world f fd) (B : Bi mg) (c_law_of : ClG P w K mg base 2 "_law_of" ["_law_pot_here", "_law_some"] (spV K F_law_of)) :
    FnG P w K mg base CX0 3 f fd ["_law_pot_here", "_law_web_here"] (spV K F_law_world) := by
  refine okGN F sc_law_world (fun vs H Q E h => spV_len h) (fun cdv A outer s H vs Q E hg hr h => ?_)
  exact ⟨_, (pss_one (ps_ret (pe_callTy tuple_any (by rfl) B.tuple (by decide +kernel) (pa_cons (pe_lc (own := [("_law_post", 2)]) (g := (gName 2)) (tt := tYes) rfl sc_law_world.nd (pi_any (K := K) rfl (pe_orE (pe_ix ix_any (pv 1) pe_int (fun _ _ => rfl)) (pe_dget (hu_of hr) (pv 1) pe_int (fun _ _ => rfl)))) (blkOk_by (own := [("_law_post", 2)]) (N := ["_law_pot_here", "_law_web_here", "_law_post"]) (sc := defScope s_law_world) (by decide +kernel)) (fun _ _ _ _ _ => (pg_name (i := 2) sc_law_world.nd rfl (Or.inl rfl))) (fun _ _ _ _ _ => pts_nil) (fun _ _ _ _ _ => (pe_clG c_law_of hg hr (by decide) (by rfl) (pa_cons (pv 0) (pa_cons (pe_callTy (list_any rfl) (by rfl) B.list (by decide +kernel) (pa_cons (pe_orE (pe_ix ix_any (pv 2) pe_int (fun _ _ => rfl)) (pe_dget (hu_of hr) (pv 2) pe_int (fun _ _ => rfl))) pa_nil)) pa_nil))))) pa_nil)))), body_ok ((ref_ret (ref_cb rr_tuple (ref_cons (ref_F (ref_lc (ref_iAny (ref_sub ref_var ref_int)) (ref_bName (by decide)) ref_yes (ref_call .nil (ref_cons ref_var (ref_cons (ref_F (ref_fList (ref_cons (ref_sub ref_var ref_int) ref_nil))) ref_nil))))) ref_nil)))) (by decide) h⟩
abbrev s_law_ends_of_walk : Stmt := topS 26
theorem sc_law_ends_of_walk : FnScope ["_law_web_here", "_law_world_here", "_law_row", "_law_arms", "_law_found", "_law_crossing", "_law_here", "_law_name", "_law_post", "_law_arm"] ["_law_web_here", "_law_world_here", "_law_row"] (defScope s_law_ends_of_walk) := ⟨rfl, rfl, rfl, by decide +kernel, rfl, by decide +kernel, by decide +kernel⟩
noncomputable def m_law_ends_of_walk : MS := (sSeq (sAsg (eF (fDictT (aCons (eF (fLc (cmI (iZp (aCons (eOp fSubs (eV 0) (eC (.int 1))) (aCons (eV 1) aNil))) [8, 9] (gTupD 2 (gsCons (setD 8) (gsCons (setD 9) gsNil))) tYesM (mLc (eTup (aCons (eTup (aCons (eOp fSubs (eV 8) (eC (.int 0))) (aCons (eOp fSubs (eV 8) (eC (.int 1))) aNil))) (aCons (eV 9) aNil))))))) aNil))) (setD 3))
  (sSeq (sAsgR 4 (fDK false))
  (sSeq (sForD (iRg1 (aCons (eOp fSubs (eV 0) (eC (.int 0))) aNil)) (setD 5) (sSeq (sAsg (eV 5) (setD 6))
  (sSeq (sForD (iAny (eV 2)) (setD 7) (sAsg (eIf (tOfE (eIsN true (eV 6))) (eGet1 (eV 3) (eTup (aCons (eV 6) (aCons (eV 7) aNil)))) (eC .none)) (setD 6)))
  (sIf (tOfE (eIsN true (eV 6))) (sSetI 4 (eV 6) (eV 5)) sNext))))
  (sRet (eV 4)))))
noncomputable def F_law_ends_of_walk : FV := mDef 3 10 m_law_ends_of_walk
theorem ok_law_ends_of_walk {P : Program} {w : World} {K : PySem.W.Frag} {mg : Str → Option Value} {base : Heap} {f : Addr} {fd : FuncData} (F : FnP K "_law_ends_of_walk" s_law_ends_of_walk f fd) (B : Bi mg) :
    FnG P w K mg base CX0 1 f fd ["_law_web_here", "_law_world_here", "_law_row"] (spV K F_law_ends_of_walk) := by
  refine okGN F sc_law_ends_of_walk (fun vs H Q E h => spV_len h) (fun cdv A outer s H vs Q E hg hr h => ?_)
  exact ⟨_, (pss_cons (ps_set (i := 3) sc_law_ends_of_walk.nd rfl (Or.inl rfl) (pe_callTy (call_dictT rfl (hu5_of hr)) (by rfl) B.dict (by decide +kernel) (pa_cons (pe_lc (own := [("_law_post", 8), ("_law_arm", 9)]) (g := (gTup K 2 (gCons (gName 8) (gCons (gName 9) gNil)))) (tt := tYes) rfl sc_law_ends_of_walk.nd (RZ.pi_zipA (by rfl) B.zip (pa_cons (pe_orE (pe_ix ix_any (pv 0) pe_int (fun _ _ => rfl)) (pe_dget (hu_of hr) (pv 0) pe_int (fun _ _ => rfl))) (pa_cons (pv 1) pa_nil))) (blkOk_by (own := [("_law_post", 8), ("_law_arm", 9)]) (N := ["_law_web_here", "_law_world_here", "_law_row", "_law_arms", "_law_found", "_law_crossing", "_law_here", "_law_name", "_law_post", "_law_arm"]) (sc := defScope s_law_ends_of_walk) (by decide +kernel)) (fun _ _ _ _ _ => (pg_tup rfl (pgs_cons (pg_name (i := 8) sc_law_ends_of_walk.nd rfl (Or.inl rfl)) (pgs_cons (pg_name (i := 9) sc_law_ends_of_walk.nd rfl (Or.inl rfl)) pgs_nil)))) (fun _ _ _ _ _ => pts_nil) (fun _ _ _ _ _ => (pe_tup (pa_cons (pe_tup (pa_cons (pe_orE (pe_ix ix_any (pv 8) pe_int (fun _ _ => rfl)) (pe_dget (hu_of hr) (pv 8) pe_int (fun _ _ => rfl))) (pa_cons (pe_orE (pe_ix ix_any (pv 8) pe_int (fun _ _ => rfl)) (pe_dget (hu_of hr) (pv 8) pe_int (fun _ _ => rfl))) pa_nil))) (pa_cons (pv 9) pa_nil))))) pa_nil)))
      (pss_cons (ps_set (i := 4) sc_law_ends_of_walk.nd rfl (Or.inl rfl) pe_dnewK)
      (pss_cons (ps_for PassesOwn.never rfl (pi_range1 (by rfl) B.range (pa_cons (pe_orE (pe_ix ix_any (pv 0) pe_int (fun _ _ => rfl)) (pe_dget (hu_of hr) (pv 0) pe_int (fun _ _ => rfl))) pa_nil)) (pg_name (i := 5) sc_law_ends_of_walk.nd rfl (Or.inl rfl)) (pss_cons (ps_set (i := 6) sc_law_ends_of_walk.nd rfl (Or.inl rfl) (pv 5))
      (pss_cons (ps_for PassesOwn.never rfl (pi_any (K := K) rfl (pv 2)) (pg_name (i := 7) sc_law_ends_of_walk.nd rfl (Or.inl rfl)) (pss_one (ps_set (i := 6) sc_law_ends_of_walk.nd rfl (Or.inl rfl) (pe_ifExp (pt_cmp (pc_notN (pv 6))) (pe_dget1 (hu_of hr) (pv 3) (pe_tup (pa_cons (pv 6) (pa_cons (pv 7) pa_nil))) ⟨rfl, rfl, rfl, rfl⟩) pe_non))))
      (pss_one (ps_if (pt_cmp (pc_notN (pv 6))) (pss_one (ps_orS (ps_asg (pv 6) (pg_sub (pv 4) (pv 5) set_list)) (ps_dput (hu_of hr) (pv 4) (pv 5) (pv 6) (by rfl)))) pss_nil)))))
      (pss_one (ps_ret (pv 4)))))), body_ok ((ref_seq (ref_asg (ref_F (ref_fDictT (ref_cons (ref_F (ref_lc (ref_iZip (ref_cons (ref_sub ref_var ref_int) (ref_cons ref_var ref_nil))) (ref_bTup (ref_bCons (ref_bName (by decide)) (ref_bCons (ref_bName (by decide)) ref_bNil))) ref_yes (ref_tup (ref_cons (ref_tup (ref_cons (ref_sub ref_var ref_int) (ref_cons (ref_sub ref_var ref_int) ref_nil))) (ref_cons ref_var ref_nil))))) ref_nil))) ref_gName)
      (ref_seq (ref_asgR ref_fDK)
      (ref_seq (ref_for (ref_iRg1 (ref_cons (ref_sub ref_var ref_int) ref_nil)) ref_gName (ref_seq (ref_asg ref_var ref_gName)
      (ref_seq (ref_for (ref_iAny ref_var) ref_gName (ref_asg (ref_if (ref_tB (ref_notN ref_var)) (ref_get1 ref_var (ref_tup (ref_cons ref_var (ref_cons ref_var ref_nil)))) ref_non) ref_gName))
      (ref_ifS (ref_tB (ref_notN ref_var)) (ref_setI ref_var ref_var) ref_next))))
      (ref_ret ref_var))))) (by decide) h⟩
abbrev s_law_fails : Stmt := topS 27
theorem sc_law_fails : FnScope ["_law_web_here", "_law_world_here", "_law_row", "_law_asking_here", "_law_found", "_law_crossing"] ["_law_web_here", "_law_world_here", "_law_row", "_law_asking_here"] (defScope s_law_fails) := ⟨rfl, rfl, rfl, by decide +kernel, rfl, by decide +kernel, by decide +kernel⟩
noncomputable def m_law_fails : MS := (sSeq (sAsg (eCall F_law_ends_of_walk [] (aCons (eV 0) (aCons (eV 1) (aCons (eV 2) aNil)))) (setD 4))
  (sSeq (sIf (tOfE (eOp fEqS (eOp fSubs (eV 3) (eC (.int 0))) (eC (.str (Str.ofString "somewhere"))))) (sRet (eEmp false (eV 4))) sNext)
  (sSeq (sIf (tOfE (eOp fEqS (eOp fSubs (eV 3) (eC (.int 0))) (eC (.str (Str.ofString "from"))))) (sRet (eOp (fIn true) (eOp fSubs (eV 3) (eC (.int 1))) (eV 4))) sNext)
  (sSeq (sIf (tOfE (eOp fEqS (eOp fSubs (eV 3) (eC (.int 0))) (eC (.str (Str.ofString "into"))))) (sRet (eNot (eCB fAny (aCons (eF (fLc (cmI (iAny (eV 4)) [5] (setD 5) tYesM (mLc (eOp (fIn false) (eOp fSubs (eV 4) (eV 5)) (eOp fSubs (eV 3) (eC (.int 1)))))))) aNil)))) sNext)
  (sRet (eNot (eCB fAny (aCons (eF (fLc (cmI (iAny (eOp fSubs (eV 3) (eC (.int 1)))) [5] (setD 5) tYesM (mLc (eOp (fIn false) (eV 5) (eV 4)))))) aNil))))))))
noncomputable def F_law_fails : FV := mDef 4 6 m_law_fails
theorem ok_law_fails {P : Program} {w : World} {K : PySem.W.Frag} {mg : Str → Option Value} {base : Heap} {f : Addr} {fd : FuncData} (F : FnP K "_law_fails" s_law_fails f fd) (B : Bi mg) (c_law_ends_of_walk : ClG P w K mg base 1 "_law_ends_of_walk" ["_law_web_here", "_law_world_here", "_law_row"] (spV K F_law_ends_of_walk)) :
    FnG P w K mg base CX0 2 f fd ["_law_web_here", "_law_world_here", "_law_row", "_law_asking_here"] (spV K F_law_fails) := by
  refine okGN F sc_law_fails (fun vs H Q E h => spV_len h) (fun cdv A outer s H vs Q E hg hr h => ?_)
  exact ⟨_, (pss_cons (ps_set (i := 4) sc_law_fails.nd rfl (Or.inr rfl) (pe_clG c_law_ends_of_walk hg hr (by decide) (by rfl) (pa_cons (pv 0) (pa_cons (pv 1) (pa_cons (pv 2) pa_nil)))))
      (pss_cons (ps_if (pt_cmpR (op_eqK (K := K) rfl (hu64_of hr)) (pe_orE (pe_ix ix_any (pv 3) pe_int (fun _ _ => rfl)) (pe_dget (hu_of hr) (pv 3) pe_int (fun _ _ => rfl))) pe_str (nomark _)) (pss_one (ps_ret (pe_cmpR (op_eqEmp (hu_of hr)) (pv 4) pe_dnewK (nomark _)))) pss_nil)
      (pss_cons (ps_if (pt_cmpR (op_eqK (K := K) rfl (hu64_of hr)) (pe_orE (pe_ix ix_any (pv 3) pe_int (fun _ _ => rfl)) (pe_dget (hu_of hr) (pv 3) pe_int (fun _ _ => rfl))) pe_str (nomark _)) (pss_one (ps_ret (pe_orE (pe_cmpR (op_notInA (K := K) rfl (hu65_of hr)) (pe_orE (pe_ix ix_any (pv 3) pe_int (fun _ _ => rfl)) (pe_dget (hu_of hr) (pv 3) pe_int (fun _ _ => rfl))) (pv 4) rfl) (pe_cmp (pc_dnotin (hu_of hr) (pe_orE (pe_ix ix_any (pv 3) pe_int (fun _ _ => rfl)) (pe_dget (hu_of hr) (pv 3) pe_int (fun _ _ => rfl))) (pv 4)))))) pss_nil)
      (pss_cons (ps_if (pt_cmpR (op_eqK (K := K) rfl (hu64_of hr)) (pe_orE (pe_ix ix_any (pv 3) pe_int (fun _ _ => rfl)) (pe_dget (hu_of hr) (pv 3) pe_int (fun _ _ => rfl))) pe_str (nomark _)) (pss_one (ps_ret (pe_not (pe_callB (any_H rfl) (by rfl) B.any (by decide +kernel) (pa_cons (pe_lc (own := [("_law_crossing", 5)]) (g := (gName 5)) (tt := tYes) rfl sc_law_fails.nd (pi_any (K := K) rfl (pv 4)) (blkOk_by (own := [("_law_crossing", 5)]) (N := ["_law_web_here", "_law_world_here", "_law_row", "_law_asking_here", "_law_found", "_law_crossing"]) (sc := defScope s_law_fails) (by decide +kernel)) (fun _ _ _ _ _ => (pg_name (i := 5) sc_law_fails.nd rfl (Or.inl rfl))) (fun _ _ _ _ _ => pts_nil) (fun _ _ _ _ _ => (pe_orE (pe_cmpR (op_inA (K := K) rfl (hu65_of hr)) (pe_orE (pe_ix ix_any (pv 4) (pv 5) (fun _ _ => rfl)) (pe_dget (hu_of hr) (pv 4) (pv 5) (fun _ _ => rfl))) (pe_orE (pe_ix ix_any (pv 3) pe_int (fun _ _ => rfl)) (pe_dget (hu_of hr) (pv 3) pe_int (fun _ _ => rfl))) rfl) (pe_cmp (pc_din (hu_of hr) (pe_orE (pe_ix ix_any (pv 4) (pv 5) (fun _ _ => rfl)) (pe_dget (hu_of hr) (pv 4) (pv 5) (fun _ _ => rfl))) (pe_orE (pe_ix ix_any (pv 3) pe_int (fun _ _ => rfl)) (pe_dget (hu_of hr) (pv 3) pe_int (fun _ _ => rfl)))))))) pa_nil))))) pss_nil)
      (pss_one (ps_ret (pe_not (pe_callB (any_H rfl) (by rfl) B.any (by decide +kernel) (pa_cons (pe_lc (own := [("_law_crossing", 5)]) (g := (gName 5)) (tt := tYes) rfl sc_law_fails.nd (pi_any (K := K) rfl (pe_orE (pe_ix ix_any (pv 3) pe_int (fun _ _ => rfl)) (pe_dget (hu_of hr) (pv 3) pe_int (fun _ _ => rfl)))) (blkOk_by (own := [("_law_crossing", 5)]) (N := ["_law_web_here", "_law_world_here", "_law_row", "_law_asking_here", "_law_found", "_law_crossing"]) (sc := defScope s_law_fails) (by decide +kernel)) (fun _ _ _ _ _ => (pg_name (i := 5) sc_law_fails.nd rfl (Or.inl rfl))) (fun _ _ _ _ _ => pts_nil) (fun _ _ _ _ _ => (pe_orE (pe_cmpR (op_inA (K := K) rfl (hu65_of hr)) (pv 5) (pv 4) rfl) (pe_cmp (pc_din (hu_of hr) (pv 5) (pv 4)))))) pa_nil))))))))), body_ok ((ref_seq (ref_asg (ref_call .nil (ref_cons ref_var (ref_cons ref_var (ref_cons ref_var ref_nil)))) ref_gName)
      (ref_seq (ref_ifS (ref_test (ref_op rr_eq (ref_sub ref_var ref_int) (ref_str (by decide +kernel)))) (ref_ret (ref_emp ref_var)) ref_next)
      (ref_seq (ref_ifS (ref_test (ref_op rr_eq (ref_sub ref_var ref_int) (ref_str (by decide +kernel)))) (ref_ret (ref_in_ rfl (ref_sub ref_var ref_int) ref_var)) ref_next)
      (ref_seq (ref_ifS (ref_test (ref_op rr_eq (ref_sub ref_var ref_int) (ref_str (by decide +kernel)))) (ref_ret (ref_notV (ref_cb rr_any (ref_cons (ref_F (ref_lc (ref_iAny ref_var) (ref_bName (by decide)) ref_yes (ref_in_ rfl (ref_sub ref_var ref_var) (ref_sub ref_var ref_int)))) ref_nil)))) ref_next)
      (ref_ret (ref_notV (ref_cb rr_any (ref_cons (ref_F (ref_lc (ref_iAny (ref_sub ref_var ref_int)) (ref_bName (by decide)) ref_yes (ref_in_ rfl ref_var ref_var))) ref_nil))))))))) (by decide) h⟩
abbrev s_law_asking : Stmt := topS 28
theorem sc_law_asking : FnScope ["_law_pot_here", "_law_n", "_law_some", "_law_ways", "_law_crossing"] ["_law_pot_here", "_law_n"] (defScope s_law_asking) := ⟨rfl, rfl, rfl, by decide +kernel, rfl, by decide +kernel, by decide +kernel⟩
noncomputable def m_law_asking : MS := (sSeq (sAsg (eCB fTuple (aCons (eF (fLc (cmI (iRg1 (aCons (eV 1) aNil)) [4] (setD 4) (tOfE (eOp fEqS (eCall F_law_take [] (aCons (eV 0) (aCons (eC (.int 2)) aNil))) (eC (.int 0)))) (mLc (eV 4))))) aNil)) (setD 2))
  (sSeq (sAsg (eF (fLst (aCons (eTup (aCons (eC (.str (Str.ofString "somewhere"))) aNil)) (aCons (eTup (aCons (eC (.str (Str.ofString "from"))) (aCons (eCall F_law_take [] (aCons (eV 0) (aCons (eV 1) aNil))) aNil))) (aCons (eTup (aCons (eC (.str (Str.ofString "into"))) (aCons (eV 2) aNil))) (aCons (eTup (aCons (eC (.str (Str.ofString "among"))) (aCons (eV 2) aNil))) aNil)))))) (setD 3))
  (sRet (eCall F_law_of [] (aCons (eV 0) (aCons (eV 3) aNil))))))
noncomputable def F_law_asking : FV := mDef 2 5 m_law_asking
theorem ok_law_asking {P : Program} {w : World} {K : PySem.W.Frag} {mg : Str → Option Value} {base : Heap} {f : Addr} {fd : FuncData} (F : FnP K "_law_asking" s_law_asking f fd) (B : Bi mg) (c_law_of : ClG P w K mg base 2 "_law_of" ["_law_pot_here", "_law_some"] (spV K F_law_of)) (c_law_take : ClG P w K mg base 1 "_law_take" ["_law_pot_here", "_law_upto"] (spV K F_law_take)) :
    FnG P w K mg base CX0 3 f fd ["_law_pot_here", "_law_n"] (spV K F_law_asking) := by
  refine okGN F sc_law_asking (fun vs H Q E h => spV_len h) (fun cdv A outer s H vs Q E hg hr h => ?_)
  exact ⟨_, (pss_cons (ps_set (i := 2) sc_law_asking.nd rfl (Or.inl rfl) (pe_callTy tuple_any (by rfl) B.tuple (by decide +kernel) (pa_cons (pe_lc (own := [("_law_crossing", 4)]) (g := (gName 4)) rfl sc_law_asking.nd (pi_range1 (by rfl) B.range (pa_cons (pv 1) pa_nil)) (blkOk_by (own := [("_law_crossing", 4)]) (N := ["_law_pot_here", "_law_n", "_law_some", "_law_ways", "_law_crossing"]) (sc := defScope s_law_asking) (by decide +kernel)) (fun _ _ _ _ _ => (pg_name (i := 4) sc_law_asking.nd rfl (Or.inl rfl))) (fun _ _ _ _ _ => (pts_one (pt_cmpR (op_eqK (K := K) rfl (hu64_of hr)) (pe_clG c_law_take hg hr (by decide) (by rfl) (pa_cons (pv 0) (pa_cons pe_int pa_nil))) pe_int (nomark _)))) (fun _ _ _ _ _ => (pv 4))) pa_nil)))
      (pss_cons (ps_set (i := 3) sc_law_asking.nd rfl (Or.inl rfl) (pe_lst (pa_cons (pe_tup (pa_cons pe_str pa_nil)) (pa_cons (pe_tup (pa_cons pe_str (pa_cons (pe_clG c_law_take hg hr (by decide) (by rfl) (pa_cons (pv 0) (pa_cons (pv 1) pa_nil))) pa_nil))) (pa_cons (pe_tup (pa_cons pe_str (pa_cons (pv 2) pa_nil))) (pa_cons (pe_tup (pa_cons pe_str (pa_cons (pv 2) pa_nil))) pa_nil))))))
      (pss_one (ps_ret (pe_clG c_law_of hg hr (by decide) (by rfl) (pa_cons (pv 0) (pa_cons (pv 3) pa_nil))))))), body_ok ((ref_seq (ref_asg (ref_cb rr_tuple (ref_cons (ref_F (ref_lc (ref_iRg1 (ref_cons ref_var ref_nil)) (ref_bName (by decide)) (ref_test (ref_op rr_eq (ref_call .nil (ref_cons ref_var (ref_cons ref_int ref_nil))) ref_int)) ref_var)) ref_nil)) ref_gName)
      (ref_seq (ref_asg (ref_F (ref_fLst (ref_cons (ref_tup (ref_cons (ref_str (by decide +kernel)) ref_nil)) (ref_cons (ref_tup (ref_cons (ref_str (by decide +kernel)) (ref_cons (ref_call .nil (ref_cons ref_var (ref_cons ref_var ref_nil))) ref_nil))) (ref_cons (ref_tup (ref_cons (ref_str (by decide +kernel)) (ref_cons ref_var ref_nil))) (ref_cons (ref_tup (ref_cons (ref_str (by decide +kernel)) (ref_cons ref_var ref_nil))) ref_nil)))))) ref_gName)
      (ref_ret (ref_call .nil (ref_cons ref_var (ref_cons ref_var ref_nil))))))) (by decide) h⟩
abbrev s_law_near : Stmt := topS 29
theorem sc_law_near : FnScope ["_law_pot_here", "_law_n", "_law_asking_here", "_law_some"] ["_law_pot_here", "_law_n", "_law_asking_here"] (defScope s_law_near) := ⟨rfl, rfl, rfl, by decide +kernel, rfl, by decide +kernel, by decide +kernel⟩
noncomputable def m_law_near : MS := (sSeq (sAsg (eF (fLst (aCons (eOp fSubs (eV 2) (eC (.int 0))) (aCons (eF (fLst (aCons (eOp fSubs (eV 2) (eC (.int 0))) aNil))) (aCons (eTup (aCons (eC (.str (Str.ofString "nowhere"))) aNil)) (aCons (eTup aNil) (aCons (eC .none) (aCons (eTup (aCons (eC (.str (Str.ofString "somewhere"))) (aCons (eC (.int 0)) aNil))) (aCons (eTup (aCons (eC (.str (Str.ofString "from"))) aNil)) (aCons (eTup (aCons (eC (.str (Str.ofString "from"))) (aCons (eTup (aCons (eC (.int 0)) aNil)) aNil))) (aCons (eTup (aCons (eC (.str (Str.ofString "into"))) (aCons (eC (.int 0)) aNil))) aNil))))))))))) (setD 3))
  (sSeq (sAsg (eOp fAdd (eV 3) (eF (fLst (aCons (eTup (aCons (eC (.str (Str.ofString "from"))) (aCons (eV 1) aNil))) (aCons (eTup (aCons (eC (.str (Str.ofString "from"))) (aCons (eUn fNeg (eC (.int 1))) aNil))) (aCons (eTup (aCons (eC (.str (Str.ofString "from"))) (aCons (eC (.bool true)) aNil))) (aCons (eTup (aCons (eC (.str (Str.ofString "among"))) (aCons (eF (fLst (aCons (eC (.int 0)) aNil))) aNil))) (aCons (eTup (aCons (eC (.str (Str.ofString "into"))) (aCons (eTup (aCons (eC (.int 0)) (aCons (eC (.int 0)) aNil))) aNil))) (aCons (eTup (aCons (eC (.str (Str.ofString "among"))) (aCons (eTup (aCons (eC (.int 1)) (aCons (eC (.int 0)) aNil))) aNil))) aNil))))))))) (setD 3))
  (sSeq (sAsg (eOp fAdd (eV 3) (eF (fLst (aCons (eTup (aCons (eC (.str (Str.ofString "into"))) (aCons (eTup (aCons (eC (.int 0)) (aCons (eV 1) aNil))) aNil))) (aCons (eTup (aCons (eC (.str (Str.ofString "into"))) (aCons (eC .none) aNil))) (aCons (eTup (aCons (eC (.str (Str.ofString "among"))) aNil)) (aCons (eTup (aCons (eC (.str (Str.ofString "into"))) (aCons (eTup (aCons (eC (.bool false)) aNil)) aNil))) aNil))))))) (setD 3))
  (sSeq (sAsg (eOp fAdd (eV 3) (eF (fLst (aCons (eOp fAdd (eV 2) (eTup (aCons (eC (.int 0)) aNil))) (aCons (eF (fListM (aCons (eV 2) aNil))) (aCons (eV 2) aNil)))))) (setD 3))
  (sRet (eCall F_law_of [] (aCons (eV 0) (aCons (eOp fAdd (eV 3) (eF (fLst (aCons (eTup (aCons (eC (.str (Str.ofString "into"))) (aCons (eTup (aCons (eC (.int 0)) aNil)) aNil))) (aCons (eTup (aCons (eC (.str (Str.ofString "among"))) (aCons (eTup aNil) aNil))) (aCons (eTup (aCons (eC (.str (Str.ofString "from"))) (aCons (eOp fSub (eV 1) (eC (.int 1))) aNil))) (aCons (eTup (aCons (eC (.int 0)) aNil)) (aCons (eTup (aCons (eTup (aCons (eC (.str (Str.ofString "from"))) aNil)) (aCons (eC (.int 0)) aNil))) (aCons (eF (fDisp (dpCons (eC (.str (Str.ofString "from"))) (eC (.int 0)) dpNil))) aNil))))))))) aNil))))))))
noncomputable def F_law_near : FV := mDef 3 4 m_law_near
theorem ok_law_near {P : Program} {w : World} {K : PySem.W.Frag} {mg : Str → Option Value} {base : Heap} {f : Addr} {fd : FuncData} (F : FnP K "_law_near" s_law_near f fd) (B : Bi mg) (c_law_of : ClG P w K mg base 2 "_law_of" ["_law_pot_here", "_law_some"] (spV K F_law_of)) :
    FnG P w K mg base CX0 3 f fd ["_law_pot_here", "_law_n", "_law_asking_here"] (spV K F_law_near) := by
  refine okGN F sc_law_near (fun vs H Q E h => spV_len h) (fun cdv A outer s H vs Q E hg hr h => ?_)
  exact ⟨_, (pss_cons (ps_set (i := 3) sc_law_near.nd rfl (Or.inl rfl) (pe_lst (pa_cons (pe_orE (pe_ix ix_any (pv 2) pe_int (fun _ _ => rfl)) (pe_dget (hu_of hr) (pv 2) pe_int (fun _ _ => rfl))) (pa_cons (pe_lst (pa_cons (pe_orE (pe_ix ix_any (pv 2) pe_int (fun _ _ => rfl)) (pe_dget (hu_of hr) (pv 2) pe_int (fun _ _ => rfl))) pa_nil)) (pa_cons (pe_tup (pa_cons pe_str pa_nil)) (pa_cons (pe_tup pa_nil) (pa_cons pe_non (pa_cons (pe_tup (pa_cons pe_str (pa_cons pe_int pa_nil))) (pa_cons (pe_tup (pa_cons pe_str pa_nil)) (pa_cons (pe_tup (pa_cons pe_str (pa_cons (pe_tup (pa_cons pe_int pa_nil)) pa_nil))) (pa_cons (pe_tup (pa_cons pe_str (pa_cons pe_int pa_nil))) pa_nil)))))))))))
      (pss_cons (ps_set (i := 3) sc_law_near.nd rfl (Or.inl rfl) (pe_op op_addA (pv 3) (pe_lst (pa_cons (pe_tup (pa_cons pe_str (pa_cons (pv 1) pa_nil))) (pa_cons (pe_tup (pa_cons pe_str (pa_cons (pe_un un_neg pe_int) pa_nil))) (pa_cons (pe_tup (pa_cons pe_str (pa_cons pe_bl pa_nil))) (pa_cons (pe_tup (pa_cons pe_str (pa_cons (pe_lst (pa_cons pe_int pa_nil)) pa_nil))) (pa_cons (pe_tup (pa_cons pe_str (pa_cons (pe_tup (pa_cons pe_int (pa_cons pe_int pa_nil))) pa_nil))) (pa_cons (pe_tup (pa_cons pe_str (pa_cons (pe_tup (pa_cons pe_int (pa_cons pe_int pa_nil))) pa_nil))) pa_nil)))))))))
      (pss_cons (ps_set (i := 3) sc_law_near.nd rfl (Or.inl rfl) (pe_op op_addA (pv 3) (pe_lst (pa_cons (pe_tup (pa_cons pe_str (pa_cons (pe_tup (pa_cons pe_int (pa_cons (pv 1) pa_nil))) pa_nil))) (pa_cons (pe_tup (pa_cons pe_str (pa_cons pe_non pa_nil))) (pa_cons (pe_tup (pa_cons pe_str pa_nil)) (pa_cons (pe_tup (pa_cons pe_str (pa_cons (pe_tup (pa_cons pe_bl pa_nil)) pa_nil))) pa_nil)))))))
      (pss_cons (ps_set (i := 3) sc_law_near.nd rfl (Or.inl rfl) (pe_op op_addA (pv 3) (pe_lst (pa_cons (pe_op op_addA (pv 2) (pe_tup (pa_cons pe_int pa_nil))) (pa_cons (pe_callTy (list_any rfl) (by rfl) B.list (by decide +kernel) (pa_cons (pv 2) pa_nil)) (pa_cons (pv 2) pa_nil))))))
      (pss_one (ps_ret (pe_clG c_law_of hg hr (by decide) (by rfl) (pa_cons (pv 0) (pa_cons (pe_op op_addA (pv 3) (pe_lst (pa_cons (pe_tup (pa_cons pe_str (pa_cons (pe_tup (pa_cons pe_int pa_nil)) pa_nil))) (pa_cons (pe_tup (pa_cons pe_str (pa_cons (pe_tup pa_nil) pa_nil))) (pa_cons (pe_tup (pa_cons pe_str (pa_cons (pe_op op_sub (pv 1) pe_int) pa_nil))) (pa_cons (pe_tup (pa_cons pe_int pa_nil)) (pa_cons (pe_tup (pa_cons (pe_tup (pa_cons pe_str pa_nil)) (pa_cons pe_int pa_nil))) (pa_cons (pe_disp (pps_cons pe_str pe_int pps_nil) (by rfl) (by rfl) (fun z => by cases z) (by decide)) pa_nil)))))))) pa_nil))))))))), body_ok ((ref_seq (ref_asg (ref_F (ref_fLst (ref_cons (ref_sub ref_var ref_int) (ref_cons (ref_F (ref_fLst (ref_cons (ref_sub ref_var ref_int) ref_nil))) (ref_cons (ref_tup (ref_cons (ref_str (by decide +kernel)) ref_nil)) (ref_cons (ref_tup ref_nil) (ref_cons ref_non (ref_cons (ref_tup (ref_cons (ref_str (by decide +kernel)) (ref_cons ref_int ref_nil))) (ref_cons (ref_tup (ref_cons (ref_str (by decide +kernel)) ref_nil)) (ref_cons (ref_tup (ref_cons (ref_str (by decide +kernel)) (ref_cons (ref_tup (ref_cons ref_int ref_nil)) ref_nil))) (ref_cons (ref_tup (ref_cons (ref_str (by decide +kernel)) (ref_cons ref_int ref_nil))) ref_nil))))))))))) ref_gName)
      (ref_seq (ref_asg (ref_op rr_add ref_var (ref_F (ref_fLst (ref_cons (ref_tup (ref_cons (ref_str (by decide +kernel)) (ref_cons ref_var ref_nil))) (ref_cons (ref_tup (ref_cons (ref_str (by decide +kernel)) (ref_cons (ref_un rr_neg ref_int) ref_nil))) (ref_cons (ref_tup (ref_cons (ref_str (by decide +kernel)) (ref_cons ref_bl ref_nil))) (ref_cons (ref_tup (ref_cons (ref_str (by decide +kernel)) (ref_cons (ref_F (ref_fLst (ref_cons ref_int ref_nil))) ref_nil))) (ref_cons (ref_tup (ref_cons (ref_str (by decide +kernel)) (ref_cons (ref_tup (ref_cons ref_int (ref_cons ref_int ref_nil))) ref_nil))) (ref_cons (ref_tup (ref_cons (ref_str (by decide +kernel)) (ref_cons (ref_tup (ref_cons ref_int (ref_cons ref_int ref_nil))) ref_nil))) ref_nil))))))))) ref_gName)
      (ref_seq (ref_asg (ref_op rr_add ref_var (ref_F (ref_fLst (ref_cons (ref_tup (ref_cons (ref_str (by decide +kernel)) (ref_cons (ref_tup (ref_cons ref_int (ref_cons ref_var ref_nil))) ref_nil))) (ref_cons (ref_tup (ref_cons (ref_str (by decide +kernel)) (ref_cons ref_non ref_nil))) (ref_cons (ref_tup (ref_cons (ref_str (by decide +kernel)) ref_nil)) (ref_cons (ref_tup (ref_cons (ref_str (by decide +kernel)) (ref_cons (ref_tup (ref_cons ref_bl ref_nil)) ref_nil))) ref_nil))))))) ref_gName)
      (ref_seq (ref_asg (ref_op rr_add ref_var (ref_F (ref_fLst (ref_cons (ref_op rr_add ref_var (ref_tup (ref_cons ref_int ref_nil))) (ref_cons (ref_F (ref_fList (ref_cons ref_var ref_nil))) (ref_cons ref_var ref_nil)))))) ref_gName)
      (ref_ret (ref_call .nil (ref_cons ref_var (ref_cons (ref_op rr_add ref_var (ref_F (ref_fLst (ref_cons (ref_tup (ref_cons (ref_str (by decide +kernel)) (ref_cons (ref_tup (ref_cons ref_int ref_nil)) ref_nil))) (ref_cons (ref_tup (ref_cons (ref_str (by decide +kernel)) (ref_cons (ref_tup ref_nil) ref_nil))) (ref_cons (ref_tup (ref_cons (ref_str (by decide +kernel)) (ref_cons (ref_op rr_I ref_var ref_int) ref_nil))) (ref_cons (ref_tup (ref_cons ref_int ref_nil)) (ref_cons (ref_tup (ref_cons (ref_tup (ref_cons (ref_str (by decide +kernel)) ref_nil)) (ref_cons ref_int ref_nil))) (ref_cons (ref_F (ref_fDisp (ref_dpCons (ref_str (by decide +kernel)) ref_int ref_dpNil))) ref_nil))))))))) ref_nil))))))))) (by decide) h⟩
abbrev s_law_is_crossings : Stmt := topS 30
theorem sc_law_is_crossings : FnScope ["_law_n", "_law_thing", "_law_one"] ["_law_n", "_law_thing"] (defScope s_law_is_crossings) := ⟨rfl, rfl, rfl, by decide +kernel, rfl, by decide +kernel, by decide +kernel⟩
noncomputable def m_law_is_crossings : MS := (sSeq (sIf (mNot (mTru (eIsi "tuple" (eV 1)))) (sRet (eC (.bool false))) sNext)
  (sSeq (sIf (mNot (mTru (eCB fAll (aCons (eF (fLc (cmI (iAny (eV 1)) [2] (setD 2) tYesM (mLc (eAnd (eIsi "int" (eV 2)) (eAnd (eNot (eIsi "bool" (eV 2))) (eChain fLe fLt (eC (.int 0)) (eV 2) (eV 0)))))))) aNil)))) (sRet (eC (.bool false))) sNext)
  (sRet (eOp fEqS (eF (fListM (aCons (eV 1) aNil))) (eF (fSortDI (aCons (eF (fDictK (aCons (eF (fLc (cmI (iAny (eV 1)) [2] (setD 2) tYesM (mLc (eTup (aCons (eV 2) (aCons (eC (.bool true)) aNil))))))) aNil))) aNil)))))))
noncomputable def F_law_is_crossings : FV := mDef 2 3 m_law_is_crossings
theorem ok_law_is_crossings {P : Program} {w : World} {K : PySem.W.Frag} {mg : Str → Option Value} {base : Heap} {f : Addr} {fd : FuncData} (F : FnP K "_law_is_crossings" s_law_is_crossings f fd) (B : Bi mg) :
    FnG P w K mg base CX0 1 f fd ["_law_n", "_law_thing"] (spV K F_law_is_crossings) := by
  refine okGN F sc_law_is_crossings (fun vs H Q E h => spV_len h) (fun cdv A outer s H vs Q E hg hr h => ?_)
  exact ⟨_, (pss_cons (ps_if (pt_not (pt_tru (pe_callB (call_isiK (K := K) rfl) (by rfl) B.isinstance (by decide +kernel) (pa_cons (pv 1) (pa_cons (pe_bltn (v := .ty "tuple") (by rfl) B.tuple (by decide +kernel) rfl) pa_nil))))) (pss_one (ps_ret pe_bl)) pss_nil)
      (pss_cons (ps_if (pt_not (pt_tru (pe_callB (all_H rfl) (by rfl) B.all (by decide +kernel) (pa_cons (pe_lc (own := [("_law_one", 2)]) (g := (gName 2)) (tt := tYes) rfl sc_law_is_crossings.nd (pi_any (K := K) rfl (pv 1)) (blkOk_by (own := [("_law_one", 2)]) (N := ["_law_n", "_law_thing", "_law_one"]) (sc := defScope s_law_is_crossings) (by decide +kernel)) (fun _ _ _ _ _ => (pg_name (i := 2) sc_law_is_crossings.nd rfl (Or.inl rfl))) (fun _ _ _ _ _ => pts_nil) (fun _ _ _ _ _ => (pe_and (pe_callB (call_isiK (K := K) rfl) (by rfl) B.isinstance (by decide +kernel) (pa_cons (pv 2) (pa_cons (pe_bltn (v := .ty "int") (by rfl) B.int (by decide +kernel) rfl) pa_nil))) (pe_and (pe_not (pe_callB (call_isiK (K := K) rfl) (by rfl) B.isinstance (by decide +kernel) (pa_cons (pv 2) (pa_cons (pe_bltn (v := .ty "bool") (by rfl) B.bool (by decide +kernel) rfl) pa_nil)))) (pe_one (pe_chain op_le op_lt pe_int (pv 2) (pv 0))))))) pa_nil)))) (pss_one (ps_ret pe_bl)) pss_nil)
      (pss_one (ps_ret (pe_cmpR (op_eqK (K := K) rfl (hu64_of hr)) (pe_callTy (list_any rfl) (by rfl) B.list (by decide +kernel) (pa_cons (pv 1) pa_nil)) (pe_callB (cr_sortDI rfl) (by rfl) B.sorted (by decide +kernel) (pa_cons (pe_callTy (call_dictK rfl) (by rfl) B.dict (by decide +kernel) (pa_cons (pe_lc (own := [("_law_one", 2)]) (g := (gName 2)) (tt := tYes) rfl sc_law_is_crossings.nd (pi_any (K := K) rfl (pv 1)) (blkOk_by (own := [("_law_one", 2)]) (N := ["_law_n", "_law_thing", "_law_one"]) (sc := defScope s_law_is_crossings) (by decide +kernel)) (fun _ _ _ _ _ => (pg_name (i := 2) sc_law_is_crossings.nd rfl (Or.inl rfl))) (fun _ _ _ _ _ => pts_nil) (fun _ _ _ _ _ => (pe_tup (pa_cons (pv 2) (pa_cons pe_bl pa_nil))))) pa_nil)) pa_nil)) (nomark _)))))), body_ok ((ref_seq (ref_ifS (ref_not (ref_tru (ref_isi ref_var))) (ref_ret ref_bl) ref_next)
      (ref_seq (ref_ifS (ref_not (ref_tru (ref_cb rr_all (ref_cons (ref_F (ref_lc (ref_iAny ref_var) (ref_bName (by decide)) ref_yes (ref_andV (ref_isi ref_var) (ref_andV (ref_notV (ref_isi ref_var)) (ref_chain rr_IB rr_IB ref_int ref_var ref_var))))) ref_nil)))) (ref_ret ref_bl) ref_next)
      (ref_ret (ref_op rr_eq (ref_F (ref_fList (ref_cons ref_var ref_nil))) (ref_F (ref_fSortDI (ref_cons (ref_F (ref_fDictK (ref_cons (ref_F (ref_lc (ref_iAny ref_var) (ref_bName (by decide)) ref_yes (ref_tup (ref_cons ref_var (ref_cons ref_bl ref_nil))))) ref_nil))) ref_nil)))))))) (by decide) h⟩
abbrev s_law_is_asking : Stmt := topS 31
theorem sc_law_is_asking : FnScope ["_law_n", "_law_thing"] ["_law_n", "_law_thing"] (defScope s_law_is_asking) := ⟨rfl, rfl, rfl, by decide +kernel, rfl, by decide +kernel, by decide +kernel⟩
noncomputable def m_law_is_asking : MS := (sSeq (sIf (mOr (mNot (mTru (eIsi "tuple" (eV 1)))) (mOr (tOfE (eOp fEqS (eV 1) (eTup aNil))) (mNot (mTru (eIsi "str" (eOp fSubs (eV 1) (eC (.int 0)))))))) (sRet (eC (.bool false))) sNext)
  (sSeq (sIf (tOfE (eOp fEqS (eOp fSubs (eV 1) (eC (.int 0))) (eC (.str (Str.ofString "somewhere"))))) (sRet (eOp fEqS (eCB fLenB (aCons (eV 1) aNil)) (eC (.int 1)))) sNext)
  (sSeq (sIf (tOfE (eOp fNeS (eCB fLenB (aCons (eV 1) aNil)) (eC (.int 2)))) (sRet (eC (.bool false))) sNext)
  (sSeq (sIf (tOfE (eOp fEqS (eOp fSubs (eV 1) (eC (.int 0))) (eC (.str (Str.ofString "from"))))) (sRet (eCall F_law_is_crossings [] (aCons (eV 0) (aCons (eSl (eV 1) (oSome (eC (.int 1))) oNone) aNil)))) sNext)
  (sRet (eAnd (eOp (fIn false) (eOp fSubs (eV 1) (eC (.int 0))) (eTup (aCons (eC (.str (Str.ofString "into"))) (aCons (eC (.str (Str.ofString "among"))) aNil)))) (eCall F_law_is_crossings [] (aCons (eV 0) (aCons (eOp fSubs (eV 1) (eC (.int 1))) aNil)))))))))
noncomputable def F_law_is_asking : FV := mDef 2 2 m_law_is_asking
theorem ok_law_is_asking {P : Program} {w : World} {K : PySem.W.Frag} {mg : Str → Option Value} {base : Heap} {f : Addr} {fd : FuncData} (F : FnP K "_law_is_asking" s_law_is_asking f fd) (B : Bi mg) (c_law_is_crossings : ClG P w K mg base 1 "_law_is_crossings" ["_law_n", "_law_thing"] (spV K F_law_is_crossings)) :
    FnG P w K mg base CX0 2 f fd ["_law_n", "_law_thing"] (spV K F_law_is_asking) := by
  refine okGN F sc_law_is_asking (fun vs H Q E h => spV_len h) (fun cdv A outer s H vs Q E hg hr h => ?_)
  exact ⟨_, (pss_cons (ps_if ((pw_or (pt_not (pt_tru (pe_callB (call_isiK (K := K) rfl) (by rfl) B.isinstance (by decide +kernel) (pa_cons (pv 1) (pa_cons (pe_bltn (v := .ty "tuple") (by rfl) B.tuple (by decide +kernel) rfl) pa_nil))))) (pw_or (pt_cmpR (op_eqK (K := K) rfl (hu64_of hr)) (pv 1) (pe_tup pa_nil) (nomark _)) (pw_or1 (pt_not (pt_tru (pe_callB (call_isiK (K := K) rfl) (by rfl) B.isinstance (by decide +kernel) (pa_cons (pe_orE (pe_ix ix_any (pv 1) pe_int (fun _ _ => rfl)) (pe_dget (hu_of hr) (pv 1) pe_int (fun _ _ => rfl))) (pa_cons (pe_bltn (v := .ty "str") (by rfl) B.str (by decide +kernel) rfl) pa_nil))))))))).pt (pss_one (ps_ret pe_bl)) pss_nil)
      (pss_cons (ps_if (pt_cmpR (op_eqK (K := K) rfl (hu64_of hr)) (pe_orE (pe_ix ix_any (pv 1) pe_int (fun _ _ => rfl)) (pe_dget (hu_of hr) (pv 1) pe_int (fun _ _ => rfl))) pe_str (nomark _)) (pss_one (ps_ret (pe_cmpR (op_eqK (K := K) rfl (hu64_of hr)) (pe_callB len_all (by rfl) B.len (by decide +kernel) (pa_cons (pv 1) pa_nil)) pe_int (nomark _)))) pss_nil)
      (pss_cons (ps_if (pt_cmpR (op_neK (K := K) rfl (hu64_of hr)) (pe_callB len_all (by rfl) B.len (by decide +kernel) (pa_cons (pv 1) pa_nil)) pe_int (nomark _)) (pss_one (ps_ret pe_bl)) pss_nil)
      (pss_cons (ps_if (pt_cmpR (op_eqK (K := K) rfl (hu64_of hr)) (pe_orE (pe_ix ix_any (pv 1) pe_int (fun _ _ => rfl)) (pe_dget (hu_of hr) (pv 1) pe_int (fun _ _ => rfl))) pe_str (nomark _)) (pss_one (ps_ret (pe_clG c_law_is_crossings hg hr (by decide) (by rfl) (pa_cons (pv 0) (pa_cons (pe_slice sl_any (pv 1) (po_some pe_int) po_none) pa_nil))))) pss_nil)
      (pss_one (ps_ret (pe_and (pe_orE (pe_cmpR (op_inA (K := K) rfl (hu65_of hr)) (pe_orE (pe_ix ix_any (pv 1) pe_int (fun _ _ => rfl)) (pe_dget (hu_of hr) (pv 1) pe_int (fun _ _ => rfl))) (pe_tup (pa_cons pe_str (pa_cons pe_str pa_nil))) rfl) (pe_cmp (pc_din (hu_of hr) (pe_orE (pe_ix ix_any (pv 1) pe_int (fun _ _ => rfl)) (pe_dget (hu_of hr) (pv 1) pe_int (fun _ _ => rfl))) (pe_tup (pa_cons pe_str (pa_cons pe_str pa_nil)))))) (pe_one (pe_clG c_law_is_crossings hg hr (by decide) (by rfl) (pa_cons (pv 0) (pa_cons (pe_orE (pe_ix ix_any (pv 1) pe_int (fun _ _ => rfl)) (pe_dget (hu_of hr) (pv 1) pe_int (fun _ _ => rfl))) pa_nil))))))))))), body_ok ((ref_seq (ref_ifS (ref_or (ref_not (ref_tru (ref_isi ref_var))) (ref_or (ref_test (ref_op rr_eq ref_var (ref_tup ref_nil))) (ref_not (ref_tru (ref_isi (ref_sub ref_var ref_int)))))) (ref_ret ref_bl) ref_next)
      (ref_seq (ref_ifS (ref_test (ref_op rr_eq (ref_sub ref_var ref_int) (ref_str (by decide +kernel)))) (ref_ret (ref_op rr_eq (ref_cb rr_lenB (ref_cons ref_var ref_nil)) ref_int)) ref_next)
      (ref_seq (ref_ifS (ref_test (ref_op rr_ne (ref_cb rr_lenB (ref_cons ref_var ref_nil)) ref_int)) (ref_ret ref_bl) ref_next)
      (ref_seq (ref_ifS (ref_test (ref_op rr_eq (ref_sub ref_var ref_int) (ref_str (by decide +kernel)))) (ref_ret (ref_call .nil (ref_cons ref_var (ref_cons (ref_sl ref_var (ref_oSome ref_int) ref_oNone) ref_nil)))) ref_next)
      (ref_ret (ref_andV (ref_in_ rfl (ref_sub ref_var ref_int) (ref_tup (ref_cons (ref_str (by decide +kernel)) (ref_cons (ref_str (by decide +kernel)) ref_nil)))) (ref_call .nil (ref_cons ref_var (ref_cons (ref_sub ref_var ref_int) ref_nil)))))))))) (by decide) h⟩
abbrev s_law_case_right : Stmt := topS 32
theorem sc_law_case_right : FnScope ["_law_pot_here", "_law_names_here", "_law_n", "_law_web_here", "_law_turn", "_law_world_here", "_law_row", "_law_asking_here", "_law_held", "_law_kinds_due", "_law_thing", "_law_told"] ["_law_pot_here"] (defScope s_law_case_right) := ⟨rfl, rfl, rfl, by decide +kernel, rfl, by decide +kernel, by decide +kernel⟩
noncomputable def m_law_case_right : MS := (sSeq (sPar [1, 2] (aCons (eCall F_law_names [] (aCons (eV 0) (aCons (eOp fAdd (eC (.int 1)) (eCall F_law_take [] (aCons (eV 0) (aCons (eC (.int 3)) aNil)))) aNil))) (aCons (eOp fAdd (eC (.int 1)) (eCall F_law_take [] (aCons (eV 0) (aCons (eC (.int 5)) aNil)))) aNil)))
  (sSeq (sAsg (eCall F_law_web [] (aCons (eV 0) (aCons (eV 2) (aCons (eV 1) (aCons (eC (.int 3)) aNil))))) (setD 3))
  (sSeq (sForD (iRg1 (aCons (eC (.int 6)) aNil)) (setD 4) (sSeq (sPar [5, 6, 7] (aCons (eCall F_law_world [] (aCons (eV 0) (aCons (eV 3) aNil))) (aCons (eCall F_law_word [] (aCons (eV 0) (aCons (eV 1) (aCons (eC (.int 7)) aNil)))) (aCons (eCall F_law_asking [] (aCons (eV 0) (aCons (eV 2) aNil))) aNil))))
  (sSeq (sAsg (eCB fRepr (aCons (eTup (aCons (eV 3) (aCons (eV 5) (aCons (eV 6) (aCons (eV 7) aNil))))) aNil)) (setD 8))
  (sSeq (sIf (tOfE (eOp fNeS (eCB fRepr (aCons (eCall F_fails [] (aCons (eV 3) (aCons (eV 5) (aCons (eV 6) (aCons (eV 7) aNil))))) aNil)) (eCB fRepr (aCons (eCall F_law_fails [] (aCons (eV 3) (aCons (eV 5) (aCons (eV 6) (aCons (eV 7) aNil))))) aNil)))) (sRet (eC (.bool false))) sNext)
  (sSeq (sAsg (eF (fDisp (dpCons (eC (.str (Str.ofString "somewhere"))) (eC (.str (Str.ofString "steady"))) (dpCons (eC (.str (Str.ofString "from"))) (eC (.str (Str.ofString "firm"))) (dpCons (eC (.str (Str.ofString "into"))) (eC (.str (Str.ofString "late"))) (dpCons (eC (.str (Str.ofString "among"))) (eC (.str (Str.ofString "firm"))) dpNil)))))) (setD 9))
  (sSeq (sIf (mOr (tOfE (eOp fNeS (eCall F_wanted [] (aCons (eV 7) aNil)) (eOp fSubs (eV 9) (eOp fSubs (eV 7) (eC (.int 0)))))) (tOfE (eIsB true true (eCall F_is_ask [] (aCons (eV 3) (aCons (eV 7) aNil)))))) (sRet (eC (.bool false))) sNext)
  (sSeq (sAsg (eCall F_law_near [] (aCons (eV 0) (aCons (eV 2) (aCons (eV 7) aNil)))) (setD 10))
  (sSeq (sAsg (eCB fRepr (aCons (eCall F_is_ask [] (aCons (eV 3) (aCons (eV 10) aNil))) aNil)) (setD 11))
  (sIf (mOr (tOfE (eOp fNeS (eV 11) (eCB fRepr (aCons (eCall F_law_is_asking [] (aCons (eV 2) (aCons (eV 10) aNil))) aNil)))) (tOfE (eOp fNeS (eCB fRepr (aCons (eTup (aCons (eV 3) (aCons (eV 5) (aCons (eV 6) (aCons (eV 7) aNil))))) aNil)) (eV 8)))) (sRet (eC (.bool false))) sNext)))))))))
  (sRet (eC (.bool true))))))
noncomputable def F_law_case_right : FV := mDef 1 12 m_law_case_right
theorem ok_law_case_right {P : Program} {w : World} {K : PySem.W.Frag} {mg : Str → Option Value} {base : Heap} {f : Addr} {fd : FuncData} (F : FnP K "_law_case_right" s_law_case_right f fd) (B : Bi mg) (c_law_is_asking : ClG P w K mg base 2 "_law_is_asking" ["_law_n", "_law_thing"] (spV K F_law_is_asking)) (c_is_ask : ClG P w K mg base 4 "is_ask" ["web", "thing"] (spV K F_is_ask)) (c_law_near : ClG P w K mg base 3 "_law_near" ["_law_pot_here", "_law_n", "_law_asking_here"] (spV K F_law_near)) (c_wanted : ClG P w K mg base 1 "wanted" ["ask"] (spV K F_wanted)) (c_fails : ClG P w K mg base 3 "fails" ["web", "world", "word", "ask"] (spV K F_fails)) (c_law_fails : ClG P w K mg base 2 "_law_fails" ["_law_web_here", "_law_world_here", "_law_row", "_law_asking_here"] (spV K F_law_fails)) (c_law_asking : ClG P w K mg base 3 "_law_asking" ["_law_pot_here", "_law_n"] (spV K F_law_asking)) (c_law_word : ClG P w K mg base 3 "_law_word" ["_law_pot_here", "_law_names_here", "_law_most"] (spV K F_law_word)) (c_law_world : ClG P w K mg base 3 "_law_world" ["_law_pot_here", "_law_web_here"] (spV K F_law_world)) (c_law_web : ClG P w K mg base 2 "_law_web" ["_law_pot_here", "_law_n", "_law_names_here", "_law_most"] (spV K F_law_web)) (c_law_take : ClG P w K mg base 1 "_law_take" ["_law_pot_here", "_law_upto"] (spV K F_law_take)) (c_law_names : ClG P w K mg base 3 "_law_names" ["_law_pot_here", "_law_many"] (spV K F_law_names)) :
    FnG P w K mg base CX0 5 f fd ["_law_pot_here"] (spV K F_law_case_right) := by
  refine okGN F sc_law_case_right (fun vs H Q E h => spV_len h) (fun cdv A outer s H vs Q E hg hr h => ?_)
  exact ⟨_, (pss_cons (ps_par (i := 1) (j := 2) rfl sc_law_case_right.nd rfl rfl (by decide) rfl rfl (pa_cons (pe_clG c_law_names hg hr (by decide) (by rfl) (pa_cons (pv 0) (pa_cons (pe_op op_addA pe_int (pe_clG c_law_take hg hr (by decide) (by rfl) (pa_cons (pv 0) (pa_cons pe_int pa_nil)))) pa_nil))) (pa_cons (pe_op op_addA pe_int (pe_clG c_law_take hg hr (by decide) (by rfl) (pa_cons (pv 0) (pa_cons pe_int pa_nil)))) pa_nil)) (by rfl))
      (pss_cons (ps_set (i := 3) sc_law_case_right.nd rfl (Or.inl rfl) (pe_clG c_law_web hg hr (by decide) (by rfl) (pa_cons (pv 0) (pa_cons (pv 2) (pa_cons (pv 1) (pa_cons pe_int pa_nil))))))
      (pss_cons (ps_for PassesOwn.never rfl (pi_range1 (by rfl) B.range (pa_cons pe_int pa_nil)) (pg_name (i := 4) sc_law_case_right.nd rfl (Or.inl rfl)) (pss_cons (ps_par3 (i := 5) (j := 6) (l := 7) rfl sc_law_case_right.nd rfl rfl rfl (by decide) (by decide) (by decide) rfl rfl rfl (pa_cons (pe_clG c_law_world hg hr (by decide) (by rfl) (pa_cons (pv 0) (pa_cons (pv 3) pa_nil))) (pa_cons (pe_clG c_law_word hg hr (by decide) (by rfl) (pa_cons (pv 0) (pa_cons (pv 1) (pa_cons pe_int pa_nil)))) (pa_cons (pe_clG c_law_asking hg hr (by decide) (by rfl) (pa_cons (pv 0) (pa_cons (pv 2) pa_nil))) pa_nil))) (by rfl))
      (pss_cons (ps_set (i := 8) sc_law_case_right.nd rfl (Or.inl rfl) (pe_callB (call_reprD [] hg hr) (by rfl) B.repr (by decide +kernel) (pa_cons (pe_tup (pa_cons (pv 3) (pa_cons (pv 5) (pa_cons (pv 6) (pa_cons (pv 7) pa_nil))))) pa_nil)))
      (pss_cons (ps_if (pt_cmpR (op_neK (K := K) rfl (hu64_of hr)) (pe_callB (call_reprD [] hg hr) (by rfl) B.repr (by decide +kernel) (pa_cons (pe_clG c_fails hg hr (by decide) (by rfl) (pa_cons (pv 3) (pa_cons (pv 5) (pa_cons (pv 6) (pa_cons (pv 7) pa_nil))))) pa_nil)) (pe_callB (call_reprD [] hg hr) (by rfl) B.repr (by decide +kernel) (pa_cons (pe_clG c_law_fails hg hr (by decide) (by rfl) (pa_cons (pv 3) (pa_cons (pv 5) (pa_cons (pv 6) (pa_cons (pv 7) pa_nil))))) pa_nil)) (nomark _)) (pss_one (ps_ret pe_bl)) pss_nil)
      (pss_cons (ps_set (i := 9) sc_law_case_right.nd rfl (Or.inl rfl) (pe_disp (pps_cons pe_str pe_str (pps_cons pe_str pe_str (pps_cons pe_str pe_str (pps_cons pe_str pe_str pps_nil)))) (by rfl) (by rfl) (fun z => by cases z) (by decide)))
      (pss_cons (ps_if ((pw_or (pt_cmpR (op_neK (K := K) rfl (hu64_of hr)) (pe_clG c_wanted hg hr (by decide) (by rfl) (pa_cons (pv 7) pa_nil)) (pe_orE (pe_ix ix_any (pv 9) (pe_orE (pe_ix ix_any (pv 7) pe_int (fun _ _ => rfl)) (pe_dget (hu_of hr) (pv 7) pe_int (fun _ _ => rfl))) (fun _ _ => rfl)) (pe_dget (hu_of hr) (pv 9) (pe_orE (pe_ix ix_any (pv 7) pe_int (fun _ _ => rfl)) (pe_dget (hu_of hr) (pv 7) pe_int (fun _ _ => rfl))) (fun _ _ => rfl))) (nomark _)) (pw_or1 (pt_cmp (pc_isBn (pe_clG c_is_ask hg hr (by decide) (by rfl) (pa_cons (pv 3) (pa_cons (pv 7) pa_nil)))))))).pt (pss_one (ps_ret pe_bl)) pss_nil)
      (pss_cons (ps_set (i := 10) sc_law_case_right.nd rfl (Or.inl rfl) (pe_clG c_law_near hg hr (by decide) (by rfl) (pa_cons (pv 0) (pa_cons (pv 2) (pa_cons (pv 7) pa_nil)))))
      (pss_cons (ps_set (i := 11) sc_law_case_right.nd rfl (Or.inl rfl) (pe_callB (call_reprD [] hg hr) (by rfl) B.repr (by decide +kernel) (pa_cons (pe_clG c_is_ask hg hr (by decide) (by rfl) (pa_cons (pv 3) (pa_cons (pv 10) pa_nil))) pa_nil)))
      (pss_one (ps_if ((pw_or (pt_cmpR (op_neK (K := K) rfl (hu64_of hr)) (pv 11) (pe_callB (call_reprD [] hg hr) (by rfl) B.repr (by decide +kernel) (pa_cons (pe_clG c_law_is_asking hg hr (by decide) (by rfl) (pa_cons (pv 2) (pa_cons (pv 10) pa_nil))) pa_nil)) (nomark _)) (pw_or1 (pt_cmpR (op_neK (K := K) rfl (hu64_of hr)) (pe_callB (call_reprD [] hg hr) (by rfl) B.repr (by decide +kernel) (pa_cons (pe_tup (pa_cons (pv 3) (pa_cons (pv 5) (pa_cons (pv 6) (pa_cons (pv 7) pa_nil))))) pa_nil)) (pv 8) (nomark _))))).pt (pss_one (ps_ret pe_bl)) pss_nil))))))))))
      (pss_one (ps_ret pe_bl))))), body_ok ((ref_seq (ref_par (ref_cons (ref_call .nil (ref_cons ref_var (ref_cons (ref_op rr_add ref_int (ref_call .nil (ref_cons ref_var (ref_cons ref_int ref_nil)))) ref_nil))) (ref_cons (ref_op rr_add ref_int (ref_call .nil (ref_cons ref_var (ref_cons ref_int ref_nil)))) ref_nil)))
      (ref_seq (ref_asg (ref_call .nil (ref_cons ref_var (ref_cons ref_var (ref_cons ref_var (ref_cons ref_int ref_nil))))) ref_gName)
      (ref_seq (ref_for (ref_iRg1 (ref_cons ref_int ref_nil)) ref_gName (ref_seq (ref_par3 (ref_cons (ref_call .nil (ref_cons ref_var (ref_cons ref_var ref_nil))) (ref_cons (ref_call .nil (ref_cons ref_var (ref_cons ref_var (ref_cons ref_int ref_nil)))) (ref_cons (ref_call .nil (ref_cons ref_var (ref_cons ref_var ref_nil))) ref_nil))))
      (ref_seq (ref_asg (ref_cb rr_repr (ref_cons (ref_tup (ref_cons ref_var (ref_cons ref_var (ref_cons ref_var (ref_cons ref_var ref_nil))))) ref_nil)) ref_gName)
      (ref_seq (ref_ifS (ref_test (ref_op rr_ne (ref_cb rr_repr (ref_cons (ref_call .nil (ref_cons ref_var (ref_cons ref_var (ref_cons ref_var (ref_cons ref_var ref_nil))))) ref_nil)) (ref_cb rr_repr (ref_cons (ref_call .nil (ref_cons ref_var (ref_cons ref_var (ref_cons ref_var (ref_cons ref_var ref_nil))))) ref_nil)))) (ref_ret ref_bl) ref_next)
      (ref_seq (ref_asg (ref_F (ref_fDisp (ref_dpCons (ref_str (by decide +kernel)) (ref_str (by decide +kernel)) (ref_dpCons (ref_str (by decide +kernel)) (ref_str (by decide +kernel)) (ref_dpCons (ref_str (by decide +kernel)) (ref_str (by decide +kernel)) (ref_dpCons (ref_str (by decide +kernel)) (ref_str (by decide +kernel)) ref_dpNil)))))) ref_gName)
      (ref_seq (ref_ifS (ref_or (ref_test (ref_op rr_ne (ref_call .nil (ref_cons ref_var ref_nil)) (ref_sub ref_var (ref_sub ref_var ref_int)))) (ref_tB (ref_isB (ref_call .nil (ref_cons ref_var (ref_cons ref_var ref_nil)))))) (ref_ret ref_bl) ref_next)
      (ref_seq (ref_asg (ref_call .nil (ref_cons ref_var (ref_cons ref_var (ref_cons ref_var ref_nil)))) ref_gName)
      (ref_seq (ref_asg (ref_cb rr_repr (ref_cons (ref_call .nil (ref_cons ref_var (ref_cons ref_var ref_nil))) ref_nil)) ref_gName)
      (ref_ifS (ref_or (ref_test (ref_op rr_ne ref_var (ref_cb rr_repr (ref_cons (ref_call .nil (ref_cons ref_var (ref_cons ref_var ref_nil))) ref_nil)))) (ref_test (ref_op rr_ne (ref_cb rr_repr (ref_cons (ref_tup (ref_cons ref_var (ref_cons ref_var (ref_cons ref_var (ref_cons ref_var ref_nil))))) ref_nil)) ref_var))) (ref_ret ref_bl) ref_next)))))))))
      (ref_ret ref_bl))))) (by decide) h⟩
abbrev s_law : Stmt := topS 33
theorem sc_law : FnScope ["_law_script", "_law_k"] ["_law_script"] (defScope s_law) := ⟨rfl, rfl, rfl, by decide +kernel, rfl, by decide +kernel, by decide +kernel⟩
noncomputable def m_law : MS := (sRet (eCB fAll (aCons (eF (fLc (cmI (iRg1 (aCons (eCB fMax (aCons (eC (.int 1)) (aCons (eCB fMin (aCons (eC (.int 3)) (aCons (eScLen 0) aNil))) aNil))) aNil)) [1] (setD 1) tYesM (mLc (eCallO F_law_case_right (fCall F_law_pot [] (aCons (eV 0) (aCons (eV 1) aNil)))))))) aNil)))
noncomputable def F_law : FV := mDef 1 2 m_law
theorem ok_law {P : Program} {w : World} {K : PySem.W.Frag} {mg : Str → Option Value} {base : Heap} {f : Addr} {fd : FuncData} (F : FnP K "law" s_law f fd) (B : Bi mg) (c_law_case_right : ClG P w K mg base 5 "_law_case_right" ["_law_pot_here"] (spV K F_law_case_right)) (c_law_pot : ClG P w K mg base 1 "_law_pot" ["_law_script", "_law_k"] (spV K F_law_pot)) :
    FnG P w K mg base CX0 6 f fd ["_law_script"] (spV K F_law) := by
  refine okGN F sc_law (fun vs H Q E h => spV_len h) (fun cdv A outer s H vs Q E hg hr h => ?_)
  exact ⟨_, (pss_one (ps_ret (pe_callB (all_H rfl) (by rfl) B.all (by decide +kernel) (pa_cons (pe_lc (own := [("_law_k", 1)]) (g := (gName 1)) (tt := tYes) rfl sc_law.nd (pi_range1 (by rfl) B.range (pa_cons (pe_callB (Vm.cr_max rfl) (by rfl) B.max (by decide +kernel) (pa_cons pe_int (pa_cons (pe_callB (Vm.cr_min rfl) (by rfl) B.min (by decide +kernel) (pa_cons pe_int (pa_cons (pe_callB (len_L (K := K) rfl) (by rfl) B.len (by decide +kernel) (pa_cons (pv 0) pa_nil)) pa_nil))) pa_nil))) pa_nil)) (blkOk_by (own := [("_law_k", 1)]) (N := ["_law_script", "_law_k"]) (sc := defScope s_law) (by decide +kernel)) (fun _ _ _ _ _ => (pg_name (i := 1) sc_law.nd rfl (Or.inl rfl))) (fun _ _ _ _ _ => pts_nil) (fun _ _ _ _ _ => (pe_clG c_law_case_right hg hr (by decide) (by rfl) (pa_cons (pe_clG c_law_pot hg hr (by decide) (by rfl) (pa_cons (pv 0) (pa_cons (pv 1) pa_nil))) pa_nil)))) pa_nil)))), body_ok ((ref_ret (ref_cb rr_all (ref_cons (ref_F (ref_lc (ref_iRg1 (ref_cons (ref_cb rr_max (ref_cons ref_int (ref_cons (ref_cb rr_min (ref_cons ref_int (ref_cons ref_scLen ref_nil))) ref_nil))) ref_nil)) (ref_bName (by decide)) ref_yes (ref_callO (ref_fCall .nil (ref_cons ref_var (ref_cons ref_var ref_nil)))))) ref_nil)))) (by decide) h⟩
end K50

namespace K50
open PySem PySem.Spec PyProof.Rows L2 Gk Vm
abbrev MM : Int := 2305843009213693951
structure PotOk (g r : Int) : Prop where
  g0 : 0 ≤ g
  r0 : 0 ≤ r
  r1 : r < MM
abbrev pot (fx : Bool) (g r : Int) : AV := .r fx false (.list [.int g, .int r])
theorem take_ok {fx : Bool} {g r n : Int} (h : PotOk g r) (hn : 0 < n) (hn2 : n < 1073741824) :
    Wp (F_law_take [pot fx g r, .d (.int n)]) fun y => ∃ x g' r', y = (.one (.d (.int x)), [pot fx g' r', .d (.int n)]) ∧ 0 ≤ x ∧ x < n ∧ PotOk g' r' := by
  obtain ⟨g0, r0, r1⟩ := h
  by_cases hg : 0 < g
  · refine ⟨_, ?_, g % n, g / n, r, rfl, Int.emod_nonneg _ (by omega), Int.emod_lt_of_pos _ hn, Int.ediv_nonneg g0 (by omega), r0, r1⟩
    (simp [↓wp_tag, ↓bind_tag, wpD_some, wpD_none, wpD_bind, bindD_some, bindD_none, mDef, startA, AV.fixd, sSeq, sIf, tOfE, eOp, eUn, eCB, aNil, aCons, eV, eC, eF, eTup, ownA, resA, res, AV.see, fSubs, Da.isDict, fIx, atI, ixN, fIB, fGt, fLt, fGe, fLe, fI, fAdd, fSub, fMul, fNeg, sAsg, sSetI, sAsgR, setR, Nw.av, Nw.da, rootAt, AV.asR, own, AV.get, fMod, fDiv, setD, setDa, sRet, sRetF, resRL, resL1, backP, AV.isRoot, AV.isFix, AV.flag, eCall, callM, argsOf, argOf, rootIx, putBack, isS, R1.da, Rv.da, fLen, fLenB, fLst, eScLen, eScIx, fLtA, fAbs, fInt, eBig, fPow, sNext, List.filterMap_cons, List.findIdx?_cons, F_law_take, m_law_take, hg, hn, hn2] <;> try simp only [wpD_back, bindD_back])
  · have b1 := Int.emod_nonneg (r * 1181783497276652981 + 12345678910987) (show (2305843009213693951 : Int) ≠ 0 by decide)
    have b2 := Int.emod_lt_of_pos (r * 1181783497276652981 + 12345678910987) (show (0 : Int) < 2305843009213693951 by decide)
    have b3 : r < 18446744073709551616 := by have : MM = 2305843009213693951 := rfl; omega
    have b4 : -18446744073709551616 < r := by omega
    refine ⟨_, ?_, ((r * 1181783497276652981 + 12345678910987) % 2305843009213693951 / 65537 * ((r * 1181783497276652981 + 12345678910987) % 2305843009213693951 % 65537 + 3)) % 2305843009213693921 / 97 % n, g, (r * 1181783497276652981 + 12345678910987) % 2305843009213693951, rfl, Int.emod_nonneg _ (by omega), Int.emod_lt_of_pos _ hn, g0, b1, b2⟩
    generalize hr : (r * 1181783497276652981 + 12345678910987) % 2305843009213693951 = r' at *
    have c1 : -18446744073709551616 < r' / 65537 := by omega
    have c2 : r' / 65537 < 18446744073709551616 := by omega
    (simp [↓wp_tag, ↓bind_tag, wpD_some, wpD_none, wpD_bind, bindD_some, bindD_none, mDef, startA, AV.fixd, sSeq, sIf, tOfE, eOp, eUn, eCB, aNil, aCons, eV, eC, eF, eTup, ownA, resA, res, AV.see, fSubs, Da.isDict, fIx, atI, ixN, fIB, fGt, fLt, fGe, fLe, fI, fAdd, fSub, fMul, fNeg, sAsg, sSetI, sAsgR, setR, Nw.av, Nw.da, rootAt, AV.asR, own, AV.get, fMod, fDiv, setD, setDa, sRet, sRetF, resRL, resL1, backP, AV.isRoot, AV.isFix, AV.flag, eCall, callM, argsOf, argOf, rootIx, putBack, isS, R1.da, Rv.da, fLen, fLenB, fLst, eScLen, eScIx, fLtA, fAbs, fInt, eBig, fPow, sNext, List.filterMap_cons, List.findIdx?_cons, F_law_take, m_law_take, hg, hn, hn2, b3, b4, hr, c1, c2] <;> try simp only [wpD_back, bindD_back])
theorem of_ok {fx : Bool} {g r : Int} {xs : List Da} (h : PotOk g r) (hn : xs ≠ []) (hn2 : xs.length < 1000000000) :
    Wp (F_law_of [pot fx g r, .d (.list xs)]) fun y => ∃ x g' r', y = (.one (.d x), [pot fx g' r', .d (.list xs)]) ∧ x ∈ xs ∧ PotOk g' r' := by
  have hl : 0 < xs.length := List.length_pos_iff.mpr hn
  (simp [↓wp_tag, ↓bind_tag, wpD_some, wpD_none, wpD_bind, bindD_some, bindD_none, mDef, startA, AV.fixd, sSeq, sIf, tOfE, eOp, eUn, eCB, aNil, aCons, eV, eC, eF, eTup, ownA, resA, res, AV.see, fSubs, Da.isDict, fIx, atI, ixN, fIB, fGt, fLt, fGe, fLe, fI, fAdd, fSub, fMul, fNeg, sAsg, sSetI, sAsgR, setR, Nw.av, Nw.da, rootAt, AV.asR, own, AV.get, fMod, fDiv, setD, setDa, sRet, sRetF, resRL, resL1, backP, AV.isRoot, AV.isFix, AV.flag, eCall, callM, argsOf, argOf, rootIx, putBack, isS, R1.da, Rv.da, fLen, fLenB, fLst, eScLen, eScIx, fLtA, fAbs, fInt, eBig, fPow, sNext, List.filterMap_cons, List.findIdx?_cons, F_law_of, m_law_of] <;> try simp only [wpD_back, bindD_back])
  refine (take_ok h (n := xs.length) (by omega) (by omega)).mono ?_
  rintro _ ⟨x, g', r', rfl, h1, h2, h3⟩
  obtain ⟨k, rfl⟩ := Int.eq_ofNat_of_zero_le h1
  have hk : k < xs.length := by omega
  (simp [↓wp_tag, ↓bind_tag, wpD_some, wpD_none, wpD_bind, bindD_some, bindD_none, mDef, startA, AV.fixd, sSeq, sIf, tOfE, eOp, eUn, eCB, aNil, aCons, eV, eC, eF, eTup, ownA, resA, res, AV.see, fSubs, Da.isDict, fIx, atI, ixN, fIB, fGt, fLt, fGe, fLe, fI, fAdd, fSub, fMul, fNeg, sAsg, sSetI, sAsgR, setR, Nw.av, Nw.da, rootAt, AV.asR, own, AV.get, fMod, fDiv, setD, setDa, sRet, sRetF, resRL, resL1, backP, AV.isRoot, AV.isFix, AV.flag, eCall, callM, argsOf, argOf, rootIx, putBack, isS, R1.da, Rv.da, fLen, fLenB, fLst, eScLen, eScIx, fLtA, fAbs, fInt, eBig, fPow, sNext, List.filterMap_cons, List.findIdx?_cons, h1, h2, hk] <;> try simp only [wpD_back, bindD_back])
  exact ⟨_, _, _, ⟨rfl, rfl, rfl⟩, List.getElem_mem hk, h3⟩
theorem wp_pos {τ : Type} {c : Prop} [Decidable c] {a b : Option τ} {Q : τ → Prop} (hc : c) (h : Wp a Q) : Wp (if c then a else b) Q := by rw [if_pos hc]; exact h
theorem small01 {c : Prop} [Decidable c] : (-18446744073709551616 : Int) < (if c then 1 else 0) ∧ (if c then (1 : Int) else 0) < 18446744073709551616 := by split <;> decide
theorem nn01 {c : Prop} [Decidable c] : (0 : Int) ≤ (if c then 1 else 0) := by split <;> decide
noncomputable def potRest : MS := (sSeq (sAsg (eOp fMul (eOp fMod (eCB fAbs (aCons (eV 2) aNil)) eBig) (eCB fInt (aCons (eOp fGe (eCB fAbs (aCons (eV 2) aNil)) (eOp fPow (eC (.int 10)) (eC (.int 18)))) aNil))) (setD 3))
  (sRetF (fLst (aCons (eV 3) (aCons (eOp fMod (eOp fMul (eOp fAdd (eOp fAdd (eOp fMod (eV 2) (eC (.int 2305843009213693951))) (eOp fMul (eOp fMul (eC (.int 7919)) (eV 1)) (eV 1))) (eC (.int 11))) (eC (.int 48271))) (eC (.int 2305843009213693951))) aNil)))))
theorem pot_rest {ns : List Int} {k : Nat} {c : Int} (hk : k ≤ 63) : Wp (potRest [.sc ns, .d (.int (k : Int)), .d (.int c), .un]) fun o => ∃ g r, o = .rt (.nw (.r (.list [.int g, .int r]))) [.sc ns, .d (.int (k : Int)), .d (.int c), .d (.int g)] ∧ PotOk g r := by
  have hb := bigN_pos
  have k1 : 7919 * (k : Int) < 18446744073709551616 := by omega
  have k2 : -18446744073709551616 < 7919 * (k : Int) := by omega
  have l2 : 2 ≤ LIM := by decide
  (simp [↓wp_tag, ↓bind_tag, wpD_some, wpD_none, wpD_bind, bindD_some, bindD_none, mDef, startA, AV.fixd, sSeq, sIf, tOfE, eOp, eUn, eCB, aNil, aCons, eV, eC, eF, eTup, ownA, resA, res, AV.see, fSubs, Da.isDict, fIx, atI, ixN, fIB, fGt, fLt, fGe, fLe, fI, fAdd, fSub, fMul, fNeg, sAsg, sSetI, sAsgR, setR, Nw.av, Nw.da, rootAt, AV.asR, own, AV.get, fMod, fDiv, setD, setDa, sRet, sRetF, resRL, resL1, backP, AV.isRoot, AV.isFix, AV.flag, eCall, callM, argsOf, argOf, rootIx, putBack, isS, R1.da, Rv.da, fLen, fLenB, fLst, eScLen, eScIx, fLtA, fAbs, fInt, eBig, fPow, sNext, List.filterMap_cons, List.findIdx?_cons, potRest, hb, k1, k2, l2] <;> try simp only [wpD_back, bindD_back])
  refine wp_pos (.inr small01) ?_
  (simp [↓wp_tag, ↓bind_tag, wpD_some, wpD_none, wpD_bind, bindD_some, bindD_none, mDef, startA, AV.fixd, sSeq, sIf, tOfE, eOp, eUn, eCB, aNil, aCons, eV, eC, eF, eTup, ownA, resA, res, AV.see, fSubs, Da.isDict, fIx, atI, ixN, fIB, fGt, fLt, fGe, fLe, fI, fAdd, fSub, fMul, fNeg, sAsg, sSetI, sAsgR, setR, Nw.av, Nw.da, rootAt, AV.asR, own, AV.get, fMod, fDiv, setD, setDa, sRet, sRetF, resRL, resL1, backP, AV.isRoot, AV.isFix, AV.flag, eCall, callM, argsOf, argOf, rootIx, putBack, isS, R1.da, Rv.da, fLen, fLenB, fLst, eScLen, eScIx, fLtA, fAbs, fInt, eBig, fPow, sNext, List.filterMap_cons, List.findIdx?_cons, k1, k2, l2] <;> try simp only [wpD_back, bindD_back])
  exact ⟨_, _, ⟨⟨rfl, rfl⟩, rfl⟩, Int.mul_nonneg (Int.emod_nonneg _ (by omega)) nn01, Int.emod_nonneg _ (by decide), Int.emod_lt_of_pos _ (by decide)⟩
theorem pot_ok {ns : List Int} {k : Nat} (hk : k ≤ 63) : Wp (F_law_pot [.sc ns, .d (.int (k : Int))]) fun y => ∃ g r, y = (.one (.w (.r (.list [.int g, .int r]))), [.sc ns, .d (.int (k : Int))]) ∧ PotOk g r := by
  have key : Wp (m_law_pot [.sc ns, .d (.int (k : Int)), .un, .un]) fun o => ∃ c g r, o = .rt (.nw (.r (.list [.int g, .int r]))) [.sc ns, .d (.int (k : Int)), .d (.int c), .d (.int g)] ∧ PotOk g r := by
    unfold m_law_pot
    rw [wp_seq]
    refine ⟨.nx [.sc ns, .d (.int (k : Int)), .d (.int (3 * (k : Int) + ns.length)), .un], by (simp [↓wp_tag, ↓bind_tag, wpD_some, wpD_none, wpD_bind, bindD_some, bindD_none, mDef, startA, AV.fixd, sSeq, sIf, tOfE, eOp, eUn, eCB, aNil, aCons, eV, eC, eF, eTup, ownA, resA, res, AV.see, fSubs, Da.isDict, fIx, atI, ixN, fIB, fGt, fLt, fGe, fLe, fI, fAdd, fSub, fMul, fNeg, sAsg, sSetI, sAsgR, setR, Nw.av, Nw.da, rootAt, AV.asR, own, AV.get, fMod, fDiv, setD, setDa, sRet, sRetF, resRL, resL1, backP, AV.isRoot, AV.isFix, AV.flag, eCall, callM, argsOf, argOf, rootIx, putBack, isS, R1.da, Rv.da, fLen, fLenB, fLst, eScLen, eScIx, fLtA, fAbs, fInt, eBig, fPow, sNext, List.filterMap_cons, List.findIdx?_cons] <;> try simp only [wpD_back, bindD_back]), ?_⟩
    show Wp _ _
    rw [wp_seq]
    by_cases h : k < ns.length
    · refine ⟨.nx [.sc ns, .d (.int (k : Int)), .d (.int ns[k]), .un], by (simp [↓wp_tag, ↓bind_tag, wpD_some, wpD_none, wpD_bind, bindD_some, bindD_none, mDef, startA, AV.fixd, sSeq, sIf, tOfE, eOp, eUn, eCB, aNil, aCons, eV, eC, eF, eTup, ownA, resA, res, AV.see, fSubs, Da.isDict, fIx, atI, ixN, fIB, fGt, fLt, fGe, fLe, fI, fAdd, fSub, fMul, fNeg, sAsg, sSetI, sAsgR, setR, Nw.av, Nw.da, rootAt, AV.asR, own, AV.get, fMod, fDiv, setD, setDa, sRet, sRetF, resRL, resL1, backP, AV.isRoot, AV.isFix, AV.flag, eCall, callM, argsOf, argOf, rootIx, putBack, isS, R1.da, Rv.da, fLen, fLenB, fLst, eScLen, eScIx, fLtA, fAbs, fInt, eBig, fPow, sNext, List.filterMap_cons, List.findIdx?_cons, h] <;> try simp only [wpD_back, bindD_back]), ?_⟩
      exact (pot_rest hk).mono fun o ⟨g, r, e, p⟩ => ⟨_, g, r, e, p⟩
    · refine ⟨.nx [.sc ns, .d (.int (k : Int)), .d (.int (3 * (k : Int) + ns.length)), .un], by (simp [↓wp_tag, ↓bind_tag, wpD_some, wpD_none, wpD_bind, bindD_some, bindD_none, mDef, startA, AV.fixd, sSeq, sIf, tOfE, eOp, eUn, eCB, aNil, aCons, eV, eC, eF, eTup, ownA, resA, res, AV.see, fSubs, Da.isDict, fIx, atI, ixN, fIB, fGt, fLt, fGe, fLe, fI, fAdd, fSub, fMul, fNeg, sAsg, sSetI, sAsgR, setR, Nw.av, Nw.da, rootAt, AV.asR, own, AV.get, fMod, fDiv, setD, setDa, sRet, sRetF, resRL, resL1, backP, AV.isRoot, AV.isFix, AV.flag, eCall, callM, argsOf, argOf, rootIx, putBack, isS, R1.da, Rv.da, fLen, fLenB, fLst, eScLen, eScIx, fLtA, fAbs, fInt, eBig, fPow, sNext, List.filterMap_cons, List.findIdx?_cons, h] <;> try simp only [wpD_back, bindD_back]), ?_⟩
      exact (pot_rest hk).mono fun o ⟨g, r, e, p⟩ => ⟨_, g, r, e, p⟩
  obtain ⟨o, e, c, g, r, rfl, p⟩ := key
  refine ⟨_, ?_, g, r, rfl, p⟩
  (simp [↓wp_tag, ↓bind_tag, wpD_some, wpD_none, wpD_bind, bindD_some, bindD_none, mDef, startA, AV.fixd, sSeq, sIf, tOfE, eOp, eUn, eCB, aNil, aCons, eV, eC, eF, eTup, ownA, resA, res, AV.see, fSubs, Da.isDict, fIx, atI, ixN, fIB, fGt, fLt, fGe, fLe, fI, fAdd, fSub, fMul, fNeg, sAsg, sSetI, sAsgR, setR, Nw.av, Nw.da, rootAt, AV.asR, own, AV.get, fMod, fDiv, setD, setDa, sRet, sRetF, resRL, resL1, backP, AV.isRoot, AV.isFix, AV.flag, eCall, callM, argsOf, argOf, rootIx, putBack, isS, R1.da, Rv.da, fLen, fLenB, fLst, eScLen, eScIx, fLtA, fAbs, fInt, eBig, fPow, sNext, List.filterMap_cons, List.findIdx?_cons, F_law_pot, e] <;> try simp only [wpD_back, bindD_back])
end K50

namespace K50
open PySem PySem.Spec PyProof.Rows L2 Gk Vm

abbrev OKp (s : Int × Int) : Prop := PotOk s.1 s.2
abbrev un7 : List AV := [.un, .un, .un, .un, .un, .un, .un]
theorem stem_ok {g r k : Int} (h : PotOk g r) : Wp (fLc (cmI (iRg1 (aCons (eCall F_law_take [] (aCons (eV 0) (aCons (eC (.int 6)) aNil))) aNil)) [7] (setD 7) tYesM (mLc (eCall F_law_of [] (aCons (eV 0) (aCons (eF (fListM (aCons (eC (.str (Str.ofString "abcxyz"))) aNil))) aNil))))) (pot true g r :: .d (.int k) :: un7))
    fun y => ∃ (xs : List Da) (g r : Int), y = (.r (.list xs), pot true g r :: .d (.int k) :: un7) ∧ PotOk g r ∧ xs.length ≤ 5 ∧ ∀ x ∈ xs, x ∈ signsD (Str.ofString "abcxyz") := by
  have hi : Wp (iRg1 (aCons (eCall F_law_take [] (aCons (eV 0) (aCons (eC (.int 6)) aNil))) aNil) (pot true g r :: .d (.int k) :: un7)) fun x => ∃ (n : Nat) (g r : Int), x = ((rgN n, []), pot true g r :: .d (.int k) :: un7) ∧ PotOk g r ∧ n ≤ 5 := by
    (simp [↓wp_tag, ↓bind_tag, wpD_some, wpD_none, wpD_bind, bindD_some, bindD_none, mDef, startA, AV.fixd, sSeq, sIf, tOfE, eOp, eUn, eCB, aNil, aCons, eV, eC, eF, eTup, ownA, resA, res, AV.see, fSubs, Da.isDict, fIx, atI, ixN, fIB, fGt, fLt, fGe, fLe, fI, fAdd, fSub, fMul, fNeg, sAsg, sSetI, sAsgR, setR, Nw.av, Nw.da, rootAt, AV.asR, own, AV.get, fMod, fDiv, setD, setDa, sRet, sRetF, resRL, resL1, backP, AV.isRoot, AV.isFix, AV.flag, eCall, callM, argsOf, argOf, rootIx, putBack, isS, R1.da, Rv.da, fLen, fLenB, fLst, eScLen, eScIx, fLtA, fAbs, fInt, eBig, fPow, sNext, List.filterMap_cons, List.findIdx?_cons, iRg1] <;> try simp only [wpD_back, bindD_back])
    refine (take_ok h (n := 6) (by decide) (by decide)).mono ?_
    rintro _ ⟨x, g1, r1, rfl, h1, h2, h3⟩
    obtain ⟨n, rfl⟩ := Int.eq_ofNat_of_zero_le h1
    have b1 : (-4611686018427387904 : Int) ≤ (n : Int) := by omega
    have b2 : (n : Int) < 4611686018427387904 := by omega
    (simp [↓wp_tag, ↓bind_tag, wpD_some, wpD_none, wpD_bind, bindD_some, bindD_none, mDef, startA, AV.fixd, sSeq, sIf, tOfE, eOp, eUn, eCB, aNil, aCons, eV, eC, eF, eTup, ownA, resA, res, AV.see, fSubs, Da.isDict, fIx, atI, ixN, fIB, fGt, fLt, fGe, fLe, fI, fAdd, fSub, fMul, fNeg, sAsg, sSetI, sAsgR, setR, Nw.av, Nw.da, rootAt, AV.asR, own, AV.get, fMod, fDiv, setD, setDa, sRet, sRetF, resRL, resL1, backP, AV.isRoot, AV.isFix, AV.flag, eCall, callM, argsOf, argOf, rootIx, putBack, isS, R1.da, Rv.da, fLen, fLenB, fLst, eScLen, eScIx, fLtA, fAbs, fInt, eBig, fPow, sNext, List.filterMap_cons, List.findIdx?_cons, b1, b2] <;> try simp only [wpD_back, bindD_back])
    exact ⟨n, g1, r1, ⟨rfl, rfl, rfl⟩, h3, by omega⟩
  obtain ⟨_, e, n, g1, r1, rfl, p1, hn⟩ := hi
  refine lc_go (St := fun s : Int × Int => pot true s.1 s.2 :: .d (.int k) :: un7) (OK := OKp) (P := fun _ y => y ∈ signsD (Str.ofString "abcxyz")) (s := (g1, r1)) e p1 (noRoots_of rfl) rfl (by rw [rgN_len]; have : LIM = 1000000 := rfl; omega) ?_ ?_
  · intro y m ⟨ga, ra⟩ hp
    have hz : (Str.ofString "abcxyz").length ≤ 100000 := by decide +kernel
    (simp [↓wp_tag, ↓bind_tag, wpD_some, wpD_none, wpD_bind, bindD_some, bindD_none, mDef, startA, AV.fixd, sSeq, sIf, tOfE, eOp, eUn, eCB, aNil, aCons, eV, eC, eF, eTup, ownA, resA, res, AV.see, fSubs, Da.isDict, fIx, atI, ixN, fIB, fGt, fLt, fGe, fLe, fI, fAdd, fSub, fMul, fNeg, sAsg, sSetI, sAsgR, setR, Nw.av, Nw.da, rootAt, AV.asR, own, AV.get, fMod, fDiv, setD, setDa, sRet, sRetF, resRL, resL1, backP, AV.isRoot, AV.isFix, AV.flag, eCall, callM, argsOf, argOf, rootIx, putBack, isS, R1.da, Rv.da, fLen, fLenB, fLst, eScLen, eScIx, fLtA, fAbs, fInt, eBig, fPow, sNext, List.filterMap_cons, List.findIdx?_cons, fListM, fList, hz] <;> try simp only [wpD_back, bindD_back])
    refine (of_ok (xs := signsD (Str.ofString "abcxyz")) hp (by decide +kernel) (by decide +kernel)).mono ?_
    rintro _ ⟨x, g2, r2, rfl, h1, h2⟩
    (simp [↓wp_tag, ↓bind_tag, wpD_some, wpD_none, wpD_bind, bindD_some, bindD_none, mDef, startA, AV.fixd, sSeq, sIf, tOfE, eOp, eUn, eCB, aNil, aCons, eV, eC, eF, eTup, ownA, resA, res, AV.see, fSubs, Da.isDict, fIx, atI, ixN, fIB, fGt, fLt, fGe, fLe, fI, fAdd, fSub, fMul, fNeg, sAsg, sSetI, sAsgR, setR, Nw.av, Nw.da, rootAt, AV.asR, own, AV.get, fMod, fDiv, setD, setDa, sRet, sRetF, resRL, resL1, backP, AV.isRoot, AV.isFix, AV.flag, eCall, callM, argsOf, argOf, rootIx, putBack, isS, R1.da, Rv.da, fLen, fLenB, fLst, eScLen, eScIx, fLtA, fAbs, fInt, eBig, fPow, sNext, List.filterMap_cons, List.findIdx?_cons, h1, wipeA] <;> try simp only [wpD_back, bindD_back])
    exact h2
  · rintro ys ⟨g2, r2⟩ h2 pr
    refine ⟨ys, g2, r2, ?_, h2, ?_, all_of_paired pr⟩
    · simp [backA]
    · have := paired_len pr
      rw [rgN_len] at this
      omega

theorem signs_str {zs : List Nat} : ∀ {xs : List Da}, (∀ x ∈ xs, x ∈ zs.map fun c => Da.str ⟨#[c]⟩) → ∃ ys : List Str, xs = ys.map Da.str ∧ ∀ y ∈ ys, ∃ c, y = ⟨#[c]⟩ ∧ c ∈ zs
  | [], _ => ⟨[], rfl, fun y m => (List.not_mem_nil m).elim⟩
  | x :: xs, h => by
    obtain ⟨ys, rfl, hy⟩ := signs_str (xs := xs) fun x m => h x (List.mem_cons_of_mem _ m)
    obtain ⟨c, mc, rfl⟩ := List.mem_map.mp (h x (List.mem_cons_self ..))
    refine ⟨⟨#[c]⟩ :: ys, rfl, fun y m => ?_⟩
    rcases List.mem_cons.mp m with rfl | m
    · exact ⟨c, rfl, mc⟩
    · exact hy y m
theorem sum_ones {ys : List Str} (h : ∀ y ∈ ys, ∃ c, y = ⟨#[c]⟩ ∧ c ∈ lettersS.cps.toList) : (ys.map (·.length)).sum = ys.length := by
  induction ys with
  | nil => rfl
  | cons y r ih =>
    obtain ⟨c, rfl, _⟩ := h y (List.mem_cons_self ..)
    rw [List.map_cons, List.sum_cons, ih fun z hz => h z (List.mem_cons_of_mem _ hz), List.length_cons]
    show 1 + r.length = r.length + 1
    omega
abbrev un6 : List AV := [.un, .un, .un, .un, .un, .un]
theorem names1 {g r k : Int} (h : PotOk g r) : Wp (sAsg (eJoin (eC (.str (Str.ofString ""))) (eF (fLc (cmI (iRg1 (aCons (eCall F_law_take [] (aCons (eV 0) (aCons (eC (.int 6)) aNil))) aNil)) [7] (setD 7) tYesM (mLc (eCall F_law_of [] (aCons (eV 0) (aCons (eF (fListM (aCons (eC (.str (Str.ofString "abcxyz"))) aNil))) aNil)))))))) (setD 2) (pot true g r :: .d (.int k) :: un7))
    fun o => ∃ (z : Str) (g r : Int), o = .nx (pot true g r :: .d (.int k) :: .d (.str z) :: un6) ∧ PotOk g r ∧ Ls 5 z := by
  rw [wp_asg, wp_join, wp_eF]
  refine (stem_ok h).mono ?_
  rintro _ ⟨xs, g1, r1, rfl, p1, hl, hx⟩
  obtain ⟨ys, rfl, hy⟩ := signs_str (zs := (Str.ofString "abcxyz").cps.toList) hx
  have hy' : ∀ y ∈ ys, ∃ c, y = ⟨#[c]⟩ ∧ c ∈ lettersS.cps.toList := fun y m => let ⟨c, e, mc⟩ := hy y m; ⟨c, e, six_in c mc⟩
  obtain ⟨j1, j2⟩ := join_one hy'
  rw [List.length_map] at hl
  have hs := sum_ones hy'
  have e0 : ("" : Str).length = 0 := rfl
  have hc : (ys.map (·.length)).sum + ys.length * (Str.ofString "").length ≤ SLIM ∧ (Txt.join (Str.ofString "") ys).length ≤ SLIM := by
    rw [hs, show (Str.ofString "").length = 0 from rfl, show Txt.join (Str.ofString "") ys = Txt.join "" ys from rfl, j1]
    have : SLIM = 16000000 := rfl
    omega
  rw [show res (Prod.snd (Lc.d (Nw.da (Nw.r (Da.list (ys.map Da.str)))), pot true g1 r1 :: AV.d (Da.int k) :: un7)) (Lc.d (Nw.da (Nw.r (Da.list (ys.map Da.str))))) = some (Da.list (ys.map Da.str)) from rfl, wp_some]
  unfold fJoin
  simp only [itemsD, Option.bind_some, strsD_map]
  rw [if_pos hc, wp_some]
  (simp [↓wp_tag, ↓bind_tag, wpD_some, wpD_none, wpD_bind, bindD_some, bindD_none, mDef, startA, AV.fixd, sSeq, sIf, tOfE, eOp, eUn, eCB, aNil, aCons, eV, eC, eF, eTup, ownA, resA, res, AV.see, fSubs, Da.isDict, fIx, atI, ixN, fIB, fGt, fLt, fGe, fLe, fI, fAdd, fSub, fMul, fNeg, sAsg, sSetI, sAsgR, setR, Nw.av, Nw.da, rootAt, AV.asR, own, AV.get, fMod, fDiv, setD, setDa, sRet, sRetF, resRL, resL1, backP, AV.isRoot, AV.isFix, AV.flag, eCall, callM, argsOf, argOf, rootIx, putBack, isS, R1.da, Rv.da, fLen, fLenB, fLst, eScLen, eScIx, fLtA, fAbs, fInt, eBig, fPow, sNext, List.filterMap_cons, List.findIdx?_cons] <;> try simp only [wpD_back, bindD_back])
  exact ⟨_, _, _, ⟨⟨rfl, rfl⟩, rfl⟩, p1, by rw [show Txt.join (Str.ofString "") ys = Txt.join "" ys from rfl, j1]; exact hl, j2⟩

theorem names2 {g r k : Int} {z : Str} (h : PotOk g r) (hz : Ls 5 z) : Wp (sAsg (eTup (aCons (eCall F_law_take [] (aCons (eV 0) (aCons (eOp fAdd (eCB fLenB (aCons (eV 2) aNil)) (eC (.int 1))) aNil))) (aCons (eCall F_law_take [] (aCons (eV 0) (aCons (eC (.int 26)) aNil))) (aCons (eCall F_law_of [] (aCons (eV 0) (aCons (eF (fLst (aCons (eC (.int 1)) (aCons (eC (.int 3)) (aCons (eC (.int 5)) (aCons (eC (.int 7)) (aCons (eC (.int 9)) (aCons (eC (.int 11)) aNil)))))))) aNil))) aNil)))) (gTupD 3 (gsCons (setD 3) (gsCons (setD 4) (gsCons (setD 5) gsNil)))) (pot true g r :: .d (.int k) :: .d (.str z) :: un6))
    fun o => ∃ (a b c : Int) (g r : Int), o = .nx [pot true g r, .d (.int k), .d (.str z), .d (.int a), .d (.int b), .d (.int c), .un, .un, .un] ∧ PotOk g r ∧ 0 ≤ a ∧ 0 ≤ b ∧ b < 26 ∧ 0 ≤ c ∧ c ≤ 11 := by
  have hl := hz.1
  have l6 : 6 ≤ LIM := by decide
  have l3 : 3 ≤ LIM := by decide
  (simp [↓wp_tag, ↓bind_tag, wpD_some, wpD_none, wpD_bind, bindD_some, bindD_none, mDef, startA, AV.fixd, sSeq, sIf, tOfE, eOp, eUn, eCB, aNil, aCons, eV, eC, eF, eTup, ownA, resA, res, AV.see, fSubs, Da.isDict, fIx, atI, ixN, fIB, fGt, fLt, fGe, fLe, fI, fAdd, fSub, fMul, fNeg, sAsg, sSetI, sAsgR, setR, Nw.av, Nw.da, rootAt, AV.asR, own, AV.get, fMod, fDiv, setD, setDa, sRet, sRetF, resRL, resL1, backP, AV.isRoot, AV.isFix, AV.flag, eCall, callM, argsOf, argOf, rootIx, putBack, isS, R1.da, Rv.da, fLen, fLenB, fLst, eScLen, eScIx, fLtA, fAbs, fInt, eBig, fPow, sNext, List.filterMap_cons, List.findIdx?_cons, gTupD, gsCons, gsNil] <;> try simp only [wpD_back, bindD_back])
  refine (take_ok h (n := (z.length : Int) + 1) (by omega) (by omega)).mono ?_
  rintro _ ⟨x, g1, r1, rfl, h1, h2, h3⟩
  (simp [↓wp_tag, ↓bind_tag, wpD_some, wpD_none, wpD_bind, bindD_some, bindD_none, mDef, startA, AV.fixd, sSeq, sIf, tOfE, eOp, eUn, eCB, aNil, aCons, eV, eC, eF, eTup, ownA, resA, res, AV.see, fSubs, Da.isDict, fIx, atI, ixN, fIB, fGt, fLt, fGe, fLe, fI, fAdd, fSub, fMul, fNeg, sAsg, sSetI, sAsgR, setR, Nw.av, Nw.da, rootAt, AV.asR, own, AV.get, fMod, fDiv, setD, setDa, sRet, sRetF, resRL, resL1, backP, AV.isRoot, AV.isFix, AV.flag, eCall, callM, argsOf, argOf, rootIx, putBack, isS, R1.da, Rv.da, fLen, fLenB, fLst, eScLen, eScIx, fLtA, fAbs, fInt, eBig, fPow, sNext, List.filterMap_cons, List.findIdx?_cons] <;> try simp only [wpD_back, bindD_back])
  refine (take_ok h3 (n := 26) (by decide) (by decide)).mono ?_
  rintro _ ⟨y, g2, r2, rfl, h4, h5, h6⟩
  (simp [↓wp_tag, ↓bind_tag, wpD_some, wpD_none, wpD_bind, bindD_some, bindD_none, mDef, startA, AV.fixd, sSeq, sIf, tOfE, eOp, eUn, eCB, aNil, aCons, eV, eC, eF, eTup, ownA, resA, res, AV.see, fSubs, Da.isDict, fIx, atI, ixN, fIB, fGt, fLt, fGe, fLe, fI, fAdd, fSub, fMul, fNeg, sAsg, sSetI, sAsgR, setR, Nw.av, Nw.da, rootAt, AV.asR, own, AV.get, fMod, fDiv, setD, setDa, sRet, sRetF, resRL, resL1, backP, AV.isRoot, AV.isFix, AV.flag, eCall, callM, argsOf, argOf, rootIx, putBack, isS, R1.da, Rv.da, fLen, fLenB, fLst, eScLen, eScIx, fLtA, fAbs, fInt, eBig, fPow, sNext, List.filterMap_cons, List.findIdx?_cons, l6] <;> try simp only [wpD_back, bindD_back])
  refine (of_ok (xs := [.int 1, .int 3, .int 5, .int 7, .int 9, .int 11]) h6 (by simp) (by decide)).mono ?_
  rintro _ ⟨c, g3, r3, rfl, h7, h8⟩
  have hc : ∃ c' : Int, c = .int c' ∧ 0 ≤ c' ∧ c' ≤ 11 := by
    simp only [List.mem_cons, List.not_mem_nil, or_false] at h7
    rcases h7 with e | e | e | e | e | e
    · exact ⟨1, e, by decide, by decide⟩
    · exact ⟨3, e, by decide, by decide⟩
    · exact ⟨5, e, by decide, by decide⟩
    · exact ⟨7, e, by decide, by decide⟩
    · exact ⟨9, e, by decide, by decide⟩
    · exact ⟨11, e, by decide, by decide⟩
  obtain ⟨c, rfl, c0, hc⟩ := hc
  (simp [↓wp_tag, ↓bind_tag, wpD_some, wpD_none, wpD_bind, bindD_some, bindD_none, mDef, startA, AV.fixd, sSeq, sIf, tOfE, eOp, eUn, eCB, aNil, aCons, eV, eC, eF, eTup, ownA, resA, res, AV.see, fSubs, Da.isDict, fIx, atI, ixN, fIB, fGt, fLt, fGe, fLe, fI, fAdd, fSub, fMul, fNeg, sAsg, sSetI, sAsgR, setR, Nw.av, Nw.da, rootAt, AV.asR, own, AV.get, fMod, fDiv, setD, setDa, sRet, sRetF, resRL, resL1, backP, AV.isRoot, AV.isFix, AV.flag, eCall, callM, argsOf, argOf, rootIx, putBack, isS, R1.da, Rv.da, fLen, fLenB, fLst, eScLen, eScIx, fLtA, fAbs, fInt, eBig, fPow, sNext, List.filterMap_cons, List.findIdx?_cons, l3, gTupD, gsCons, gsNil] <;> try simp only [wpD_back, bindD_back])
  exact ⟨x, y, c, g3, r3, ⟨⟨rfl, rfl⟩, rfl, rfl, rfl⟩, h8, h1, h4, h5, c0, hc⟩
theorem letters_at {j : Int} (h0 : 0 ≤ j) (h1 : j < 26) : ∃ c, (atI (Str.ofString "abcdefghijklmnopqrstuvwxyz").cps.toList j) = some c ∧ c ∈ lettersS.cps.toList := by
  obtain ⟨n, rfl⟩ := Int.eq_ofNat_of_zero_le h0
  have hl : (Str.ofString "abcdefghijklmnopqrstuvwxyz").cps.toList.length = 26 := by decide +kernel
  have hn : n < (Str.ofString "abcdefghijklmnopqrstuvwxyz").cps.toList.length := by omega
  refine ⟨(Str.ofString "abcdefghijklmnopqrstuvwxyz").cps.toList[n], ?_, List.getElem_mem hn⟩
  unfold atI ixN
  rw [if_pos h0, hl, if_pos (show (n : Int) < ((26 : Nat) : Int) from h1)]
  simp
theorem names3 {g r a b c : Int} {k : Nat} {z : Str} (hk : k ≤ 26) (c0 : 0 ≤ c) (hc : c ≤ 11) : Wp (sAsg (eF (fLc (cmI (iRg1 (aCons (eV 1) aNil)) [7] (setD 7) tYesM (mLc (eOp fSubs (eC (.str (Str.ofString "abcdefghijklmnopqrstuvwxyz"))) (eOp fMod (eOp fAdd (eV 4) (eOp fMul (eV 5) (eV 7))) (eC (.int 26)))))))) (setD 6) [pot true g r, .d (.int (k : Int)), .d (.str z), .d (.int a), .d (.int b), .d (.int c), .un, .un, .un])
    fun o => ∃ ys : List Nat, o = .nx [pot true g r, .d (.int (k : Int)), .d (.str z), .d (.int a), .d (.int b), .d (.int c), .d (.list (ys.map fun c => .str ⟨#[c]⟩)), .un, .un] ∧ ys.length = k ∧ ∀ c ∈ ys, c ∈ lettersS.cps.toList := by
  rw [wp_asg, wp_eF]
  have e : iRg1 (aCons (eV 1) aNil) [pot true g r, .d (.int (k : Int)), .d (.str z), .d (.int a), .d (.int b), .d (.int c), .un, .un, .un] = some ((rgN k, []), [pot true g r, .d (.int (k : Int)), .d (.str z), .d (.int a), .d (.int b), .d (.int c), .un, .un, .un]) := by
    exact rg1_go (ls := [.s 1]) rfl rfl (by omega)
  refine lc_go (St := fun _ : Unit => [pot true g r, .d (.int (k : Int)), .d (.str z), .d (.int a), .d (.int b), .d (.int c), .un, .un, .un]) (OK := fun _ => True) (P := fun _ y => ∃ c, y = .str ⟨#[c]⟩ ∧ c ∈ lettersS.cps.toList) (s := ()) e trivial (noRoots_of rfl) rfl (by rw [rgN_len]; have : LIM = 1000000 := rfl; omega) ?_ ?_
  · intro y m _ _
    obtain ⟨j, hj, rfl⟩ := rgN_mem m
    have c1 : c < 18446744073709551616 := by omega
    have c2 : -18446744073709551616 < c := by omega
    obtain ⟨d, e1, e2⟩ := letters_at (j := (b + c * (j : Int)) % 26) (Int.emod_nonneg _ (by decide)) (Int.emod_lt_of_pos _ (by decide))
    generalize hq : (j : Int) = q at *
    have e3 : fSubs (.str (Str.ofString "abcdefghijklmnopqrstuvwxyz")) (.int ((b + c * q) % 26)) = some (.str ⟨#[d]⟩) := by
      show Option.map _ (atI _ _) = _
      rw [e1]
      rfl
    generalize Str.ofString "abcdefghijklmnopqrstuvwxyz" = zz at *
    rw [show setD 7 (.int q) [pot true g r, .d (.int (k : Int)), .d (.str z), .d (.int a), .d (.int b), .d (.int c), .un, .un, .un] = some [pot true g r, .d (.int (k : Int)), .d (.str z), .d (.int a), .d (.int b), .d (.int c), .un, .d (.int q), .un] from rfl, wp_some]
    have e4 : eOp fSubs (eC (.str zz)) (eOp fMod (eOp fAdd (eV 4) (eOp fMul (eV 5) (eV 7))) (eC (.int 26))) [pot true g r, .d (.int (k : Int)), .d (.str z), .d (.int a), .d (.int b), .d (.int c), .un, .d (.int q), .un] = some (.d (.str ⟨#[d]⟩), [pot true g r, .d (.int (k : Int)), .d (.str z), .d (.int a), .d (.int b), .d (.int c), .un, .d (.int q), .un]) := by
      have e5 : eOp fMod (eOp fAdd (eV 4) (eOp fMul (eV 5) (eV 7))) (eC (.int 26)) [pot true g r, .d (.int (k : Int)), .d (.str z), .d (.int a), .d (.int b), .d (.int c), .un, .d (.int q), .un] = some (.d (.int ((b + c * q) % 26)), [pot true g r, .d (.int (k : Int)), .d (.str z), .d (.int a), .d (.int b), .d (.int c), .un, .d (.int q), .un]) := by
        (simp [↓wp_tag, ↓bind_tag, wpD_some, wpD_none, wpD_bind, bindD_some, bindD_none, mDef, startA, AV.fixd, sSeq, sIf, tOfE, eOp, eUn, eCB, aNil, aCons, eV, eC, eF, eTup, ownA, resA, res, AV.see, fSubs, Da.isDict, fIx, atI, ixN, fIB, fGt, fLt, fGe, fLe, fI, fAdd, fSub, fMul, fNeg, sAsg, sSetI, sAsgR, setR, Nw.av, Nw.da, rootAt, AV.asR, own, AV.get, fMod, fDiv, setD, setDa, sRet, sRetF, resRL, resL1, backP, AV.isRoot, AV.isFix, AV.flag, eCall, callM, argsOf, argOf, rootIx, putBack, isS, R1.da, Rv.da, fLen, fLenB, fLst, eScLen, eScIx, fLtA, fAbs, fInt, eBig, fPow, sNext, List.filterMap_cons, List.findIdx?_cons, c1, c2] <;> try simp only [wpD_back, bindD_back])
      rw [eOp]
      simp only [eC, Option.bind_some, e5, res, e3]
    rw [e4, wp_some, show own _ (Lc.d (.str ⟨#[d]⟩)) = some (.str ⟨#[d]⟩) from rfl, wp_some]
    exact ⟨⟨d, rfl, e2⟩, (), trivial, rfl⟩
  · rintro ys _ _ pr
    have h1 := all_of_paired pr
    have h2 := paired_len pr
    rw [rgN_len] at h2
    obtain ⟨cs, rfl, h3⟩ : ∃ cs : List Nat, ys = cs.map (fun c => Da.str ⟨#[c]⟩) ∧ ∀ c ∈ cs, c ∈ lettersS.cps.toList := by
      clear h2 pr
      induction ys with
      | nil => exact ⟨[], rfl, fun c m => (List.not_mem_nil m).elim⟩
      | cons y ys ih =>
        obtain ⟨cs, rfl, h4⟩ := ih fun y m => h1 y (List.mem_cons_of_mem _ m)
        obtain ⟨c, rfl, h5⟩ := h1 y (List.mem_cons_self ..)
        exact ⟨c :: cs, rfl, fun d m => (List.mem_cons.mp m).elim (fun z => by rw [z]; exact h5) (h4 d)⟩
    rw [List.length_map] at h2
    refine ⟨_, rfl, ?_⟩
    refine ⟨[pot true g r, .d (.int (k : Int)), .d (.str z), .d (.int a), .d (.int b), .d (.int c), .d (.list (cs.map fun c => .str ⟨#[c]⟩)), .un, .un], rfl, cs, rfl, h2.symm, h3⟩

theorem nm_mid {z : Str} {a : Int} {c : Nat} (hz : Ls 5 z) (ha : 0 ≤ a) (hc : c ∈ lettersS.cps.toList) : Nm (cutS z none (some a) ++ ⟨#[c]⟩ ++ cutS z (some a) none) := by
  obtain ⟨n, rfl⟩ := Int.eq_ofNat_of_zero_le ha
  have l1 := cut_both z n
  have h1 := hz.1
  have one : Ls 1 (⟨#[c]⟩ : Str) := by
    refine ⟨Nat.le_refl 1, fun d m => ?_⟩
    have e : d = c := by simpa using m
    rw [e]
    exact hc
  have all := ((hz.cut none (some (n : Int))).cat one).cat (hz.cut (some (n : Int)) none)
  have len : (cutS z none (some (n : Int)) ++ ⟨#[c]⟩ ++ cutS z (some (n : Int)) none).length = z.length + 1 := by
    rw [strLen_append, strLen_append]
    have : (⟨#[c]⟩ : Str).length = 1 := rfl
    omega
  exact ⟨by rw [len]; omega, by rw [len]; omega, all.2⟩
theorem list_go {i : Nat} {α : AS} {xs : List Da} (h : α[i]? = some (.d (.list xs))) : iAny (eV i) α = some ((xs, []), α) := by
  unfold iAny iLst eV
  simp [h]
theorem names4 {g r a b c : Int} {k : Nat} {z : Str} {ys : List Nat} (hz : Ls 5 z) (ha : 0 ≤ a) (hk : ys.length ≤ 26) (hy : ∀ c ∈ ys, c ∈ lettersS.cps.toList) :
    Wp (sRet (eF (fSortM (aCons (eF (fLc (cmI (iAny (eV 6)) [8] (setD 8) tYesM (mLc (eOp fAdd (eOp fAdd (eSl (eV 2) oNone (oSome (eV 3))) (eV 8)) (eSl (eV 2) (oSome (eV 3)) oNone)))))) aNil))) [pot true g r, .d (.int (k : Int)), .d (.str z), .d (.int a), .d (.int b), .d (.int c), .d (.list (ys.map fun c => .str ⟨#[c]⟩)), .un, .un])
      fun o => ∃ (zs : List Str) (α : AS), o = .rt (.one (.d (.list (zs.map Da.str)))) (pot true g r :: α) ∧ zs.length = ys.length ∧ ∀ z ∈ zs, Nm z := by
  rw [wp_ret, wp_eF, wp_sort, wp_aCons, wp_eF]
  refine lc_go (St := fun _ : Unit => [pot true g r, .d (.int (k : Int)), .d (.str z), .d (.int a), .d (.int b), .d (.int c), .d (.list (ys.map fun c => .str ⟨#[c]⟩)), .un, .un]) (OK := fun _ => True) (P := fun _ y => ∃ x, y = .str x ∧ Nm x) (s := ()) (list_go (i := 6) rfl) trivial (noRoots_of rfl) rfl (by rw [List.length_map]; have : LIM = 1000000 := rfl; omega) ?_ ?_
  · intro y m _ _
    obtain ⟨d, md, rfl⟩ := List.mem_map.mp m
    have nm := nm_mid hz ha (hy d md)
    have l1 := (hz.cut none (some a)).1
    have l2 := (hz.cut (some a) none).1
    have s1 : (cutS z none (some a)).length ≤ SLIM := Nat.le_trans l1 (by decide)
    have s2 : (cutS z (some a) none).length ≤ SLIM := Nat.le_trans l2 (by decide)
    have o1 : (⟨#[d]⟩ : Str).length = 1 := rfl
    have s3 : (cutS z none (some a) ++ (⟨#[d]⟩ : Str)).length ≤ SLIM ∧ (cutS z none (some a)).length + (⟨#[d]⟩ : Str).length ≤ SLIM := by
      rw [strLen_append, o1]
      have : SLIM = 16000000 := rfl
      omega
    have s4 : (cutS z none (some a) ++ (⟨#[d]⟩ : Str) ++ cutS z (some a) none).length ≤ SLIM ∧ (cutS z none (some a) ++ (⟨#[d]⟩ : Str)).length + (cutS z (some a) none).length ≤ SLIM := by
      rw [strLen_append, strLen_append, o1]
      have : SLIM = 16000000 := rfl
      omega
    generalize hw : (⟨#[d]⟩ : Str) = w at *
    (simp [↓wp_tag, ↓bind_tag, wpD_some, wpD_none, wpD_bind, bindD_some, bindD_none, mDef, startA, AV.fixd, sSeq, sIf, tOfE, eOp, eUn, eCB, aNil, aCons, eV, eC, eF, eTup, ownA, resA, res, AV.see, fSubs, Da.isDict, fIx, atI, ixN, fIB, fGt, fLt, fGe, fLe, fI, fAdd, fSub, fMul, fNeg, sAsg, sSetI, sAsgR, setR, Nw.av, Nw.da, rootAt, AV.asR, own, AV.get, fMod, fDiv, setD, setDa, sRet, sRetF, resRL, resL1, backP, AV.isRoot, AV.isFix, AV.flag, eCall, callM, argsOf, argOf, rootIx, putBack, isS, R1.da, Rv.da, fLen, fLenB, fLst, eScLen, eScIx, fLtA, fAbs, fInt, eBig, fPow, sNext, List.filterMap_cons, List.findIdx?_cons, eSl, oNone, oSome, fSl, s1, s2, s3, s4, wipeA] <;> try simp only [wpD_back, bindD_back])
    exact nm
  · rintro ws _ _ pr
    have h1 := all_of_paired pr
    have h2 := paired_len pr
    rw [List.length_map] at h2
    obtain ⟨xs, rfl, h3⟩ : ∃ xs : List Str, ws = xs.map Da.str ∧ ∀ x ∈ xs, Nm x := by
      clear h2 pr
      induction ws with
      | nil => exact ⟨[], rfl, fun c m => (List.not_mem_nil m).elim⟩
      | cons y ws ih =>
        obtain ⟨cs, rfl, h4⟩ := ih fun y m => h1 y (List.mem_cons_of_mem _ m)
        obtain ⟨c, rfl, h5⟩ := h1 y (List.mem_cons_self ..)
        exact ⟨c :: cs, rfl, fun d m => (List.mem_cons.mp m).elim (fun z => by rw [z]; exact h5) (h4 d)⟩
    rw [List.length_map] at h2
    rw [wp_aNil]
    refine ⟨_, rfl, ?_⟩
    refine (sort_strs xs).mono ?_
    rintro _ ⟨us, rfl, pm⟩
    refine ⟨us, _, rfl, ?_, fun u m => h3 u (pm.mem_iff.mp m)⟩
    rw [pm.length_eq]
    exact h2.symm
theorem names_ok {fx : Bool} {g r : Int} {k : Nat} (h : PotOk g r) (hk : k ≤ 26) : Wp (F_law_names [pot fx g r, .d (.int (k : Int))]) fun y => ∃ (zs : List Str) (g r : Int), y = (.one (.d (.list (zs.map Da.str))), [pot fx g r, .d (.int (k : Int))]) ∧ PotOk g r ∧ zs.length = k ∧ ∀ z ∈ zs, Nm z := by
  have key : Wp (m_law_names (pot true g r :: .d (.int (k : Int)) :: un7)) fun o => ∃ (zs : List Str) (g r : Int) (α : AS), o = .rt (.one (.d (.list (zs.map Da.str)))) (pot true g r :: α) ∧ PotOk g r ∧ zs.length = k ∧ ∀ z ∈ zs, Nm z := by
    unfold m_law_names
    rw [wp_seq]
    refine (names1 h).mono ?_
    rintro _ ⟨z, g1, r1, rfl, p1, hz⟩
    dsimp only
    rw [wp_seq]
    refine (names2 p1 hz).mono ?_
    rintro _ ⟨a, b, c, g2, r2, rfl, p2, a0, b0, b1, c0, c1⟩
    dsimp only
    rw [wp_seq]
    refine (names3 hk c0 c1).mono ?_
    rintro _ ⟨ys, rfl, hl, hy⟩
    dsimp only
    refine (names4 (k := k) hz a0 (by omega) hy).mono ?_
    rintro _ ⟨zs, α, rfl, h1, h2⟩
    exact ⟨zs, g2, r2, α, rfl, p2, h1.trans hl, h2⟩
  obtain ⟨o, e, zs, g1, r1, α, rfl, p, h1, h2⟩ := key
  refine ⟨_, ?_, zs, g1, r1, rfl, p, h1, h2⟩
  (simp [↓wp_tag, ↓bind_tag, wpD_some, wpD_none, wpD_bind, bindD_some, bindD_none, mDef, startA, AV.fixd, sSeq, sIf, tOfE, eOp, eUn, eCB, aNil, aCons, eV, eC, eF, eTup, ownA, resA, res, AV.see, fSubs, Da.isDict, fIx, atI, ixN, fIB, fGt, fLt, fGe, fLe, fI, fAdd, fSub, fMul, fNeg, sAsg, sSetI, sAsgR, setR, Nw.av, Nw.da, rootAt, AV.asR, own, AV.get, fMod, fDiv, setD, setDa, sRet, sRetF, resRL, resL1, backP, AV.isRoot, AV.isFix, AV.flag, eCall, callM, argsOf, argOf, rootIx, putBack, isS, R1.da, Rv.da, fLen, fLenB, fLst, eScLen, eScIx, fLtA, fAbs, fInt, eBig, fPow, sNext, List.filterMap_cons, List.findIdx?_cons, F_law_names, e] <;> try simp only [wpD_back, bindD_back])
end K50

namespace K50
open PySem PySem.Spec PyProof.Rows L2 Gk Vm


section
variable {xs : List Da} {A2 A3 A4 A5 A6 A7 : AV} {m : Nat}
theorem word_lc {g r : Int} {mi : MI} (h : PotOk g r) (hx : xs ≠ []) (hl : xs.length < 1000000000) (hm : m ≤ 1000000) (e : mi [pot true g r, .d (.list xs), A2, A3, A4, A5, A6, A7, .un] = some ((rgN m, []), [pot true g r, .d (.list xs), A2, A3, A4, A5, A6, A7, .un])) :
    Wp (fLc (cmI mi [8] (setD 8) tYesM (mLc (eCall F_law_of [] (aCons (eV 0) (aCons (eV 1) aNil))))) [pot true g r, .d (.list xs), A2, A3, A4, A5, A6, A7, .un])
      fun y => ∃ (ys : List Da) (g r : Int), y = (.r (.list ys), [pot true g r, .d (.list xs), A2, A3, A4, A5, A6, A7, .un]) ∧ PotOk g r ∧ ys.length = m ∧ ∀ y ∈ ys, y ∈ xs := by
  refine lc_go (St := fun s : Int × Int => [pot true s.1 s.2, .d (.list xs), A2, A3, A4, A5, A6, A7, .un]) (OK := OKp) (P := fun _ y => y ∈ xs) (s := (g, r)) e h (noRoots_of rfl) rfl (by rw [rgN_len]; exact hm) ?_ ?_
  · intro y m ⟨ga, ra⟩ hp
    (simp [↓wp_tag, ↓bind_tag, wpD_some, wpD_none, wpD_bind, bindD_some, bindD_none, mDef, startA, AV.fixd, sSeq, sIf, tOfE, eOp, eUn, eCB, aNil, aCons, eV, eC, eF, eTup, ownA, resA, res, AV.see, fSubs, Da.isDict, fIx, atI, ixN, fIB, fGt, fLt, fGe, fLe, fI, fAdd, fSub, fMul, fNeg, sAsg, sSetI, sAsgR, setR, Nw.av, Nw.da, rootAt, AV.asR, own, AV.get, fMod, fDiv, setD, setDa, sRet, sRetF, resRL, resL1, backP, AV.isRoot, AV.isFix, AV.flag, eCall, callM, argsOf, argOf, rootIx, putBack, isS, R1.da, Rv.da, fLen, fLenB, fLst, eScLen, eScIx, fLtA, fAbs, fInt, eBig, fPow, sNext, List.filterMap_cons, List.findIdx?_cons] <;> try simp only [wpD_back, bindD_back])
    refine (of_ok (xs := xs) hp hx hl).mono ?_
    rintro _ ⟨x, g2, r2, rfl, h1, h2⟩
    (simp [↓wp_tag, ↓bind_tag, wpD_some, wpD_none, wpD_bind, bindD_some, bindD_none, mDef, startA, AV.fixd, sSeq, sIf, tOfE, eOp, eUn, eCB, aNil, aCons, eV, eC, eF, eTup, ownA, resA, res, AV.see, fSubs, Da.isDict, fIx, atI, ixN, fIB, fGt, fLt, fGe, fLe, fI, fAdd, fSub, fMul, fNeg, sAsg, sSetI, sAsgR, setR, Nw.av, Nw.da, rootAt, AV.asR, own, AV.get, fMod, fDiv, setD, setDa, sRet, sRetF, resRL, resL1, backP, AV.isRoot, AV.isFix, AV.flag, eCall, callM, argsOf, argOf, rootIx, putBack, isS, R1.da, Rv.da, fLen, fLenB, fLst, eScLen, eScIx, fLtA, fAbs, fInt, eBig, fPow, sNext, List.filterMap_cons, List.findIdx?_cons, h1, wipeA] <;> try simp only [wpD_back, bindD_back])
    exact h2
  · rintro ys ⟨g2, r2⟩ h2 pr
    refine ⟨ys, g2, r2, ?_, h2, ?_, all_of_paired pr⟩
    · simp [backA]
    · have := paired_len pr
      rw [rgN_len] at this
      exact this.symm
end
theorem at_mod {ys : List Da} {t : Nat} {q : Nat} (ht : ys.length = t) (t0 : 0 < t) : ∃ y, fSubs (.list ys) (.int ((q : Int) % (t : Int))) = some y ∧ y ∈ ys := by
  have h0 := Int.emod_nonneg (q : Int) (show (t : Int) ≠ 0 by omega)
  have h1 := Int.emod_lt_of_pos (q : Int) (show (0 : Int) < (t : Int) by omega)
  obtain ⟨n, hn⟩ := Int.eq_ofNat_of_zero_le h0
  have hl : n < ys.length := by omega
  refine ⟨ys[n], ?_, List.getElem_mem hl⟩
  show atI ys ((q : Int) % (t : Int)) = _
  rw [hn]
  unfold atI ixN
  rw [if_pos (by omega), if_pos (by omega)]
  simp [hl]
theorem word_ok {fx : Bool} {g r : Int} {names : List Str} {most : Nat} (h : PotOk g r) (hn : names ≠ []) (hl : names.length < 1000000) (hm : most ≤ 1000) :
    Wp (F_law_word [pot fx g r, .d (.list (names.map Da.str)), .d (.int (most : Int))]) fun y => ∃ (rs : List Str) (g r : Int), y = (.one (.d (.tuple (rs.map Da.str))), [pot fx g r, .d (.list (names.map Da.str)), .d (.int (most : Int))]) ∧ PotOk g r ∧ rs.length ≤ most ∧ ∀ z ∈ rs, z ∈ names := by
  generalize hxs : names.map Da.str = xs at *
  have hx : xs ≠ [] := by rw [← hxs]; simpa using hn
  have hl' : xs.length < 1000000000 := by rw [← hxs, List.length_map]; omega
  have fin : ∀ ys : List Da, (∀ y ∈ ys, y ∈ xs) → ∃ rs : List Str, ys = rs.map Da.str ∧ ∀ z ∈ rs, z ∈ names := fun ys hy => strs_of fun y m => by
    have := hy y m
    rw [← hxs] at this
    obtain ⟨z, mz, rfl⟩ := List.mem_map.mp this
    exact ⟨z, rfl, mz⟩
  have l3 : 3 ≤ LIM := by decide
  have key : Wp (m_law_word [pot true g r, .d (.list xs), .d (.int (most : Int)), .un, .un, .un, .un, .un, .un]) fun o => ∃ (ys : List Da) (g r : Int) (α : AS), o = .rt (.one (.d (.tuple ys))) (pot true g r :: α) ∧ PotOk g r ∧ ys.length ≤ most ∧ ∀ y ∈ ys, y ∈ xs := by
    unfold m_law_word
    rw [wp_seq]
    have s1 : Wp (sAsg (eTup (aCons (eCall F_law_take [] (aCons (eV 0) (aCons (eOp fAdd (eV 2) (eC (.int 1))) aNil))) (aCons (eCall F_law_take [] (aCons (eV 0) (aCons (eC (.int 4)) aNil))) (aCons (eOp fAdd (eC (.int 1)) (eCall F_law_take [] (aCons (eV 0) (aCons (eC (.int 3)) aNil)))) aNil)))) (gTupD 3 (gsCons (setD 3) (gsCons (setD 4) (gsCons (setD 5) gsNil)))) [pot true g r, .d (.list xs), .d (.int (most : Int)), .un, .un, .un, .un, .un, .un])
        fun o => ∃ (a : Nat) (b : Int) (c : Nat) (g r : Int), o = .nx [pot true g r, .d (.list xs), .d (.int (most : Int)), .d (.int a), .d (.int b), .d (.int c), .un, .un, .un] ∧ PotOk g r ∧ a ≤ most ∧ 0 < c ∧ c ≤ 3 := by
      generalize hM : (most : Int) = M at *
      (simp [↓wp_tag, ↓bind_tag, wpD_some, wpD_none, wpD_bind, bindD_some, bindD_none, mDef, startA, AV.fixd, sSeq, sIf, tOfE, eOp, eUn, eCB, aNil, aCons, eV, eC, eF, eTup, ownA, resA, res, AV.see, fSubs, Da.isDict, fIx, atI, ixN, fIB, fGt, fLt, fGe, fLe, fI, fAdd, fSub, fMul, fNeg, sAsg, sSetI, sAsgR, setR, Nw.av, Nw.da, rootAt, AV.asR, own, AV.get, fMod, fDiv, setD, setDa, sRet, sRetF, resRL, resL1, backP, AV.isRoot, AV.isFix, AV.flag, eCall, callM, argsOf, argOf, rootIx, putBack, isS, R1.da, Rv.da, fLen, fLenB, fLst, eScLen, eScIx, fLtA, fAbs, fInt, eBig, fPow, sNext, List.filterMap_cons, List.findIdx?_cons, gTupD, gsCons, gsNil] <;> try simp only [wpD_back, bindD_back])
      refine (take_ok h (n := M + 1) (by omega) (by omega)).mono ?_
      rintro _ ⟨x, g1, r1, rfl, h1, h2, h3⟩
      (simp [↓wp_tag, ↓bind_tag, wpD_some, wpD_none, wpD_bind, bindD_some, bindD_none, mDef, startA, AV.fixd, sSeq, sIf, tOfE, eOp, eUn, eCB, aNil, aCons, eV, eC, eF, eTup, ownA, resA, res, AV.see, fSubs, Da.isDict, fIx, atI, ixN, fIB, fGt, fLt, fGe, fLe, fI, fAdd, fSub, fMul, fNeg, sAsg, sSetI, sAsgR, setR, Nw.av, Nw.da, rootAt, AV.asR, own, AV.get, fMod, fDiv, setD, setDa, sRet, sRetF, resRL, resL1, backP, AV.isRoot, AV.isFix, AV.flag, eCall, callM, argsOf, argOf, rootIx, putBack, isS, R1.da, Rv.da, fLen, fLenB, fLst, eScLen, eScIx, fLtA, fAbs, fInt, eBig, fPow, sNext, List.filterMap_cons, List.findIdx?_cons] <;> try simp only [wpD_back, bindD_back])
      refine (take_ok h3 (n := 4) (by decide) (by decide)).mono ?_
      rintro _ ⟨y, g2, r2, rfl, h4, h5, h6⟩
      (simp [↓wp_tag, ↓bind_tag, wpD_some, wpD_none, wpD_bind, bindD_some, bindD_none, mDef, startA, AV.fixd, sSeq, sIf, tOfE, eOp, eUn, eCB, aNil, aCons, eV, eC, eF, eTup, ownA, resA, res, AV.see, fSubs, Da.isDict, fIx, atI, ixN, fIB, fGt, fLt, fGe, fLe, fI, fAdd, fSub, fMul, fNeg, sAsg, sSetI, sAsgR, setR, Nw.av, Nw.da, rootAt, AV.asR, own, AV.get, fMod, fDiv, setD, setDa, sRet, sRetF, resRL, resL1, backP, AV.isRoot, AV.isFix, AV.flag, eCall, callM, argsOf, argOf, rootIx, putBack, isS, R1.da, Rv.da, fLen, fLenB, fLst, eScLen, eScIx, fLtA, fAbs, fInt, eBig, fPow, sNext, List.filterMap_cons, List.findIdx?_cons] <;> try simp only [wpD_back, bindD_back])
      refine (take_ok h6 (n := 3) (by decide) (by decide)).mono ?_
      rintro _ ⟨c, g3, r3, rfl, h7, h8, h9⟩
      obtain ⟨a, ha⟩ := Int.eq_ofNat_of_zero_le h1
      obtain ⟨d, hd⟩ := Int.eq_ofNat_of_zero_le (show 0 ≤ 1 + c by omega)
      (simp [↓wp_tag, ↓bind_tag, wpD_some, wpD_none, wpD_bind, bindD_some, bindD_none, mDef, startA, AV.fixd, sSeq, sIf, tOfE, eOp, eUn, eCB, aNil, aCons, eV, eC, eF, eTup, ownA, resA, res, AV.see, fSubs, Da.isDict, fIx, atI, ixN, fIB, fGt, fLt, fGe, fLe, fI, fAdd, fSub, fMul, fNeg, sAsg, sSetI, sAsgR, setR, Nw.av, Nw.da, rootAt, AV.asR, own, AV.get, fMod, fDiv, setD, setDa, sRet, sRetF, resRL, resL1, backP, AV.isRoot, AV.isFix, AV.flag, eCall, callM, argsOf, argOf, rootIx, putBack, isS, R1.da, Rv.da, fLen, fLenB, fLst, eScLen, eScIx, fLtA, fAbs, fInt, eBig, fPow, sNext, List.filterMap_cons, List.findIdx?_cons, l3, gTupD, gsCons, gsNil] <;> try simp only [wpD_back, bindD_back])
      exact ⟨a, y, d, g3, r3, ⟨⟨rfl, rfl⟩, ha, rfl, hd⟩, h9, by omega, by omega, by omega⟩
    refine s1.mono ?_
    rintro _ ⟨a, b, c, g1, r1, rfl, p1, ha, c0, c1⟩
    dsimp only
    rw [wp_seq, wp_asg, wp_eF]
    refine (word_lc (m := c) p1 hx hl' (by omega) (rg1_go (ls := [.s 5]) rfl rfl (by omega))).mono ?_
    rintro _ ⟨ring, g2, r2, rfl, p2, hring, mring⟩
    refine ⟨_, rfl, [pot true g2 r2, .d (.list xs), .d (.int (most : Int)), .d (.int a), .d (.int b), .d (.int c), .d (.list ring), .un, .un], rfl, ?_⟩
    dsimp only
    rw [wp_seq]
    by_cases hb : b = 0
    · refine sif_true (α1 := [pot true g2 r2, .d (.list xs), .d (.int (most : Int)), .d (.int a), .d (.int b), .d (.int c), .d (.list ring), .un, .un]) (by (simp [↓wp_tag, ↓bind_tag, wpD_some, wpD_none, wpD_bind, bindD_some, bindD_none, mDef, startA, AV.fixd, sSeq, sIf, tOfE, eOp, eUn, eCB, aNil, aCons, eV, eC, eF, eTup, ownA, resA, res, AV.see, fSubs, Da.isDict, fIx, atI, ixN, fIB, fGt, fLt, fGe, fLe, fI, fAdd, fSub, fMul, fNeg, sAsg, sSetI, sAsgR, setR, Nw.av, Nw.da, rootAt, AV.asR, own, AV.get, fMod, fDiv, setD, setDa, sRet, sRetF, resRL, resL1, backP, AV.isRoot, AV.isFix, AV.flag, eCall, callM, argsOf, argOf, rootIx, putBack, isS, R1.da, Rv.da, fLen, fLenB, fLst, eScLen, eScIx, fLtA, fAbs, fInt, eBig, fPow, sNext, List.filterMap_cons, List.findIdx?_cons, eqS_int, hb] <;> try simp only [wpD_back, bindD_back])) ?_
      rw [wp_ret, wp_eCB, wp_aCons, wp_eF]
      refine (word_lc (m := a) p2 hx hl' (by omega) (rg1_go (ls := [.s 3]) rfl rfl (by omega))).mono ?_
      rintro _ ⟨ys, g3, r3, rfl, p3, hys, mys⟩
      rw [wp_aNil]
      exact ⟨_, rfl, _, rfl, ys, g3, r3, _, rfl, p3, by omega, mys⟩
    refine sif_false (α1 := [pot true g2 r2, .d (.list xs), .d (.int (most : Int)), .d (.int a), .d (.int b), .d (.int c), .d (.list ring), .un, .un]) (by (simp [↓wp_tag, ↓bind_tag, wpD_some, wpD_none, wpD_bind, bindD_some, bindD_none, mDef, startA, AV.fixd, sSeq, sIf, tOfE, eOp, eUn, eCB, aNil, aCons, eV, eC, eF, eTup, ownA, resA, res, AV.see, fSubs, Da.isDict, fIx, atI, ixN, fIB, fGt, fLt, fGe, fLe, fI, fAdd, fSub, fMul, fNeg, sAsg, sSetI, sAsgR, setR, Nw.av, Nw.da, rootAt, AV.asR, own, AV.get, fMod, fDiv, setD, setDa, sRet, sRetF, resRL, resL1, backP, AV.isRoot, AV.isFix, AV.flag, eCall, callM, argsOf, argOf, rootIx, putBack, isS, R1.da, Rv.da, fLen, fLenB, fLst, eScLen, eScIx, fLtA, fAbs, fInt, eBig, fPow, sNext, List.filterMap_cons, List.findIdx?_cons, eqS_int, hb] <;> try simp only [wpD_back, bindD_back])) ?_
    rw [wp_next]
    dsimp only
    rw [wp_seq, wp_asgR]
    refine lc_go (St := fun _ : Unit => [pot true g2 r2, .d (.list xs), .d (.int (most : Int)), .d (.int a), .d (.int b), .d (.int c), .d (.list ring), .un, .un]) (OK := fun _ => True) (P := fun _ y => y ∈ xs) (s := ()) (rg1_go (ls := [.s 3]) rfl rfl (by omega)) trivial (noRoots_of rfl) rfl (by rw [rgN_len]; have : LIM = 1000000 := rfl; omega) ?_ ?_
    · intro y m _ _
      obtain ⟨j, hj, rfl⟩ := rgN_mem m
      obtain ⟨y, e1, e2⟩ := at_mod (q := j) hring c0
      have c0' : (0 : Int) < (c : Int) := by omega
      generalize hq : (j : Int) = q at *
      generalize hcc : (c : Int) = cc at *
      rw [show setD 8 (.int q) [pot true g2 r2, .d (.list xs), .d (.int (most : Int)), .d (.int a), .d (.int b), .d (.int cc), .d (.list ring), .un, .un] = some [pot true g2 r2, .d (.list xs), .d (.int (most : Int)), .d (.int a), .d (.int b), .d (.int cc), .d (.list ring), .un, .d (.int q)] from rfl, wp_some]
      have e5 : eOp fMod (eV 8) (eV 5) [pot true g2 r2, .d (.list xs), .d (.int (most : Int)), .d (.int a), .d (.int b), .d (.int cc), .d (.list ring), .un, .d (.int q)] = some (.d (.int (q % cc)), [pot true g2 r2, .d (.list xs), .d (.int (most : Int)), .d (.int a), .d (.int b), .d (.int cc), .d (.list ring), .un, .d (.int q)]) := by
        (simp [↓wp_tag, ↓bind_tag, wpD_some, wpD_none, wpD_bind, bindD_some, bindD_none, mDef, startA, AV.fixd, sSeq, sIf, tOfE, eOp, eUn, eCB, aNil, aCons, eV, eC, eF, eTup, ownA, resA, res, AV.see, fSubs, Da.isDict, fIx, atI, ixN, fIB, fGt, fLt, fGe, fLe, fI, fAdd, fSub, fMul, fNeg, sAsg, sSetI, sAsgR, setR, Nw.av, Nw.da, rootAt, AV.asR, own, AV.get, fMod, fDiv, setD, setDa, sRet, sRetF, resRL, resL1, backP, AV.isRoot, AV.isFix, AV.flag, eCall, callM, argsOf, argOf, rootIx, putBack, isS, R1.da, Rv.da, fLen, fLenB, fLst, eScLen, eScIx, fLtA, fAbs, fInt, eBig, fPow, sNext, List.filterMap_cons, List.findIdx?_cons, c0'] <;> try simp only [wpD_back, bindD_back])
      have e4 : eOp fSubs (eV 6) (eOp fMod (eV 8) (eV 5)) [pot true g2 r2, .d (.list xs), .d (.int (most : Int)), .d (.int a), .d (.int b), .d (.int cc), .d (.list ring), .un, .d (.int q)] = some (.d y, [pot true g2 r2, .d (.list xs), .d (.int (most : Int)), .d (.int a), .d (.int b), .d (.int cc), .d (.list ring), .un, .d (.int q)]) := by
        rw [eOp]
        rw [show eV 6 [pot true g2 r2, .d (.list xs), .d (.int (most : Int)), .d (.int a), .d (.int b), .d (.int cc), .d (.list ring), .un, .d (.int q)] = some (.s 6, [pot true g2 r2, .d (.list xs), .d (.int (most : Int)), .d (.int a), .d (.int b), .d (.int cc), .d (.list ring), .un, .d (.int q)]) from rfl]
        simp only [Option.bind_some, e5, res]
        simp [AV.see, e1]
      rw [e4, wp_some, show own _ (Lc.d y) = some y from rfl, wp_some]
      exact ⟨mring y e2, (), trivial, rfl⟩
    rintro found _ _ pr
    have hf := paired_len pr
    rw [rgN_len] at hf
    have mf := all_of_paired pr
    refine ⟨[pot true g2 r2, .d (.list xs), .d (.int (most : Int)), .d (.int a), .d (.int b), .d (.int c), .d (.list ring), .r false false (.list found), .un], rfl, ?_⟩
    dsimp only
    rw [wp_seq]
    have put : ∀ (g r : Int) (found : List Da) (kk : ME) (kv : Int) (n : Nat), PotOk g r → found.length = a → (∀ y ∈ found, y ∈ xs) → (∀ α, kk α = some (.d (.int kv), α)) → ixN a kv = some n →
        Wp (sSetI 7 (eCall F_law_of [] (aCons (eV 0) (aCons (eV 1) aNil))) kk [pot true g r, .d (.list xs), .d (.int (most : Int)), .d (.int a), .d (.int b), .d (.int c), .d (.list ring), .r false false (.list found), .un])
          fun o => ∃ (found : List Da) (g r : Int), o = .nx [pot true g r, .d (.list xs), .d (.int (most : Int)), .d (.int a), .d (.int b), .d (.int c), .d (.list ring), .r false false (.list found), .un] ∧ PotOk g r ∧ found.length = a ∧ ∀ y ∈ found, y ∈ xs := by
      intro g r found kk kv n p hl mm hk hn
      (simp [↓wp_tag, ↓bind_tag, wpD_some, wpD_none, wpD_bind, bindD_some, bindD_none, mDef, startA, AV.fixd, sSeq, sIf, tOfE, eOp, eUn, eCB, aNil, aCons, eV, eC, eF, eTup, ownA, resA, res, AV.see, fSubs, Da.isDict, fIx, atI, ixN, fIB, fGt, fLt, fGe, fLe, fI, fAdd, fSub, fMul, fNeg, sAsg, sSetI, sAsgR, setR, Nw.av, Nw.da, rootAt, AV.asR, own, AV.get, fMod, fDiv, setD, setDa, sRet, sRetF, resRL, resL1, backP, AV.isRoot, AV.isFix, AV.flag, eCall, callM, argsOf, argOf, rootIx, putBack, isS, R1.da, Rv.da, fLen, fLenB, fLst, eScLen, eScIx, fLtA, fAbs, fInt, eBig, fPow, sNext, List.filterMap_cons, List.findIdx?_cons, hk] <;> try simp only [wpD_back, bindD_back])
      refine (of_ok (xs := xs) p hx hl').mono ?_
      rintro _ ⟨x, g4, r4, rfl, h1, h2⟩
      have hn' : (if 0 ≤ kv then if kv < (found.length : Int) then some kv.toNat else none else if -(found.length : Int) ≤ kv then some (kv + (found.length : Int)).toNat else none) = some n := by
        rw [hl]; exact hn
      (simp [↓wp_tag, ↓bind_tag, wpD_some, wpD_none, wpD_bind, bindD_some, bindD_none, mDef, startA, AV.fixd, sSeq, sIf, tOfE, eOp, eUn, eCB, aNil, aCons, eV, eC, eF, eTup, ownA, resA, res, AV.see, fSubs, Da.isDict, fIx, atI, ixN, fIB, fGt, fLt, fGe, fLe, fI, fAdd, fSub, fMul, fNeg, sAsg, sSetI, sAsgR, setR, Nw.av, Nw.da, rootAt, AV.asR, own, AV.get, fMod, fDiv, setD, setDa, sRet, sRetF, resRL, resL1, backP, AV.isRoot, AV.isFix, AV.flag, eCall, callM, argsOf, argOf, rootIx, putBack, isS, R1.da, Rv.da, fLen, fLenB, fLst, eScLen, eScIx, fLtA, fAbs, fInt, eBig, fPow, sNext, List.filterMap_cons, List.findIdx?_cons, hk, hn'] <;> try simp only [wpD_back, bindD_back])
      refine ⟨_, _, _, ⟨⟨rfl, rfl⟩, rfl⟩, h2, by rw [List.length_set]; exact hl, fun y m => ?_⟩
      rcases List.mem_or_eq_of_mem_set m with z | z
      · exact mm y z
      · rw [z]; exact h1
    have w5 : Wp (sIf (mAnd (tOfE (eOp fGt (eV 4) (eC (.int 1)))) (tOfE (eOp fGt (eV 3) (eC (.int 1))))) (sSetI 7 (eCall F_law_of [] (aCons (eV 0) (aCons (eV 1) aNil))) (eUn fNeg (eC (.int 1)))) sNext [pot true g2 r2, .d (.list xs), .d (.int (most : Int)), .d (.int a), .d (.int b), .d (.int c), .d (.list ring), .r false false (.list found), .un])
        fun o => ∃ (found : List Da) (g r : Int), o = .nx [pot true g r, .d (.list xs), .d (.int (most : Int)), .d (.int a), .d (.int b), .d (.int c), .d (.list ring), .r false false (.list found), .un] ∧ PotOk g r ∧ found.length = a ∧ ∀ y ∈ found, y ∈ xs := by
      by_cases hh : 1 < b ∧ 1 < a
      · refine sif_true (α1 := [pot true g2 r2, .d (.list xs), .d (.int (most : Int)), .d (.int a), .d (.int b), .d (.int c), .d (.list ring), .r false false (.list found), .un]) (by (simp [↓wp_tag, ↓bind_tag, wpD_some, wpD_none, wpD_bind, bindD_some, bindD_none, mDef, startA, AV.fixd, sSeq, sIf, tOfE, eOp, eUn, eCB, aNil, aCons, eV, eC, eF, eTup, ownA, resA, res, AV.see, fSubs, Da.isDict, fIx, atI, ixN, fIB, fGt, fLt, fGe, fLe, fI, fAdd, fSub, fMul, fNeg, sAsg, sSetI, sAsgR, setR, Nw.av, Nw.da, rootAt, AV.asR, own, AV.get, fMod, fDiv, setD, setDa, sRet, sRetF, resRL, resL1, backP, AV.isRoot, AV.isFix, AV.flag, eCall, callM, argsOf, argOf, rootIx, putBack, isS, R1.da, Rv.da, fLen, fLenB, fLst, eScLen, eScIx, fLtA, fAbs, fInt, eBig, fPow, sNext, List.filterMap_cons, List.findIdx?_cons, mAnd, hh.1, show (1 : Int) < (a : Int) by omega] <;> try simp only [wpD_back, bindD_back])) ?_
        refine put g2 r2 found _ (-1) (a - 1) p2 hf.symm mf (fun α => rfl) ?_
        unfold ixN
        rw [if_neg (by decide), if_pos (by omega)]
        congr 1
        omega
      · refine sif_false (α1 := [pot true g2 r2, .d (.list xs), .d (.int (most : Int)), .d (.int a), .d (.int b), .d (.int c), .d (.list ring), .r false false (.list found), .un]) ?_ ?_
        · by_cases hb1 : 1 < b
          · have this : ¬ (1 : Int) < (a : Int) := fun z => hh ⟨hb1, by omega⟩
            (simp [↓wp_tag, ↓bind_tag, wpD_some, wpD_none, wpD_bind, bindD_some, bindD_none, mDef, startA, AV.fixd, sSeq, sIf, tOfE, eOp, eUn, eCB, aNil, aCons, eV, eC, eF, eTup, ownA, resA, res, AV.see, fSubs, Da.isDict, fIx, atI, ixN, fIB, fGt, fLt, fGe, fLe, fI, fAdd, fSub, fMul, fNeg, sAsg, sSetI, sAsgR, setR, Nw.av, Nw.da, rootAt, AV.asR, own, AV.get, fMod, fDiv, setD, setDa, sRet, sRetF, resRL, resL1, backP, AV.isRoot, AV.isFix, AV.flag, eCall, callM, argsOf, argOf, rootIx, putBack, isS, R1.da, Rv.da, fLen, fLenB, fLst, eScLen, eScIx, fLtA, fAbs, fInt, eBig, fPow, sNext, List.filterMap_cons, List.findIdx?_cons, mAnd, hb1, this] <;> try simp only [wpD_back, bindD_back])
          · (simp [↓wp_tag, ↓bind_tag, wpD_some, wpD_none, wpD_bind, bindD_some, bindD_none, mDef, startA, AV.fixd, sSeq, sIf, tOfE, eOp, eUn, eCB, aNil, aCons, eV, eC, eF, eTup, ownA, resA, res, AV.see, fSubs, Da.isDict, fIx, atI, ixN, fIB, fGt, fLt, fGe, fLe, fI, fAdd, fSub, fMul, fNeg, sAsg, sSetI, sAsgR, setR, Nw.av, Nw.da, rootAt, AV.asR, own, AV.get, fMod, fDiv, setD, setDa, sRet, sRetF, resRL, resL1, backP, AV.isRoot, AV.isFix, AV.flag, eCall, callM, argsOf, argOf, rootIx, putBack, isS, R1.da, Rv.da, fLen, fLenB, fLst, eScLen, eScIx, fLtA, fAbs, fInt, eBig, fPow, sNext, List.filterMap_cons, List.findIdx?_cons, mAnd, hb1] <;> try simp only [wpD_back, bindD_back])
        · rw [wp_next]
          exact ⟨found, g2, r2, rfl, p2, hf.symm, mf⟩
    refine w5.mono ?_
    rintro _ ⟨found, g3, r3, rfl, p3, hf, mf⟩
    dsimp only
    rw [wp_seq]
    have w6 : Wp (sIf (mAnd (tOfE (eOp fEqS (eV 4) (eC (.int 3)))) (tOfE (eOp fGt (eV 3) (eC (.int 2))))) (sSetI 7 (eCall F_law_of [] (aCons (eV 0) (aCons (eV 1) aNil))) (eC (.int 0))) sNext [pot true g3 r3, .d (.list xs), .d (.int (most : Int)), .d (.int a), .d (.int b), .d (.int c), .d (.list ring), .r false false (.list found), .un])
        fun o => ∃ (found : List Da) (g r : Int), o = .nx [pot true g r, .d (.list xs), .d (.int (most : Int)), .d (.int a), .d (.int b), .d (.int c), .d (.list ring), .r false false (.list found), .un] ∧ PotOk g r ∧ found.length = a ∧ ∀ y ∈ found, y ∈ xs := by
      by_cases hh : b = 3 ∧ 2 < a
      · refine sif_true (α1 := [pot true g3 r3, .d (.list xs), .d (.int (most : Int)), .d (.int a), .d (.int b), .d (.int c), .d (.list ring), .r false false (.list found), .un]) (by (simp [↓wp_tag, ↓bind_tag, wpD_some, wpD_none, wpD_bind, bindD_some, bindD_none, mDef, startA, AV.fixd, sSeq, sIf, tOfE, eOp, eUn, eCB, aNil, aCons, eV, eC, eF, eTup, ownA, resA, res, AV.see, fSubs, Da.isDict, fIx, atI, ixN, fIB, fGt, fLt, fGe, fLe, fI, fAdd, fSub, fMul, fNeg, sAsg, sSetI, sAsgR, setR, Nw.av, Nw.da, rootAt, AV.asR, own, AV.get, fMod, fDiv, setD, setDa, sRet, sRetF, resRL, resL1, backP, AV.isRoot, AV.isFix, AV.flag, eCall, callM, argsOf, argOf, rootIx, putBack, isS, R1.da, Rv.da, fLen, fLenB, fLst, eScLen, eScIx, fLtA, fAbs, fInt, eBig, fPow, sNext, List.filterMap_cons, List.findIdx?_cons, mAnd, eqS_int, hh.1, show (2 : Int) < (a : Int) by omega] <;> try simp only [wpD_back, bindD_back])) ?_
        refine put g3 r3 found _ 0 0 p3 hf mf (fun α => rfl) ?_
        unfold ixN
        rw [if_pos (by decide), if_pos (by omega)]
        rfl
      · refine sif_false (α1 := [pot true g3 r3, .d (.list xs), .d (.int (most : Int)), .d (.int a), .d (.int b), .d (.int c), .d (.list ring), .r false false (.list found), .un]) ?_ ?_
        · by_cases hb1 : b = 3
          · have this : ¬ (2 : Int) < (a : Int) := fun z => hh ⟨hb1, by omega⟩
            (simp [↓wp_tag, ↓bind_tag, wpD_some, wpD_none, wpD_bind, bindD_some, bindD_none, mDef, startA, AV.fixd, sSeq, sIf, tOfE, eOp, eUn, eCB, aNil, aCons, eV, eC, eF, eTup, ownA, resA, res, AV.see, fSubs, Da.isDict, fIx, atI, ixN, fIB, fGt, fLt, fGe, fLe, fI, fAdd, fSub, fMul, fNeg, sAsg, sSetI, sAsgR, setR, Nw.av, Nw.da, rootAt, AV.asR, own, AV.get, fMod, fDiv, setD, setDa, sRet, sRetF, resRL, resL1, backP, AV.isRoot, AV.isFix, AV.flag, eCall, callM, argsOf, argOf, rootIx, putBack, isS, R1.da, Rv.da, fLen, fLenB, fLst, eScLen, eScIx, fLtA, fAbs, fInt, eBig, fPow, sNext, List.filterMap_cons, List.findIdx?_cons, mAnd, eqS_int, hb1, this] <;> try simp only [wpD_back, bindD_back])
          · (simp [↓wp_tag, ↓bind_tag, wpD_some, wpD_none, wpD_bind, bindD_some, bindD_none, mDef, startA, AV.fixd, sSeq, sIf, tOfE, eOp, eUn, eCB, aNil, aCons, eV, eC, eF, eTup, ownA, resA, res, AV.see, fSubs, Da.isDict, fIx, atI, ixN, fIB, fGt, fLt, fGe, fLe, fI, fAdd, fSub, fMul, fNeg, sAsg, sSetI, sAsgR, setR, Nw.av, Nw.da, rootAt, AV.asR, own, AV.get, fMod, fDiv, setD, setDa, sRet, sRetF, resRL, resL1, backP, AV.isRoot, AV.isFix, AV.flag, eCall, callM, argsOf, argOf, rootIx, putBack, isS, R1.da, Rv.da, fLen, fLenB, fLst, eScLen, eScIx, fLtA, fAbs, fInt, eBig, fPow, sNext, List.filterMap_cons, List.findIdx?_cons, mAnd, eqS_int, hb1] <;> try simp only [wpD_back, bindD_back])
        · rw [wp_next]
          exact ⟨found, g3, r3, rfl, p3, hf, mf⟩
    refine w6.mono ?_
    rintro _ ⟨found, g4, r4, rfl, p4, hf, mf⟩
    exact ⟨_, rfl, found, g4, r4, _, rfl, p4, by omega, mf⟩
  obtain ⟨o, e, ys, g1, r1, α, rfl, p, h1, h2⟩ := key
  obtain ⟨rs, rfl, h3⟩ := fin ys h2
  refine ⟨_, ?_, rs, g1, r1, rfl, p, by rw [List.length_map] at h1; exact h1, h3⟩
  (simp [↓wp_tag, ↓bind_tag, wpD_some, wpD_none, wpD_bind, bindD_some, bindD_none, mDef, startA, AV.fixd, sSeq, sIf, tOfE, eOp, eUn, eCB, aNil, aCons, eV, eC, eF, eTup, ownA, resA, res, AV.see, fSubs, Da.isDict, fIx, atI, ixN, fIB, fGt, fLt, fGe, fLe, fI, fAdd, fSub, fMul, fNeg, sAsg, sSetI, sAsgR, setR, Nw.av, Nw.da, rootAt, AV.asR, own, AV.get, fMod, fDiv, setD, setDa, sRet, sRetF, resRL, resL1, backP, AV.isRoot, AV.isFix, AV.flag, eCall, callM, argsOf, argOf, rootIx, putBack, isS, R1.da, Rv.da, fLen, fLenB, fLst, eScLen, eScIx, fLtA, fAbs, fInt, eBig, fPow, sNext, List.filterMap_cons, List.findIdx?_cons, F_law_word, e] <;> try simp only [wpD_back, bindD_back])
end K50

namespace K50
open PySem PySem.Spec PyProof.Rows L2 Gk Vm


abbrev Post := Nat × Str × List Nat
def natsT (bs : List Nat) : Da := .tuple (bs.map fun b : Nat => .int (b : Int))
def postT (e : Post) : Da := .tuple [.int (e.1 : Int), .str e.2.1, natsT e.2.2]
structure PostOk (n : Nat) (names : List Str) (most : Nat) (e : Post) : Prop where
  at_ : e.1 < n
  nm : e.2.1 ∈ names
  ne : e.2.2 ≠ []
  arms : ∀ b ∈ e.2.2, b < n
  few : e.2.2.length ≤ most
  up : e.2.2.Pairwise (· < ·)
abbrev webS (n : Nat) (names : List Str) (most : Nat) (fr : List AV) (s : Int × Int × List Post × AV × AV × AV × AV) : AS :=
  [pot true s.1 s.2.1, .d (.int (n : Int)), .d (.list (names.map Da.str)), .d (.int (most : Int)), .r false false (.list (s.2.2.1.map postT)), s.2.2.2.1, s.2.2.2.2.1, s.2.2.2.2.2.1, s.2.2.2.2.2.2]
structure WebJ (n : Nat) (names : List Str) (most k : Nat) (s : Int × Int × List Post × AV × AV × AV × AV) : Prop where
  p : PotOk s.1 s.2.1
  ok : ∀ e ∈ s.2.2.1, PostOk n names most e
  len : s.2.2.1.length ≤ k
  f5 : s.2.2.2.1.isFix = false
  f6 : s.2.2.2.2.1.isFix = false
  f7 : s.2.2.2.2.2.1.isFix = false
  f8 : s.2.2.2.2.2.2.isFix = false
section
variable {n most : Nat} {names : List Str}
/-- the arms of a post -/
theorem arms_ok {g r : Int} {posts : List Da} {c : Nat} {z : Str} {A8 : AV} (h : PotOk g r) (hn : 0 < n) (hn2 : n ≤ 1000) (hm : most ≤ 1000) (f8 : A8.isFix = false) :
    Wp (sForD (iRg1 (aCons (eCall F_law_take [] (aCons (eV 0) (aCons (eOp fAdd (eV 3) (eC (.int 1))) aNil))) aNil)) (setD 8) (sSetI 7 (eC (.bool true)) (eCall F_law_take [] (aCons (eV 0) (aCons (eV 1) aNil))))
      [pot true g r, .d (.int (n : Int)), .d (.list (names.map Da.str)), .d (.int (most : Int)), .r false false (.list posts), .d (.int (c : Int)), .d (.str z), .r false false (.dk []), A8])
      fun o => ∃ (bs : List Nat) (g r : Int) (A8 : AV), o = .nx [pot true g r, .d (.int (n : Int)), .d (.list (names.map Da.str)), .d (.int (most : Int)), .r false false (.list posts), .d (.int (c : Int)), .d (.str z), .r false false (.dk (armD bs)), A8] ∧ PotOk g r ∧ (∀ b ∈ bs, b < n) ∧ bs.length ≤ most ∧ bs.Nodup ∧ A8.isFix = false := by
  have hi : Wp (iRg1 (aCons (eCall F_law_take [] (aCons (eV 0) (aCons (eOp fAdd (eV 3) (eC (.int 1))) aNil))) aNil) [pot true g r, .d (.int (n : Int)), .d (.list (names.map Da.str)), .d (.int (most : Int)), .r false false (.list posts), .d (.int (c : Int)), .d (.str z), .r false false (.dk []), A8])
      fun x => ∃ (m : Nat) (g r : Int), x = ((rgN m, []), [pot true g r, .d (.int (n : Int)), .d (.list (names.map Da.str)), .d (.int (most : Int)), .r false false (.list posts), .d (.int (c : Int)), .d (.str z), .r false false (.dk []), A8]) ∧ PotOk g r ∧ m ≤ most := by
    have key : Wp (aCons (eCall F_law_take [] (aCons (eV 0) (aCons (eOp fAdd (eV 3) (eC (.int 1))) aNil))) aNil [pot true g r, .d (.int (n : Int)), .d (.list (names.map Da.str)), .d (.int (most : Int)), .r false false (.list posts), .d (.int (c : Int)), .d (.str z), .r false false (.dk []), A8])
        fun x => ∃ (m : Nat) (g r : Int), x = ([.d (.int (m : Int))], [pot true g r, .d (.int (n : Int)), .d (.list (names.map Da.str)), .d (.int (most : Int)), .r false false (.list posts), .d (.int (c : Int)), .d (.str z), .r false false (.dk []), A8]) ∧ PotOk g r ∧ m ≤ most := by
      generalize hM : (most : Int) = M at *
      (simp [↓wp_tag, ↓bind_tag, wpD_some, wpD_none, wpD_bind, bindD_some, bindD_none, mDef, startA, AV.fixd, sSeq, sIf, tOfE, eOp, eUn, eCB, aNil, aCons, eV, eC, eF, eTup, ownA, resA, res, AV.see, fSubs, Da.isDict, fIx, atI, ixN, fIB, fGt, fLt, fGe, fLe, fI, fAdd, fSub, fMul, fNeg, sAsg, sSetI, sAsgR, setR, Nw.av, Nw.da, rootAt, AV.asR, own, AV.get, fMod, fDiv, setD, setDa, sRet, sRetF, resRL, resL1, backP, AV.isRoot, AV.isFix, AV.flag, eCall, callM, argsOf, argOf, rootIx, putBack, isS, R1.da, Rv.da, fLen, fLenB, fLst, eScLen, eScIx, fLtA, fAbs, fInt, eBig, fPow, sNext, List.filterMap_cons, List.findIdx?_cons] <;> try simp only [wpD_back, bindD_back])
      refine (take_ok h (n := M + 1) (by omega) (by omega)).mono ?_
      rintro _ ⟨x, g1, r1, rfl, h1, h2, h3⟩
      obtain ⟨m, hm⟩ := Int.eq_ofNat_of_zero_le h1
      (simp [↓wp_tag, ↓bind_tag, wpD_some, wpD_none, wpD_bind, bindD_some, bindD_none, mDef, startA, AV.fixd, sSeq, sIf, tOfE, eOp, eUn, eCB, aNil, aCons, eV, eC, eF, eTup, ownA, resA, res, AV.see, fSubs, Da.isDict, fIx, atI, ixN, fIB, fGt, fLt, fGe, fLe, fI, fAdd, fSub, fMul, fNeg, sAsg, sSetI, sAsgR, setR, Nw.av, Nw.da, rootAt, AV.asR, own, AV.get, fMod, fDiv, setD, setDa, sRet, sRetF, resRL, resL1, backP, AV.isRoot, AV.isFix, AV.flag, eCall, callM, argsOf, argOf, rootIx, putBack, isS, R1.da, Rv.da, fLen, fLenB, fLst, eScLen, eScIx, fLtA, fAbs, fInt, eBig, fPow, sNext, List.filterMap_cons, List.findIdx?_cons] <;> try simp only [wpD_back, bindD_back])
      exact ⟨m, g1, r1, ⟨hm, rfl, rfl⟩, h3, by omega⟩
    obtain ⟨_, e, m, g1, r1, rfl, p1, hm1⟩ := key
    exact ⟨_, rg1_go e rfl (by omega), m, g1, r1, rfl, p1, hm1⟩
  obtain ⟨_, e, m, g1, r1, rfl, p1, hm1⟩ := hi
  refine for_inv (fun s : Int × Int × List Nat × AV => [pot true s.1 s.2.1, .d (.int (n : Int)), .d (.list (names.map Da.str)), .d (.int (most : Int)), .r false false (.list posts), .d (.int (c : Int)), .d (.str z), .r false false (.dk (armD s.2.2.1)), s.2.2.2])
    (fun k s => PotOk s.1 s.2.1 ∧ (∀ b ∈ s.2.2.1, b < n) ∧ s.2.2.1.length ≤ k ∧ s.2.2.1.Nodup ∧ s.2.2.2.isFix = false) (g1, r1, [], A8) e rfl ⟨p1, fun b m => (List.not_mem_nil m).elim, Nat.le_refl _, List.nodup_nil, f8⟩ ?_ ?_
  · rintro k x ⟨ga, ra, bs, A⟩ hx ⟨q1, q2, q3, q4, q5⟩
    have hk : k < m := by
      have := (List.getElem?_eq_some_iff.mp hx).1
      rw [rgN_len] at this
      exact this
    rw [setD_go (q := A) rfl q5, wp_some]
    have hlt : (armD bs).length < LIM := by rw [arm_len]; have : LIM = 1000000 := rfl; dsimp only at q3; omega
    generalize hN : (n : Int) = N at *
    (simp [↓wp_tag, ↓bind_tag, wpD_some, wpD_none, wpD_bind, bindD_some, bindD_none, mDef, startA, AV.fixd, sSeq, sIf, tOfE, eOp, eUn, eCB, aNil, aCons, eV, eC, eF, eTup, ownA, resA, res, AV.see, fSubs, Da.isDict, fIx, atI, ixN, fIB, fGt, fLt, fGe, fLe, fI, fAdd, fSub, fMul, fNeg, sAsg, sSetI, sAsgR, setR, Nw.av, Nw.da, rootAt, AV.asR, own, AV.get, fMod, fDiv, setD, setDa, sRet, sRetF, resRL, resL1, backP, AV.isRoot, AV.isFix, AV.flag, eCall, callM, argsOf, argOf, rootIx, putBack, isS, R1.da, Rv.da, fLen, fLenB, fLst, eScLen, eScIx, fLtA, fAbs, fInt, eBig, fPow, sNext, List.filterMap_cons, List.findIdx?_cons] <;> try simp only [wpD_back, bindD_back])
    refine (take_ok q1 (n := N) (by omega) (by omega)).mono ?_
    rintro _ ⟨b, g2, r2, rfl, h1, h2, h3⟩
    obtain ⟨b, rfl⟩ := Int.eq_ofNat_of_zero_le h1
    obtain ⟨cs, e1, e2, e3, e4, e5⟩ := arm_put bs b
    (simp [↓wp_tag, ↓bind_tag, wpD_some, wpD_none, wpD_bind, bindD_some, bindD_none, mDef, startA, AV.fixd, sSeq, sIf, tOfE, eOp, eUn, eCB, aNil, aCons, eV, eC, eF, eTup, ownA, resA, res, AV.see, fSubs, Da.isDict, fIx, atI, ixN, fIB, fGt, fLt, fGe, fLe, fI, fAdd, fSub, fMul, fNeg, sAsg, sSetI, sAsgR, setR, Nw.av, Nw.da, rootAt, AV.asR, own, AV.get, fMod, fDiv, setD, setDa, sRet, sRetF, resRL, resL1, backP, AV.isRoot, AV.isFix, AV.flag, eCall, callM, argsOf, argOf, rootIx, putBack, isS, R1.da, Rv.da, fLen, fLenB, fLst, eScLen, eScIx, fLtA, fAbs, fInt, eBig, fPow, sNext, List.filterMap_cons, List.findIdx?_cons, keyD, hlt] <;> try simp only [wpD_back, bindD_back])
    refine ⟨g2, r2, cs, _, ⟨⟨rfl, rfl⟩, e1, rfl⟩, h3, fun c m => ?_, by dsimp only at q3; omega, e5 q4, rfl⟩
    rcases e2 c m with z | z
    · exact q2 c z
    · omega
  · rintro ⟨ga, ra, bs, A⟩ ⟨q1, q2, q3, q4, q5⟩
    rw [rgN_len] at q3
    exact ⟨bs, ga, ra, A, rfl, q1, q2, by dsimp only at q3; omega, q4, q5⟩
theorem up_of {bs cs : List Nat} (h : cs.Perm bs) (nd : bs.Nodup) (le : cs.Pairwise (· ≤ ·)) : cs.Pairwise (· < ·) := by
  have nd' : cs.Nodup := h.nodup_iff.mpr nd
  exact (List.Pairwise.and le nd').imp fun ⟨h1, h2⟩ => by omega
/-- one post, or none -/
theorem post_ok {s : Int × Int × List Post × AV × AV × AV × AV} {k c : Nat} {z : Str} (J : WebJ n names most k s) (hc : c < n) (hz : z ∈ names) (e5 : s.2.2.2.1 = .d (.int (c : Int))) (e6 : s.2.2.2.2.1 = .d (.str z)) (hn2 : n ≤ 1000) (hm : most < 64) (hk : k ≤ 100000) :
    Wp (sSeq (sAsgR 7 (fDK false)) (sSeq (sForD (iRg1 (aCons (eCall F_law_take [] (aCons (eV 0) (aCons (eOp fAdd (eV 3) (eC (.int 1))) aNil))) aNil)) (setD 8) (sSetI 7 (eC (.bool true)) (eCall F_law_take [] (aCons (eV 0) (aCons (eV 1) aNil)))))
      (sIf (tOfE (eEmp true (eV 7))) (sAppend 4 (aCons (eTup (aCons (eV 5) (aCons (eV 6) (aCons (eCB fTuple (aCons (eF (fSortDI (aCons (eV 7) aNil))) aNil)) aNil)))) aNil)) sNext)) (webS n names most [] s))
      fun o => ∃ s', o = .nx (webS n names most [] s') ∧ WebJ n names most (k + 1) s' ∧ s'.2.2.2.1 = s.2.2.2.1 := by
  obtain ⟨g, r, posts, A5, A6, A7, A8⟩ := s
  obtain ⟨p, ok, len, f5, f6, f7, f8⟩ := J
  dsimp only at *
  subst e5 e6
  rw [wp_seq, wp_asgR, show fDK false (webS n names most [] (g, r, posts, .d (.int (c : Int)), .d (.str z), A7, A8)) = some (.r (.dk []), webS n names most [] (g, r, posts, .d (.int (c : Int)), .d (.str z), A7, A8)) from rfl, wp_some]
  rw [setR_go (q := A7) rfl f7, wp_some]
  dsimp only
  rw [wp_seq]
  refine (arms_ok (c := c) (z := z) p (by omega) hn2 (by omega) f8).mono ?_
  rintro _ ⟨bs, g1, r1, B8, rfl, p1, hb, lb, nd, fb⟩
  dsimp only
  by_cases hne : bs = []
  · subst hne
    refine sif_false (α1 := webS n names most [] (g1, r1, posts, .d (.int (c : Int)), .d (.str z), .r false false (.dk (armD [])), B8)) rfl ?_
    rw [wp_next]
    exact ⟨_, rfl, ⟨p1, ok, by dsimp only; omega, rfl, rfl, rfl, fb⟩, rfl⟩
  · have hl : 0 < bs.length := List.length_pos_iff.mpr hne
    refine sif_true (α1 := webS n names most [] (g1, r1, posts, .d (.int (c : Int)), .d (.str z), .r false false (.dk (armD bs)), B8)) ?_ ?_
    · have : ¬ (armD bs).length = 0 := by rw [arm_len]; omega
      have hne' : armD bs ≠ [] := fun q => this (by rw [q]; rfl)
      (simp [↓wp_tag, ↓bind_tag, wpD_some, wpD_none, wpD_bind, bindD_some, bindD_none, mDef, startA, AV.fixd, sSeq, sIf, tOfE, eOp, eUn, eCB, aNil, aCons, eV, eC, eF, eTup, ownA, resA, res, AV.see, fSubs, Da.isDict, fIx, atI, ixN, fIB, fGt, fLt, fGe, fLe, fI, fAdd, fSub, fMul, fNeg, sAsg, sSetI, sAsgR, setR, Nw.av, Nw.da, rootAt, AV.asR, own, AV.get, fMod, fDiv, setD, setDa, sRet, sRetF, resRL, resL1, backP, AV.isRoot, AV.isFix, AV.flag, eCall, callM, argsOf, argOf, rootIx, putBack, isS, R1.da, Rv.da, fLen, fLenB, fLst, eScLen, eScIx, fLtA, fAbs, fInt, eBig, fPow, sNext, List.filterMap_cons, List.findIdx?_cons, eEmp, this, hne'] <;> try simp only [wpD_back, bindD_back])
    · obtain ⟨cs, e1, e2, e3⟩ := sort_nats bs
      have e4 : eF (fSortDI (aCons (eV 7) aNil)) (webS n names most [] (g1, r1, posts, .d (.int (c : Int)), .d (.str z), .r false false (.dk (armD bs)), B8)) = some (.d (.list ((cs.map fun b : Nat => (b : Int)).map Da.int)), webS n names most [] (g1, r1, posts, .d (.int (c : Int)), .d (.str z), .r false false (.dk (armD bs)), B8)) := by
        have h64 : bs.length < 64 := by omega
        (simp [↓wp_tag, ↓bind_tag, wpD_some, wpD_none, wpD_bind, bindD_some, bindD_none, mDef, startA, AV.fixd, sSeq, sIf, tOfE, eOp, eUn, eCB, aNil, aCons, eV, eC, eF, eTup, ownA, resA, res, AV.see, fSubs, Da.isDict, fIx, atI, ixN, fIB, fGt, fLt, fGe, fLe, fI, fAdd, fSub, fMul, fNeg, sAsg, sSetI, sAsgR, setR, Nw.av, Nw.da, rootAt, AV.asR, own, AV.get, fMod, fDiv, setD, setDa, sRet, sRetF, resRL, resL1, backP, AV.isRoot, AV.isFix, AV.flag, eCall, callM, argsOf, argOf, rootIx, putBack, isS, R1.da, Rv.da, fLen, fLenB, fLst, eScLen, eScIx, fLtA, fAbs, fInt, eBig, fPow, sNext, List.filterMap_cons, List.findIdx?_cons, fSortDI, arm_ints, e1, h64] <;> try simp only [wpD_back, bindD_back])
      have hlim : (posts.map postT).length < LIM := by rw [List.length_map]; have : LIM = 1000000 := rfl; omega
      have l3 : 3 ≤ LIM := by decide
      refine ⟨.nx (webS n names most [] (g1, r1, posts ++ [(c, z, cs)], .d (.int (c : Int)), .d (.str z), .r false false (.dk (armD bs)), B8)), ?_, _, rfl, ⟨p1, fun e m => ?_, by simp; omega, rfl, rfl, rfl, fb⟩, rfl⟩
      · have e5 : eCB fTuple (aCons (eF (fSortDI (aCons (eV 7) aNil))) aNil) (webS n names most [] (g1, r1, posts, .d (.int (c : Int)), .d (.str z), .r false false (.dk (armD bs)), B8)) = some (.d (natsT cs), webS n names most [] (g1, r1, posts, .d (.int (c : Int)), .d (.str z), .r false false (.dk (armD bs)), B8)) := by
          generalize eF (fSortDI (aCons (eV 7) aNil)) = me at *
          simp [eCB, aCons, e4, aNil, resA, res, fTuple, natsT, Function.comp_def]
        have e6 : aCons (eTup (aCons (eV 5) (aCons (eV 6) (aCons (eCB fTuple (aCons (eF (fSortDI (aCons (eV 7) aNil))) aNil)) aNil)))) aNil (webS n names most [] (g1, r1, posts, .d (.int (c : Int)), .d (.str z), .r false false (.dk (armD bs)), B8)) = some ([.d (postT (c, z, cs))], webS n names most [] (g1, r1, posts, .d (.int (c : Int)), .d (.str z), .r false false (.dk (armD bs)), B8)) := by
          generalize eCB fTuple (aCons (eF (fSortDI (aCons (eV 7) aNil))) aNil) = me at *
          (simp [↓wp_tag, ↓bind_tag, wpD_some, wpD_none, wpD_bind, bindD_some, bindD_none, mDef, startA, AV.fixd, sSeq, sIf, tOfE, eOp, eUn, eCB, aNil, aCons, eV, eC, eF, eTup, ownA, resA, res, AV.see, fSubs, Da.isDict, fIx, atI, ixN, fIB, fGt, fLt, fGe, fLe, fI, fAdd, fSub, fMul, fNeg, sAsg, sSetI, sAsgR, setR, Nw.av, Nw.da, rootAt, AV.asR, own, AV.get, fMod, fDiv, setD, setDa, sRet, sRetF, resRL, resL1, backP, AV.isRoot, AV.isFix, AV.flag, eCall, callM, argsOf, argOf, rootIx, putBack, isS, R1.da, Rv.da, fLen, fLenB, fLst, eScLen, eScIx, fLtA, fAbs, fInt, eBig, fPow, sNext, List.filterMap_cons, List.findIdx?_cons, e5, postT, l3] <;> try simp only [wpD_back, bindD_back])
        rw [append_go (f0 := false) (f := false) (ys := posts.map postT) (xs := posts.map postT) rfl e6 rfl rfl hlim]
        simp
      · rcases List.mem_append.mp m with m | m
        · exact ok e m
        · rw [List.mem_singleton.mp m]
          refine ⟨hc, hz, fun q => ?_, fun b hb' => hb b (e2.mem_iff.mp hb'), by rw [e2.length_eq]; exact lb, up_of e2 nd e3⟩
          have : cs.length = bs.length := e2.length_eq
          have : cs.length = 0 := by rw [show cs = [] from q]; rfl
          omega
theorem web_ok {fx : Bool} {g r : Int} (h : PotOk g r) (hn : n ≤ 50) (hl : names.length ≤ 26) (hm : most < 64) :
    Wp (F_law_web [pot fx g r, .d (.int (n : Int)), .d (.list (names.map Da.str)), .d (.int (most : Int))]) fun y => ∃ (posts : List Post) (g r : Int),
      y = (.one (.d (.tuple [.int (n : Int), .tuple (posts.map postT)])), [pot fx g r, .d (.int (n : Int)), .d (.list (names.map Da.str)), .d (.int (most : Int))]) ∧ PotOk g r ∧ (∀ e ∈ posts, PostOk n names most e) ∧ posts.length ≤ n * names.length := by
  have key : Wp (m_law_web [pot true g r, .d (.int (n : Int)), .d (.list (names.map Da.str)), .d (.int (most : Int)), .un, .un, .un, .un, .un]) fun o => ∃ (posts : List Post) (g r : Int) (α : AS),
      o = .rt (.one (.d (.tuple [.int (n : Int), .tuple (posts.map postT)]))) (pot true g r :: α) ∧ PotOk g r ∧ (∀ e ∈ posts, PostOk n names most e) ∧ posts.length ≤ n * names.length := by
    unfold m_law_web
    rw [wp_seq, wp_asgR]
    refine ⟨_, rfl, _, rfl, ?_⟩
    dsimp only
    rw [wp_seq]
    refine for_inv (webS n names most []) (fun k s => WebJ n names most (k * names.length) s) (g, r, [], .un, .un, .un, .un) (rg1_go (ls := [.s 1]) rfl rfl (by omega)) rfl ⟨h, fun e m => (List.not_mem_nil m).elim, Nat.zero_le _, rfl, rfl, rfl, rfl⟩ ?_ ?_
    · intro k x s hx J
      obtain ⟨c, hc, ec⟩ : ∃ c : Nat, c < n ∧ x = .int (c : Int) := rgN_mem (List.mem_of_getElem? hx)
      have hk : k < n := by
        have := (List.getElem?_eq_some_iff.mp hx).1
        rw [rgN_len] at this
        exact this
      subst ec
      rw [setD_go (q := s.2.2.2.1) rfl J.f5, wp_some]
      refine for_inv (webS n names most []) (fun j s => WebJ n names most (k * names.length + j) s ∧ s.2.2.2.1 = .d (.int (c : Int))) (s.1, s.2.1, s.2.2.1, .d (.int (c : Int)), s.2.2.2.2) (list_go (i := 2) rfl) rfl ⟨⟨J.p, J.ok, J.len, rfl, J.f6, J.f7, J.f8⟩, rfl⟩ ?_ ?_
      · intro j y s hy ⟨J, e5⟩
        rw [List.getElem?_map] at hy
        obtain ⟨z, hz, rfl⟩ := Option.map_eq_some_iff.mp hy
        have hj : j < names.length := (List.getElem?_eq_some_iff.mp hz).1
        rw [setD_go (q := s.2.2.2.2.1) rfl J.f6, wp_some]
        have b1 : k * names.length ≤ 50 * 26 := Nat.mul_le_mul (by omega) hl
        refine (post_ok (s := (s.1, s.2.1, s.2.2.1, s.2.2.2.1, .d (.str z), s.2.2.2.2.2)) (c := c) (z := z) ⟨J.p, J.ok, J.len, J.f5, rfl, J.f7, J.f8⟩ hc (List.mem_of_getElem? hz) e5 rfl (by omega) hm (by omega)).mono ?_
        rintro o ⟨s', rfl, J', e'⟩
        exact ⟨s', rfl, J', e'.trans e5⟩
      · rintro s ⟨J, _⟩
        rw [List.length_map] at J
        refine ⟨s, rfl, ?_⟩
        rw [Nat.add_mul, Nat.one_mul]
        exact J
    · intro s J
      rw [rgN_len] at J
      obtain ⟨g1, r1, posts, A5, A6, A7, A8⟩ := s
      have l2 : 2 ≤ LIM := by decide
      refine ⟨_, ?_, posts, g1, r1, [.d (.int (n : Int)), .d (.list (names.map Da.str)), .d (.int (most : Int)), .r false false (.list (posts.map postT)), A5, A6, A7, A8], rfl, J.p, J.ok, J.len⟩
      simp [sRet, eTup, aCons, aNil, eV, eCB, resA, res, AV.see, fTuple, ownA, own, AV.get, l2]
  obtain ⟨o, e, posts, g1, r1, α, rfl, p, h1, h2⟩ := key
  refine ⟨_, ?_, posts, g1, r1, rfl, p, h1, h2⟩
  (simp [↓wp_tag, ↓bind_tag, wpD_some, wpD_none, wpD_bind, bindD_some, bindD_none, mDef, startA, AV.fixd, sSeq, sIf, tOfE, eOp, eUn, eCB, aNil, aCons, eV, eC, eF, eTup, ownA, resA, res, AV.see, fSubs, Da.isDict, fIx, atI, ixN, fIB, fGt, fLt, fGe, fLe, fI, fAdd, fSub, fMul, fNeg, sAsg, sSetI, sAsgR, setR, Nw.av, Nw.da, rootAt, AV.asR, own, AV.get, fMod, fDiv, setD, setDa, sRet, sRetF, resRL, resL1, backP, AV.isRoot, AV.isFix, AV.flag, eCall, callM, argsOf, argOf, rootIx, putBack, isS, R1.da, Rv.da, fLen, fLenB, fLst, eScLen, eScIx, fLtA, fAbs, fInt, eBig, fPow, sNext, List.filterMap_cons, List.findIdx?_cons, F_law_web, e] <;> try simp only [wpD_back, bindD_back])
/-- a world -/
def WorldOk (posts : List Post) (ws : List Nat) : Prop := Paired (fun (e : Post) b => b ∈ e.2.2) posts ws
theorem paired_map {τ υ ω : Type} {R : υ → ω → Prop} {f : τ → υ} : ∀ {xs : List τ} {ys : List ω}, Paired R (xs.map f) ys → Paired (fun x y => R (f x) y) xs ys
  | [], _, h => by cases h; exact .nil
  | x :: xs, _, h => by
    rw [List.map_cons] at h
    cases h with
    | cons a t => exact .cons a (paired_map t)
theorem nats_of {τ : Type} {R : τ → Nat → Prop} : ∀ {xs : List τ} {ys : List Da}, Paired (fun x y => ∃ b : Nat, y = .int (b : Int) ∧ R x b) xs ys → ∃ bs : List Nat, ys = bs.map (fun b : Nat => .int (b : Int)) ∧ Paired R xs bs
  | _, _, .nil => ⟨[], rfl, .nil⟩
  | _, _, .cons ⟨b, e, h⟩ t => by
    obtain ⟨bs, rfl, p⟩ := nats_of t
    subst e
    exact ⟨b :: bs, rfl, .cons h p⟩
theorem tup_go {me : ME} {α α1 : AS} {xs : List Da} (h : me α = some (.d (.tuple xs), α1)) : iAny me α = some ((xs, []), α1) := by
  unfold iAny iLst iTpl
  rw [h]
  simp [own]
theorem paired_imp {τ υ : Type} {R S : τ → υ → Prop} (h : ∀ x y, R x y → S x y) : ∀ {xs : List τ} {ys : List υ}, Paired R xs ys → Paired S xs ys
  | _, _, .nil => .nil
  | _, _, .cons a t => .cons (h _ _ a) (paired_imp h t)
theorem ints_inj : ∀ {bs cs : List Nat}, (bs.map fun b : Nat => Da.int (b : Int)) = (cs.map fun b : Nat => Da.int (b : Int)) → bs = cs
  | [], [], _ => rfl
  | b :: bs, c :: cs, h => by
    rw [List.map_cons, List.map_cons] at h
    injection h with h1 h2
    injection h1 with h3
    rw [ints_inj h2, Int.ofNat_inj.mp h3]
  | [], _ :: _, h => by cases h
  | _ :: _, [], h => by cases h
theorem post_inj {x e : Post} (h : postT x = postT e) : x.2.2 = e.2.2 := by
  unfold postT natsT at h
  injection h with h
  injection h with _ h
  injection h with _ h
  injection h with h _
  injection h with h
  exact ints_inj h
theorem world_ok {fx : Bool} {g r : Int} {posts : List Post} (h : PotOk g r) (hp : ∀ e ∈ posts, PostOk n names most e) (hl : posts.length ≤ 100000) (hm : most ≤ 1000) :
    Wp (F_law_world [pot fx g r, .d (.tuple [.int (n : Int), .tuple (posts.map postT)])]) fun y => ∃ (ws : List Nat) (g r : Int),
      y = (.one (.d (natsT ws)), [pot fx g r, .d (.tuple [.int (n : Int), .tuple (posts.map postT)])]) ∧ PotOk g r ∧ WorldOk posts ws := by
  have key : Wp (m_law_world [pot true g r, .d (.tuple [.int (n : Int), .tuple (posts.map postT)]), .un]) fun o => ∃ (ws : List Nat) (g r : Int) (α : AS), o = .rt (.one (.d (natsT ws))) (pot true g r :: α) ∧ PotOk g r ∧ WorldOk posts ws := by
    unfold m_law_world
    rw [wp_ret, wp_eCB, wp_aCons, wp_eF]
    refine lc_go (St := fun s : Int × Int => [pot true s.1 s.2, .d (.tuple [.int (n : Int), .tuple (posts.map postT)]), .un]) (OK := OKp) (P := fun x y => ∃ b : Nat, y = .int (b : Int) ∧ ∃ e : Post, x = postT e ∧ b ∈ e.2.2) (s := (g, r)) (tup_go (xs := posts.map postT) (α1 := [pot true g r, .d (.tuple [.int (n : Int), .tuple (posts.map postT)]), .un]) ?_) h (noRoots_of rfl) rfl (by rw [List.length_map]; have : LIM = 1000000 := rfl; omega) ?_ ?_
    · (simp [↓wp_tag, ↓bind_tag, wpD_some, wpD_none, wpD_bind, bindD_some, bindD_none, mDef, startA, AV.fixd, sSeq, sIf, tOfE, eOp, eUn, eCB, aNil, aCons, eV, eC, eF, eTup, ownA, resA, res, AV.see, fSubs, Da.isDict, fIx, atI, ixN, fIB, fGt, fLt, fGe, fLe, fI, fAdd, fSub, fMul, fNeg, sAsg, sSetI, sAsgR, setR, Nw.av, Nw.da, rootAt, AV.asR, own, AV.get, fMod, fDiv, setD, setDa, sRet, sRetF, resRL, resL1, backP, AV.isRoot, AV.isFix, AV.flag, eCall, callM, argsOf, argOf, rootIx, putBack, isS, R1.da, Rv.da, fLen, fLenB, fLst, eScLen, eScIx, fLtA, fAbs, fInt, eBig, fPow, sNext, List.filterMap_cons, List.findIdx?_cons] <;> try simp only [wpD_back, bindD_back])
    · intro y m ⟨ga, ra⟩ hq
      obtain ⟨e, me, rfl⟩ := List.mem_map.mp m
      have ok := hp e me
      have hne : (e.2.2.map fun b : Nat => Da.int (b : Int)) ≠ [] := by simpa using ok.ne
      have hlen : (e.2.2.map fun b : Nat => Da.int (b : Int)).length < 1000000000 := by rw [List.length_map]; have := ok.few; omega
      (simp [↓wp_tag, ↓bind_tag, wpD_some, wpD_none, wpD_bind, bindD_some, bindD_none, mDef, startA, AV.fixd, sSeq, sIf, tOfE, eOp, eUn, eCB, aNil, aCons, eV, eC, eF, eTup, ownA, resA, res, AV.see, fSubs, Da.isDict, fIx, atI, ixN, fIB, fGt, fLt, fGe, fLe, fI, fAdd, fSub, fMul, fNeg, sAsg, sSetI, sAsgR, setR, Nw.av, Nw.da, rootAt, AV.asR, own, AV.get, fMod, fDiv, setD, setDa, sRet, sRetF, resRL, resL1, backP, AV.isRoot, AV.isFix, AV.flag, eCall, callM, argsOf, argOf, rootIx, putBack, isS, R1.da, Rv.da, fLen, fLenB, fLst, eScLen, eScIx, fLtA, fAbs, fInt, eBig, fPow, sNext, List.filterMap_cons, List.findIdx?_cons, fListM, fList, postT, natsT] <;> try simp only [wpD_back, bindD_back])
      refine (of_ok hq hne hlen).mono ?_
      rintro _ ⟨x, g2, r2, rfl, h1, h2⟩
      obtain ⟨b, mb, rfl⟩ := List.mem_map.mp h1
      (simp [↓wp_tag, ↓bind_tag, wpD_some, wpD_none, wpD_bind, bindD_some, bindD_none, mDef, startA, AV.fixd, sSeq, sIf, tOfE, eOp, eUn, eCB, aNil, aCons, eV, eC, eF, eTup, ownA, resA, res, AV.see, fSubs, Da.isDict, fIx, atI, ixN, fIB, fGt, fLt, fGe, fLe, fI, fAdd, fSub, fMul, fNeg, sAsg, sSetI, sAsgR, setR, Nw.av, Nw.da, rootAt, AV.asR, own, AV.get, fMod, fDiv, setD, setDa, sRet, sRetF, resRL, resL1, backP, AV.isRoot, AV.isFix, AV.flag, eCall, callM, argsOf, argOf, rootIx, putBack, isS, R1.da, Rv.da, fLen, fLenB, fLst, eScLen, eScIx, fLtA, fAbs, fInt, eBig, fPow, sNext, List.filterMap_cons, List.findIdx?_cons, wipeA] <;> try simp only [wpD_back, bindD_back])
      exact ⟨⟨b, rfl, e.1, e.2.1, e.2.2, ⟨rfl, rfl, rfl⟩, mb⟩, h2⟩
    · rintro ys ⟨g2, r2⟩ h2 pr
      obtain ⟨bs, rfl, p2⟩ := nats_of (paired_map pr)
      rw [wp_aNil]
      refine ⟨_, rfl, _, rfl, bs, g2, r2, _, rfl, h2, ?_⟩
      exact paired_imp (fun x y ⟨e', q1, q2⟩ => by rw [post_inj q1]; exact q2) p2
  obtain ⟨o, e, ws, g1, r1, α, rfl, p, h1⟩ := key
  refine ⟨_, ?_, ws, g1, r1, rfl, p, h1⟩
  (simp [↓wp_tag, ↓bind_tag, wpD_some, wpD_none, wpD_bind, bindD_some, bindD_none, mDef, startA, AV.fixd, sSeq, sIf, tOfE, eOp, eUn, eCB, aNil, aCons, eV, eC, eF, eTup, ownA, resA, res, AV.see, fSubs, Da.isDict, fIx, atI, ixN, fIB, fGt, fLt, fGe, fLe, fI, fAdd, fSub, fMul, fNeg, sAsg, sSetI, sAsgR, setR, Nw.av, Nw.da, rootAt, AV.asR, own, AV.get, fMod, fDiv, setD, setDa, sRet, sRetF, resRL, resL1, backP, AV.isRoot, AV.isFix, AV.flag, eCall, callM, argsOf, argOf, rootIx, putBack, isS, R1.da, Rv.da, fLen, fLenB, fLst, eScLen, eScIx, fLtA, fAbs, fInt, eBig, fPow, sNext, List.filterMap_cons, List.findIdx?_cons, F_law_world, e] <;> try simp only [wpD_back, bindD_back])
end
end K50

namespace K50
open PySem PySem.Spec PyProof.Rows L2 Gk Vm


abbrev Dt := List (List Key × Da)
def kk (c : Nat) (z : Str) : List Key := [.inl (c : Int), .inr z]
def esOf (posts : List Post) (ws : List Nat) : Dt := (posts.zip ws).map fun t => (kk t.1.1 t.1.2.1, .int (t.2 : Int))
abbrev webT (n : Nat) (posts : List Post) : Da := .tuple [.int (n : Int), .tuple (posts.map postT)]
theorem dcT_go {S : Type} {i : MI} {vs : List Nat} {g : MG} {mk mv : ME} {St : S → AS} {OK : S → Prop} {P : Da → List Key × Da → Prop} {α α1 : AS} {Q : Nw × AS → Prop} {xs : List Da} {s : S}
    (hi : i α = some ((xs, []), α1)) (hs : OK s) (nr : noRoots α1 vs) (e2 : wipeA α1 vs = St s) (hl : xs.length ≤ LIM)
    (h : ∀ y ∈ xs, ∀ s, OK s → Wp (g y (St s)) fun α1 => Wp (mDc keyT mk mv α1) fun r => (∃ e, r.1 = [e] ∧ P y e) ∧ ∃ s', OK s' ∧ wipeA r.2 vs = St s')
    (q : ∀ ys s', OK s' → Paired P xs ys → Q (.r (.dt (mkD ys)), backA α1 (St s') vs)) : Wp (fDcT (cmI i vs g tYesM (mDc keyT mk mv)) α) Q := by
  unfold fDcT cmI
  rw [wp_bind, wp_bind, hi, wp_some]
  dsimp only
  rw [if_pos ⟨nr, fun i m => (List.not_mem_nil m).elim⟩, wp_bind, lockA_nil, e2]
  refine (cm_all (P := fun x ys => ∃ y, ys = [y] ∧ P x y) (fun y m s hs => ?_) hs).mono ?_
  · refine (h y m s hs).mono fun α1 h1 => ?_
    show Wp (some (true, α1)) _
    rw [wp_some]
    exact h1
  · rintro r ⟨yss, s', hs', er, pr⟩
    subst er
    obtain ⟨ys, e, p2⟩ := ones_flat pr
    rw [wp_some, freeA_nil, wp_if]
    have hlen : ys.length = xs.length := (paired_len p2).symm
    refine ⟨fun _ => ?_, fun z => (z ?_).elim⟩
    · rw [wp_some, e]
      exact q ys s' hs' p2
    · show yss.flatten.length ≤ LIM
      rw [e, hlen]
      exact hl
theorem zip_pair : ∀ (posts : List Post) (ws : List Nat), ((posts.map postT).zip (ws.map fun b : Nat => Da.int (b : Int))).map (fun t => Da.tuple [t.1, t.2]) = (posts.zip ws).map fun t => Da.tuple [postT t.1, .int (t.2 : Int)]
  | [], _ => by simp
  | _ :: _, [] => by simp
  | p :: ps, w :: ws => by
    rw [List.map_cons, List.map_cons, List.zip_cons_cons, List.map_cons, zip_pair ps ws, List.zip_cons_cons, List.map_cons]
theorem paired_fun {τ υ : Type} {f : τ → υ} : ∀ {xs : List τ} {ys : List υ}, Paired (fun x y => y = f x) xs ys → ys = xs.map f
  | _, _, .nil => rfl
  | _, _, .cons a t => by rw [a, paired_fun t]; rfl
def rdE : Da → List Key × Da
  | .tuple [.tuple (.int c :: .str z :: _), d] => ([.inl c, .inr z], d)
  | _ => ([], .none)
theorem right_ok {n : Nat} {posts : List Post} {ws : List Nat} (hl : posts.length ≤ 100000) : F_right_arms [.d (webT n posts), .d (natsT ws)] = some (.one (.d (.dt (mkD (esOf posts ws)))), [.d (webT n posts), .d (natsT ws)]) := by
  have key : Wp (m_right_arms [.d (webT n posts), .d (natsT ws), .un, .un]) fun o => o = .rt (.one (.d (.dt (mkD (esOf posts ws))))) [.d (webT n posts), .d (natsT ws), .un, .un] := by
    unfold m_right_arms
    rw [wp_ret, wp_eF]
    have hlz : (posts.zip ws).length ≤ 100000 := by rw [List.length_zip]; omega
    refine dcT_go (St := fun _ : Unit => [.d (webT n posts), .d (natsT ws), .un, .un]) (OK := fun _ => True) (P := fun y e => e = rdE y) (s := ()) (xs := (posts.zip ws).map fun t => Da.tuple [postT t.1, .int (t.2 : Int)]) (α1 := [.d (webT n posts), .d (natsT ws), .un, .un]) ?_ trivial (noRoots_of rfl) rfl (by rw [List.length_map]; have : LIM = 1000000 := rfl; omega) ?_ ?_
    · rw [← zip_pair]
      (simp [↓wp_tag, ↓bind_tag, wpD_some, wpD_none, wpD_bind, bindD_some, bindD_none, mDef, startA, AV.fixd, sSeq, sIf, tOfE, eOp, eUn, eCB, aNil, aCons, eV, eC, eF, eTup, ownA, resA, res, AV.see, fSubs, Da.isDict, fIx, atI, ixN, fIB, fGt, fLt, fGe, fLe, fI, fAdd, fSub, fMul, fNeg, sAsg, sSetI, sAsgR, setR, Nw.av, Nw.da, rootAt, AV.asR, own, AV.get, fMod, fDiv, setD, setDa, sRet, sRetF, resRL, resL1, backP, AV.isRoot, AV.isFix, AV.flag, eCall, callM, argsOf, argOf, rootIx, putBack, isS, R1.da, Rv.da, fLen, fLenB, fLst, eScLen, eScIx, fLtA, fAbs, fInt, eBig, fPow, sNext, List.filterMap_cons, List.findIdx?_cons, iZp, natsT] <;> try simp only [wpD_back, bindD_back])
    · intro y m _ _
      obtain ⟨⟨p, b⟩, mp, rfl⟩ := List.mem_map.mp m
      have c1 : cutD [.int (p.1 : Int), .str p.2.1, natsT p.2.2] none (some 2) = [.int (p.1 : Int), .str p.2.1] := rfl
      generalize hb : (b : Int) = bb at *
      generalize hc : (p.1 : Int) = cc at *
      have e3 : mDc keyT (eSl (eV 2) oNone (oSome (eC (.int 2)))) (eV 3) [.d (webT n posts), .d (natsT ws), .d (postT p), .d (.int bb)] = some ([([.inl cc, .inr p.2.1], .int bb)], [.d (webT n posts), .d (natsT ws), .d (postT p), .d (.int bb)]) := by
        (simp [↓wp_tag, ↓bind_tag, wpD_some, wpD_none, wpD_bind, bindD_some, bindD_none, mDef, startA, AV.fixd, sSeq, sIf, tOfE, eOp, eUn, eCB, aNil, aCons, eV, eC, eF, eTup, ownA, resA, res, AV.see, fSubs, Da.isDict, fIx, atI, ixN, fIB, fGt, fLt, fGe, fLe, fI, fAdd, fSub, fMul, fNeg, sAsg, sSetI, sAsgR, setR, Nw.av, Nw.da, rootAt, AV.asR, own, AV.get, fMod, fDiv, setD, setDa, sRet, sRetF, resRL, resL1, backP, AV.isRoot, AV.isFix, AV.flag, eCall, callM, argsOf, argOf, rootIx, putBack, isS, R1.da, Rv.da, fLen, fLenB, fLst, eScLen, eScIx, fLtA, fAbs, fInt, eBig, fPow, sNext, List.filterMap_cons, List.findIdx?_cons, mDc, eSl, oNone, oSome, fSl, postT, hc, c1, keyT, keysD, keyD] <;> try simp only [wpD_back, bindD_back])
      rw [show gTupD 2 (gsCons (setD 2) (gsCons (setD 3) gsNil)) (.tuple [postT p, .int bb]) [.d (webT n posts), .d (natsT ws), .un, .un] = some [.d (webT n posts), .d (natsT ws), .d (postT p), .d (.int bb)] from rfl, wp_some, e3, wp_some]
      refine ⟨⟨_, rfl, ?_⟩, (), trivial, rfl⟩
      rw [← hc]
      rfl
    · rintro ys _ _ pr
      have := paired_fun pr
      subst this
      rw [List.map_map]
      rfl
  obtain ⟨o, e, rfl⟩ := key
  (simp [↓wp_tag, ↓bind_tag, wpD_some, wpD_none, wpD_bind, bindD_some, bindD_none, mDef, startA, AV.fixd, sSeq, sIf, tOfE, eOp, eUn, eCB, aNil, aCons, eV, eC, eF, eTup, ownA, resA, res, AV.see, fSubs, Da.isDict, fIx, atI, ixN, fIB, fGt, fLt, fGe, fLe, fI, fAdd, fSub, fMul, fNeg, sAsg, sSetI, sAsgR, setR, Nw.av, Nw.da, rootAt, AV.asR, own, AV.get, fMod, fDiv, setD, setDa, sRet, sRetF, resRL, resL1, backP, AV.isRoot, AV.isFix, AV.flag, eCall, callM, argsOf, argOf, rootIx, putBack, isS, R1.da, Rv.da, fLen, fLenB, fLst, eScLen, eScIx, fLtA, fAbs, fInt, eBig, fPow, sNext, List.filterMap_cons, List.findIdx?_cons, F_right_arms, e] <;> try simp only [wpD_back, bindD_back])

/-- where a walk goes on -/
def nx (R : Dt) (c : Nat) (z : Str) : Option Nat := (valA R (kk c z)).bind fun d => match d with
  | .int b => some b.toNat
  | _ => none
def RtOk (n : Nat) (R : Dt) : Prop := ∀ k d, valA R k = some d → ∃ b : Nat, d = .int (b : Int) ∧ b < n
theorem nx_some {n : Nat} {R : Dt} (ok : RtOk n R) {c : Nat} {z : Str} : (valA R (kk c z) = none ∧ nx R c z = none) ∨ ∃ b : Nat, valA R (kk c z) = some (.int (b : Int)) ∧ nx R c z = some b ∧ b < n := by
  cases h : valA R (kk c z) with
  | none => exact .inl ⟨rfl, by unfold nx; rw [h]; rfl⟩
  | some d =>
    obtain ⟨b, rfl, hb⟩ := ok _ _ h
    exact .inr ⟨b, rfl, by unfold nx; rw [h]; simp, hb⟩
def comes (R : Dt) : Nat → List Str → List Nat
  | c, [] => [c]
  | c, z :: row => match nx R c z with
    | none => [c]
    | some b => c :: comes R b row
def walk (R : Dt) : Nat → List Str → Option Nat
  | c, [] => some c
  | c, z :: row => (nx R c z).bind fun b => walk R b row
theorem comes_len (R : Dt) : ∀ (row : List Str) (c : Nat), (comes R c row).length ≤ row.length + 1 ∧ comes R c row ≠ [] ∧ ((comes R c row).length = row.length + 1 ↔ (walk R c row).isSome) ∧ ∀ e, walk R c row = some e → (comes R c row).getLast? = some e
  | [], c => ⟨Nat.le_refl _, by simp [comes], by simp [comes, walk], fun e h => by simp [comes, walk] at h ⊢; exact h⟩
  | z :: row, c => by
    unfold comes walk
    cases h : nx R c z with
    | none => simp
    | some b =>
      obtain ⟨h1, h2, h3, h4⟩ := comes_len R row b
      refine ⟨by simp; omega, by simp, by simpa using h3, fun e he => ?_⟩
      have := h4 e he
      simp only [List.getLast?_cons]
      rw [this]
      rfl
theorem last_at (cs : List Nat) (c : Nat) : atI ((cs ++ [c]).map fun b : Nat => Da.int (b : Int)) (-1) = some (.int (c : Int)) := by
  have hl : ((cs ++ [c]).map fun b : Nat => Da.int (b : Int)).length = cs.length + 1 := by rw [List.length_map, List.length_append]; rfl
  unfold atI ixN
  rw [hl, if_neg (by decide), if_pos (by omega), Option.bind_some, show (-1 + ((cs.length + 1 : Nat) : Int)).toNat = cs.length by omega, List.getElem?_map, List.getElem?_append_right (Nat.le_refl _), Nat.sub_self]
  rfl
theorem gone_ok {n c : Nat} {R : Dt} {row : List Str} (ok : RtOk n R) (hl : row.length ≤ 100000) : F_gone_by [.d (.dt R), .d (.int (c : Int)), .d (.tuple (row.map Da.str))] = some (.one (.d (natsT (comes R c row))), [.d (.dt R), .d (.int (c : Int)), .d (.tuple (row.map Da.str))]) := by
  have key : Wp (m_gone_by [.d (.dt R), .d (.int (c : Int)), .d (.tuple (row.map Da.str)), .un, .un]) fun o => ∃ α, o = .rt (.one (.d (natsT (comes R c row)))) α := by
    unfold m_gone_by
    rw [wp_seq, wp_asgR]
    refine ⟨_, rfl, _, rfl, ?_⟩
    dsimp only
    rw [wp_seq]
    refine for_go (xs := row.map Da.str) (α1 := [.d (.dt R), .d (.int (c : Int)), .d (.tuple (row.map Da.str)), .r false false (.list [.int (c : Int)]), .un]) ?_ ?_
    · (simp [↓wp_tag, ↓bind_tag, wpD_some, wpD_none, wpD_bind, bindD_some, bindD_none, mDef, startA, AV.fixd, sSeq, sIf, tOfE, eOp, eUn, eCB, aNil, aCons, eV, eC, eF, eTup, ownA, resA, res, AV.see, fSubs, Da.isDict, fIx, atI, ixN, fIB, fGt, fLt, fGe, fLe, fI, fAdd, fSub, fMul, fNeg, sAsg, sSetI, sAsgR, setR, Nw.av, Nw.da, rootAt, AV.asR, own, AV.get, fMod, fDiv, setD, setDa, sRet, sRetF, resRL, resL1, backP, AV.isRoot, AV.isFix, AV.flag, eCall, callM, argsOf, argOf, rootIx, putBack, isS, R1.da, Rv.da, fLen, fLenB, fLst, eScLen, eScIx, fLtA, fAbs, fInt, eBig, fPow, sNext, List.filterMap_cons, List.findIdx?_cons, iAny, iLst, iTpl] <;> try simp only [wpD_back, bindD_back])
    refine for_wp (fun done rest β => ∃ (cs : List Nat) (c' : Nat) (row' : List Str) (A : AV), β = [.d (.dt R), .d (.int (c : Int)), .d (.tuple (row.map Da.str)), .r false false (.list ((cs ++ [c']).map fun b : Nat => .int (b : Int))), A] ∧ rest = row'.map Da.str ∧ comes R c row = cs ++ comes R c' row' ∧ A.isFix = false ∧ cs.length + row'.length ≤ 100000) ?_ ?_ _ [] _ ⟨[], c, row, .un, rfl, rfl, rfl, rfl, by simpa using hl⟩
    · rintro done x rest _ ⟨cs, c', row', A, rfl, er, ec, fa, lc⟩
      cases row' with
      | nil => cases er
      | cons z row' =>
        rw [List.map_cons] at er
        injection er with e1 e2
        subst e1 e2
        rw [setD_go (q := A) rfl fa, wp_some]
        have l2 : 2 ≤ LIM := by decide
        have lim : ((cs ++ [c']).map fun b : Nat => Da.int (b : Int)).length < LIM := by
          rw [List.length_map, List.length_append, List.length_singleton]
          have : LIM = 1000000 := rfl
          simp only [List.length_cons] at lc
          omega
        have e1 : eOp fSubs (eV 3) (eUn fNeg (eC (.int 1))) [.d (.dt R), .d (.int (c : Int)), .d (.tuple (row.map Da.str)), .r false false (.list ((cs ++ [c']).map fun b : Nat => .int (b : Int))), .d (.str z)] = some (.d (.int (c' : Int)), [.d (.dt R), .d (.int (c : Int)), .d (.tuple (row.map Da.str)), .r false false (.list ((cs ++ [c']).map fun b : Nat => .int (b : Int))), .d (.str z)]) := by
          have := last_at cs c'
          generalize (cs ++ [c']).map (fun b : Nat => Da.int (b : Int)) = L at *
          simp [eOp, eV, eUn, eC, fNeg, res, AV.see, fSubs, Da.isDict, fIx, this]
        generalize hL : (cs ++ [c']).map (fun b : Nat => Da.int (b : Int)) = L at *
        show Wp (sSeq _ _ [.d (.dt R), .d (.int (c : Int)), .d (.tuple (row.map Da.str)), .r false false (.list L), .d (.str z)]) _
        have e2 : eTup (aCons (eOp fSubs (eV 3) (eUn fNeg (eC (.int 1)))) (aCons (eV 4) aNil)) [.d (.dt R), .d (.int (c : Int)), .d (.tuple (row.map Da.str)), .r false false (.list L), .d (.str z)] = some (.d (.tuple [.int (c' : Int), .str z]), [.d (.dt R), .d (.int (c : Int)), .d (.tuple (row.map Da.str)), .r false false (.list L), .d (.str z)]) := by
          generalize eOp fSubs (eV 3) (eUn fNeg (eC (.int 1))) = me at *
          (simp [↓wp_tag, ↓bind_tag, wpD_some, wpD_none, wpD_bind, bindD_some, bindD_none, mDef, startA, AV.fixd, sSeq, sIf, tOfE, eOp, eUn, eCB, aNil, aCons, eV, eC, eF, eTup, ownA, resA, res, AV.see, fSubs, Da.isDict, fIx, atI, ixN, fIB, fGt, fLt, fGe, fLe, fI, fAdd, fSub, fMul, fNeg, sAsg, sSetI, sAsgR, setR, Nw.av, Nw.da, rootAt, AV.asR, own, AV.get, fMod, fDiv, setD, setDa, sRet, sRetF, resRL, resL1, backP, AV.isRoot, AV.isFix, AV.flag, eCall, callM, argsOf, argOf, rootIx, putBack, isS, R1.da, Rv.da, fLen, fLenB, fLst, eScLen, eScIx, fLtA, fAbs, fInt, eBig, fPow, sNext, List.filterMap_cons, List.findIdx?_cons, e1, l2] <;> try simp only [wpD_back, bindD_back])
        generalize eTup (aCons (eOp fSubs (eV 3) (eUn fNeg (eC (.int 1)))) (aCons (eV 4) aNil)) = mt at *
        rw [wp_seq]
        rcases nx_some ok (c := c') (z := z) with ⟨hv, hx⟩ | ⟨b, hv, hx, hb⟩
        · have hv' : valA R [.inl (c' : Int), .inr z] = none := hv
          refine sif_true (α1 := [.d (.dt R), .d (.int (c : Int)), .d (.tuple (row.map Da.str)), .r false false (.list L), .d (.str z)]) (by (simp [↓wp_tag, ↓bind_tag, wpD_some, wpD_none, wpD_bind, bindD_some, bindD_none, mDef, startA, AV.fixd, sSeq, sIf, tOfE, eOp, eUn, eCB, aNil, aCons, eV, eC, eF, eTup, ownA, resA, res, AV.see, fSubs, Da.isDict, fIx, atI, ixN, fIB, fGt, fLt, fGe, fLe, fI, fAdd, fSub, fMul, fNeg, sAsg, sSetI, sAsgR, setR, Nw.av, Nw.da, rootAt, AV.asR, own, AV.get, fMod, fDiv, setD, setDa, sRet, sRetF, resRL, resL1, backP, AV.isRoot, AV.isFix, AV.flag, eCall, callM, argsOf, argOf, rootIx, putBack, isS, R1.da, Rv.da, fLen, fLenB, fLst, eScLen, eScIx, fLtA, fAbs, fInt, eBig, fPow, sNext, List.filterMap_cons, List.findIdx?_cons, e2, fIn, fInB, lookD, keyT, keysD, keyD, hv'] <;> try simp only [wpD_back, bindD_back])) ?_
          refine ⟨_, rfl, ?_⟩
          dsimp only
          refine ⟨_, rfl, [.d (.dt R), .d (.int (c : Int)), .d (.tuple (row.map Da.str)), .r false false (.list L), .d (.str z)], ?_⟩
          have : comes R c' (z :: row') = [c'] := by unfold comes; rw [hx]
          rw [ec, this, ← hL]
          rfl
        · have hv' : valA R [.inl (c' : Int), .inr z] = some (.int (b : Int)) := hv
          refine sif_false (α1 := [.d (.dt R), .d (.int (c : Int)), .d (.tuple (row.map Da.str)), .r false false (.list L), .d (.str z)]) (by (simp [↓wp_tag, ↓bind_tag, wpD_some, wpD_none, wpD_bind, bindD_some, bindD_none, mDef, startA, AV.fixd, sSeq, sIf, tOfE, eOp, eUn, eCB, aNil, aCons, eV, eC, eF, eTup, ownA, resA, res, AV.see, fSubs, Da.isDict, fIx, atI, ixN, fIB, fGt, fLt, fGe, fLe, fI, fAdd, fSub, fMul, fNeg, sAsg, sSetI, sAsgR, setR, Nw.av, Nw.da, rootAt, AV.asR, own, AV.get, fMod, fDiv, setD, setDa, sRet, sRetF, resRL, resL1, backP, AV.isRoot, AV.isFix, AV.flag, eCall, callM, argsOf, argOf, rootIx, putBack, isS, R1.da, Rv.da, fLen, fLenB, fLst, eScLen, eScIx, fLtA, fAbs, fInt, eBig, fPow, sNext, List.filterMap_cons, List.findIdx?_cons, e2, fIn, fInB, lookD, keyT, keysD, keyD, hv'] <;> try simp only [wpD_back, bindD_back])) ?_
          rw [wp_next]
          dsimp only
          have e3 : aCons (eOp fSubs (eV 0) mt) aNil [.d (.dt R), .d (.int (c : Int)), .d (.tuple (row.map Da.str)), .r false false (.list L), .d (.str z)] = some ([.d (.int (b : Int))], [.d (.dt R), .d (.int (c : Int)), .d (.tuple (row.map Da.str)), .r false false (.list L), .d (.str z)]) := by
            (simp [↓wp_tag, ↓bind_tag, wpD_some, wpD_none, wpD_bind, bindD_some, bindD_none, mDef, startA, AV.fixd, sSeq, sIf, tOfE, eOp, eUn, eCB, aNil, aCons, eV, eC, eF, eTup, ownA, resA, res, AV.see, fSubs, Da.isDict, fIx, atI, ixN, fIB, fGt, fLt, fGe, fLe, fI, fAdd, fSub, fMul, fNeg, sAsg, sSetI, sAsgR, setR, Nw.av, Nw.da, rootAt, AV.asR, own, AV.get, fMod, fDiv, setD, setDa, sRet, sRetF, resRL, resL1, backP, AV.isRoot, AV.isFix, AV.flag, eCall, callM, argsOf, argOf, rootIx, putBack, isS, R1.da, Rv.da, fLen, fLenB, fLst, eScLen, eScIx, fLtA, fAbs, fInt, eBig, fPow, sNext, List.filterMap_cons, List.findIdx?_cons, e2, lookD, keyT, keysD, keyD, hv'] <;> try simp only [wpD_back, bindD_back])
          rw [append_go (f0 := false) (f := false) (ys := L) (xs := L) rfl e3 rfl rfl lim, wp_some]
          refine ⟨cs ++ [c'], b, row', .d (.str z), ?_, rfl, ?_, rfl, ?_⟩
          · rw [← hL]
            simp
          · have : comes R c' (z :: row') = c' :: comes R b row' := by
              show (match nx R c' z with | none => [c'] | some b => c' :: comes R b row') = _
              rw [hx]
            rw [ec, this]
            simp
          · simp only [List.length_cons] at lc
            simp
            omega
    · rintro done _ ⟨cs, c', row', A, rfl, er, ec, fa, lc⟩
      cases row' with
      | cons z row' => cases er
      | nil =>
        dsimp only
        refine ⟨_, rfl, [.d (.dt R), .d (.int (c : Int)), .d (.tuple (row.map Da.str)), .r false false (.list ((cs ++ [c']).map fun b : Nat => .int (b : Int))), A], ?_⟩
        rw [ec]
        rfl
  obtain ⟨o, e, α, rfl⟩ := key
  (simp [↓wp_tag, ↓bind_tag, wpD_some, wpD_none, wpD_bind, bindD_some, bindD_none, mDef, startA, AV.fixd, sSeq, sIf, tOfE, eOp, eUn, eCB, aNil, aCons, eV, eC, eF, eTup, ownA, resA, res, AV.see, fSubs, Da.isDict, fIx, atI, ixN, fIB, fGt, fLt, fGe, fLe, fI, fAdd, fSub, fMul, fNeg, sAsg, sSetI, sAsgR, setR, Nw.av, Nw.da, rootAt, AV.asR, own, AV.get, fMod, fDiv, setD, setDa, sRet, sRetF, resRL, resL1, backP, AV.isRoot, AV.isFix, AV.flag, eCall, callM, argsOf, argOf, rootIx, putBack, isS, R1.da, Rv.da, fLen, fLenB, fLst, eScLen, eScIx, fLtA, fAbs, fInt, eBig, fPow, sNext, List.filterMap_cons, List.findIdx?_cons, F_gone_by, e] <;> try simp only [wpD_back, bindD_back])
end K50

namespace K50
open PySem PySem.Spec PyProof.Rows L2 Gk Vm


theorem put_vals {κ τ : Type} [DecidableEq κ] {P : τ → Prop} {kvs : List (κ × τ)} {k : κ} {v : τ} (h : ∀ kv ∈ kvs, P kv.2) (hv : P v) : ∀ kv ∈ putD kvs k v, P kv.2 := by
  unfold putD
  split
  · intro kv m
    obtain ⟨q, mq, rfl⟩ := List.mem_map.mp m
    split
    · exact hv
    · exact h q mq
  · intro kv m
    rcases List.mem_append.mp m with m | m
    · exact h kv m
    · rw [List.mem_singleton.mp m]; exact hv
theorem mk_vals {κ τ : Type} [DecidableEq κ] {P : τ → Prop} {es : List (κ × τ)} (h : ∀ kv ∈ es, P kv.2) : ∀ kv ∈ mkD es, P kv.2 := by
  have gen : ∀ (es acc : List (κ × τ)), (∀ kv ∈ es, P kv.2) → (∀ kv ∈ acc, P kv.2) → ∀ kv ∈ es.foldl (fun acc kv => putD acc kv.1 kv.2) acc, P kv.2 := by
    intro es
    induction es with
    | nil => intro acc _ h; exact h
    | cons e es ih => intro acc h1 h2; exact ih _ (fun kv m => h1 kv (List.mem_cons_of_mem _ m)) (put_vals h2 (h1 e (List.mem_cons_self ..)))
  exact gen es [] h fun kv m => (List.not_mem_nil m).elim
theorem val_mem {κ τ : Type} [DecidableEq κ] {kvs : List (κ × τ)} {k : κ} {d : τ} (h : valA kvs k = some d) : ∃ kv ∈ kvs, kv.2 = d := by
  unfold valA at h
  obtain ⟨kv, h1, h2⟩ := Option.map_eq_some_iff.mp h
  exact ⟨kv, List.mem_of_find?_eq_some h1, h2⟩
theorem zip_world {n most : Nat} {names : List Str} : ∀ {posts : List Post} {ws : List Nat}, WorldOk posts ws → (∀ e ∈ posts, PostOk n names most e) → ∀ t ∈ posts.zip ws, t.2 < n
  | _, _, .nil, _, t, m => by cases m
  | _, _, .cons a r, h, t, m => by
    rw [List.zip_cons_cons] at m
    rcases List.mem_cons.mp m with rfl | m
    · exact (h _ (List.mem_cons_self ..)).arms _ a
    · exact zip_world r (fun e me => h e (List.mem_cons_of_mem _ me)) t m
theorem rt_ok {n most : Nat} {names : List Str} {posts : List Post} {ws : List Nat} (w : WorldOk posts ws) (h : ∀ e ∈ posts, PostOk n names most e) : RtOk n (mkD (esOf posts ws)) := fun k d hv => by
  obtain ⟨kv, m, rfl⟩ := val_mem hv
  refine mk_vals (P := fun d => ∃ b : Nat, d = .int (b : Int) ∧ b < n) (fun e me => ?_) kv m
  obtain ⟨t, mt, rfl⟩ := List.mem_map.mp me
  exact ⟨t.2, rfl, zip_world w h t mt⟩
theorem walk_lt {n : Nat} {R : Dt} (ok : RtOk n R) : ∀ (row : List Str) (c e : Nat), c < n → walk R c row = some e → e < n
  | [], c, e, hc, h => by cases h; exact hc
  | z :: row, c, e, hc, h => by
    unfold walk at h
    rcases nx_some ok (c := c) (z := z) with ⟨_, hx⟩ | ⟨b, _, hx, hb⟩
    · rw [hx] at h; cases h
    · rw [hx] at h; exact walk_lt ok row b e hb h
theorem in_nats (e : Nat) (bs : List Nat) (neg : Bool) : fIn neg (.int (e : Int)) (natsT bs) = some (.bool (if neg = true then !decide (e ∈ bs) else decide (e ∈ bs))) := by
  have fl : (bs.map fun b : Nat => Da.int (b : Int)).all flatD = true := by
    rw [List.all_eq_true]
    intro x m
    obtain ⟨b, _, rfl⟩ := List.mem_map.mp m
    rfl
  have an : ((bs.map fun b : Nat => Da.int (b : Int)).any fun y => eqF y (.int (e : Int))) = decide (e ∈ bs) := by
    clear fl
    induction bs with
    | nil => rfl
    | cons b bs ih =>
      rw [List.map_cons, List.any_cons, ih]
      by_cases h : e = b
      · subst h; simp [eqF]
      · have : eqF (.int (b : Int)) (.int (e : Int)) = false := by simp [eqF]; omega
        rw [this]; simp [h]
  unfold fIn fInB natsT
  dsimp only
  rw [if_pos ⟨rfl, fl⟩, an]
  rfl
/-- the goals, as they are handed in -/
def goalT : Option (List Nat) → Da
  | none => .none
  | some gs => natsT gs
def goalL (n : Nat) : Option (List Nat) → List Nat
  | none => List.range n
  | some gs => gs
theorem rg_nats (n : Nat) : rgD 0 (n : Int) = (List.range n).map fun b : Nat => Da.int (b : Int) := by
  unfold rgD
  rw [show ((n : Int) - 0).toNat = n by omega]
  apply List.map_congr_left
  intro i _
  rw [Int.zero_add]
theorem tupRg_go {me : ME} {α α1 : AS} {l : Lc} {n : Nat} (e : me α = some (l, α1)) (e2 : res α1 l = some (.int (n : Int))) (hn : n ≤ 1000) (hr : RgOk 0 (n : Int)) : eTupRg (gRg1 me) α = some (.d (natsT (List.range n)), α1) := by
  unfold eTupRg gRg1
  rw [e, Option.bind_some]
  dsimp only
  rw [e2, Option.bind_some]
  dsimp only
  rw [Option.bind_some]
  dsimp only
  have h2 : ((n : Int) - 0).toNat ≤ LIM := by
    rw [Int.sub_zero, Int.toNat_natCast]
    exact Nat.le_trans hn (by decide)
  rw [if_pos ⟨hr, h2⟩, rg_nats]
  rfl
theorem rgOk_small {n : Nat} (hn : n ≤ 1000) : RgOk 0 (n : Int) := L2.RgOk.of_le (by decide) (by omega) (by decide) (by omega)
theorem def_go {np nn : Nat} {b : MS} {as as' α : AS} {l : Lc} {r : R1} (hl : as.length = np) (hb : b (startA nn as) = some (.rt (.one l) α)) (hr : resL1 α l = some r) (ha : backP as α = as') : mDef np nn b as = some (.one r, as') := by
  unfold mDef
  rw [if_pos hl, hb, Option.bind_some]
  dsimp only
  unfold resRL
  dsimp only
  rw [hr, Option.bind_some, Option.bind_some, ha]
theorem goals_ok {n : Nat} {posts : List Post} (hn : n ≤ 1000) (o : Option (List Nat)) : F_goal_crossings [.d (webT n posts), .d (goalT o)] = some (.one (.d (natsT (goalL n o))), [.d (webT n posts), .d (goalT o)]) := by
  cases o with
  | none =>
    have e := tupRg_go (me := eOp fSubs (eV 0) (eC (.int 0))) (α := [.d (webT n posts), .d .none]) (α1 := [.d (webT n posts), .d .none]) (l := .d (.int (n : Int))) rfl rfl hn (rgOk_small hn)
    show F_goal_crossings [.d (webT n posts), .d .none] = some (.one (.d (natsT (List.range n))), [.d (webT n posts), .d .none])
    generalize natsT (List.range n) = rr at e ⊢
    generalize webT n posts = W at e ⊢
    unfold F_goal_crossings
    refine def_go (l := .d rr) (α := [.d W, .d .none]) rfl ?_ rfl rfl
    rw [show startA 2 [AV.d W, AV.d Da.none] = [AV.d W, AV.d Da.none] from rfl]
    unfold m_goal_crossings
    have t : tOfE (eIsN false (eV 1)) [AV.d W, AV.d Da.none] = some (true, [AV.d W, AV.d Da.none]) := rfl
    unfold sRet eIf
    rw [t, Option.bind_some]
    dsimp only
    rw [if_pos rfl, e]
    rfl
  | some gs =>
    (simp [↓wp_tag, ↓bind_tag, wpD_some, wpD_none, wpD_bind, bindD_some, bindD_none, mDef, startA, AV.fixd, sSeq, sIf, tOfE, eOp, eUn, eCB, aNil, aCons, eV, eC, eF, eTup, ownA, resA, res, AV.see, fSubs, Da.isDict, fIx, atI, ixN, fIB, fGt, fLt, fGe, fLe, fI, fAdd, fSub, fMul, fNeg, sAsg, sSetI, sAsgR, setR, Nw.av, Nw.da, rootAt, AV.asR, own, AV.get, fMod, fDiv, setD, setDa, sRet, sRetF, resRL, resL1, backP, AV.isRoot, AV.isFix, AV.flag, eCall, callM, argsOf, argOf, rootIx, putBack, isS, R1.da, Rv.da, fLen, fLenB, fLst, eScLen, eScIx, fLtA, fAbs, fInt, eBig, fPow, sNext, List.filterMap_cons, List.findIdx?_cons, F_goal_crossings, m_goal_crossings, eIf, eIsN, goalT, goalL, natsT] <;> try simp only [wpD_back, bindD_back])

end K50

namespace K50
open PySem PySem.Spec PyProof.Rows L2 Gk Vm



def startL (n : Nat) (R : Dt) (row : List Str) (ends : List Nat) : List Nat := (List.range n).filter fun c => match walk R c row with
  | some e => decide (e ∈ ends)
  | none => false
theorem last_nats {bs : List Nat} {e : Nat} (h : bs.getLast? = some e) : fSubs (natsT bs) (.int (-1)) = some (.int (e : Int)) := by
  obtain ⟨cs, rfl⟩ : ∃ cs, bs = cs ++ [e] := by
    obtain ⟨hne, he⟩ := List.getLast?_eq_some_iff.mp h
    exact ⟨hne, he⟩
  exact last_at cs e
theorem starts_ok {n most : Nat} {names row : List Str} {posts : List Post} {ws : List Nat} (w : WorldOk posts ws) (h : ∀ e ∈ posts, PostOk n names most e) (hn : n ≤ 1000) (hp : posts.length ≤ 100000) (hl : row.length ≤ 100000) (o : Option (List Nat)) :
    F_starts [.d (webT n posts), .d (natsT ws), .d (.tuple (row.map Da.str)), .d (goalT o)] = some (.one (.d (natsT (startL n (mkD (esOf posts ws)) row (goalL n o)))), [.d (webT n posts), .d (natsT ws), .d (.tuple (row.map Da.str)), .d (goalT o)]) := by
  have ok := rt_ok w h
  have e1 := right_ok (n := n) (ws := ws) hp
  have e2 := goals_ok (posts := posts) hn o
  have e3 : ∀ c : Nat, F_gone_by [.d (.dt (mkD (esOf posts ws))), .d (.int (c : Int)), .d (.tuple (row.map Da.str))] = _ := fun c => gone_ok (n := n) (c := c) ok hl
  generalize mkD (esOf posts ws) = R at *
  generalize hW : webT n posts = W at *
  generalize natsT ws = S at *
  generalize hG : goalT o = G at *
  generalize goalL n o = ends at *
  have key : Wp (m_starts [.d W, .d S, .d (.tuple (row.map Da.str)), .d G, .un, .un, .un, .un, .un]) fun y => ∃ α, y = .rt (.one (.d (natsT (startL n R row ends)))) α := by
    unfold m_starts
    rw [wp_seq]
    refine ⟨.nx [.d W, .d S, .d (.tuple (row.map Da.str)), .d G, .d (.dt R), .un, .un, .un, .un], by (simp [↓wp_tag, ↓bind_tag, wpD_some, wpD_none, wpD_bind, bindD_some, bindD_none, mDef, startA, AV.fixd, sSeq, sIf, tOfE, eOp, eUn, eCB, aNil, aCons, eV, eC, eF, eTup, ownA, resA, res, AV.see, fSubs, Da.isDict, fIx, atI, ixN, fIB, fGt, fLt, fGe, fLe, fI, fAdd, fSub, fMul, fNeg, sAsg, sSetI, sAsgR, setR, Nw.av, Nw.da, rootAt, AV.asR, own, AV.get, fMod, fDiv, setD, setDa, sRet, sRetF, resRL, resL1, backP, AV.isRoot, AV.isFix, AV.flag, eCall, callM, argsOf, argOf, rootIx, putBack, isS, R1.da, Rv.da, fLen, fLenB, fLst, eScLen, eScIx, fLtA, fAbs, fInt, eBig, fPow, sNext, List.filterMap_cons, List.findIdx?_cons, e1] <;> try simp only [wpD_back, bindD_back]), ?_⟩
    dsimp only
    rw [wp_seq]
    refine ⟨.nx [.d W, .d S, .d (.tuple (row.map Da.str)), .d G, .d (.dt R), .d (natsT ends), .un, .un, .un], by (simp [↓wp_tag, ↓bind_tag, wpD_some, wpD_none, wpD_bind, bindD_some, bindD_none, mDef, startA, AV.fixd, sSeq, sIf, tOfE, eOp, eUn, eCB, aNil, aCons, eV, eC, eF, eTup, ownA, resA, res, AV.see, fSubs, Da.isDict, fIx, atI, ixN, fIB, fGt, fLt, fGe, fLe, fI, fAdd, fSub, fMul, fNeg, sAsg, sSetI, sAsgR, setR, Nw.av, Nw.da, rootAt, AV.asR, own, AV.get, fMod, fDiv, setD, setDa, sRet, sRetF, resRL, resL1, backP, AV.isRoot, AV.isFix, AV.flag, eCall, callM, argsOf, argOf, rootIx, putBack, isS, R1.da, Rv.da, fLen, fLenB, fLst, eScLen, eScIx, fLtA, fAbs, fInt, eBig, fPow, sNext, List.filterMap_cons, List.findIdx?_cons, e2] <;> try simp only [wpD_back, bindD_back]), ?_⟩
    dsimp only
    rw [wp_seq, wp_asgR]
    refine ⟨_, rfl, _, rfl, ?_⟩
    dsimp only
    rw [wp_seq]
    refine for_inv (fun s : List Nat × AV × AV => [.d W, .d S, .d (.tuple (row.map Da.str)), .d G, .d (.dt R), .d (natsT ends), .r false false (.list (s.1.map fun b : Nat => .int (b : Int))), s.2.1, s.2.2])
      (fun k s => s.1 = startL k R row ends ∧ s.2.1.isFix = false ∧ s.2.2.isFix = false) ([], .un, .un) (rg1_go (k := n) (ls := [.d (.int (n : Int))]) (by rw [← hW]; rfl) rfl (by omega)) rfl ⟨rfl, rfl, rfl⟩ ?_ ?_
    · rintro k x ⟨fs, A7, A8⟩ hx ⟨hf, f7, f8⟩
      dsimp only at hf f7 f8
      have hk : x = .int (k : Int) ∧ k < n := by
        unfold rgN at hx
        rw [List.getElem?_map] at hx
        obtain ⟨j, hj, rfl⟩ := Option.map_eq_some_iff.mp hx
        obtain ⟨h1, h2⟩ := List.getElem?_eq_some_iff.mp hj
        rw [List.getElem_range] at h2
        rw [List.length_range] at h1
        exact ⟨by rw [h2], h1⟩
      obtain ⟨rfl, hk⟩ := hk
      have e4 := e3 k
      obtain ⟨c1, c2, c3, c4⟩ := comes_len R row k
      rw [setD_go (q := A7) rfl f7, wp_some, wp_seq]
      have next : startL (k + 1) R row ends = startL k R row ends ++ (match walk R k row with | some e => if e ∈ ends then [k] else [] | none => []) := by
        unfold startL
        rw [List.range_succ, List.filter_append]
        congr 1
        cases hw : walk R k row with
        | none => simp [hw]
        | some e => by_cases he : e ∈ ends <;> simp [hw, he]
      have lim : (fs.map fun b : Nat => Da.int (b : Int)).length < LIM := by
        rw [List.length_map, hf]
        unfold startL
        have := List.length_filter_le (fun c => match walk R c row with | some e => decide (e ∈ ends) | none => false) (List.range k)
        rw [List.length_range] at this
        have : LIM = 1000000 := rfl
        omega
      generalize hL : (fs.map fun b : Nat => Da.int (b : Int)) = L at *
      generalize hC : comes R k row = C at *
      generalize hRow : Da.tuple (row.map Da.str) = Rw at *
      have hlen : fLenB [Rw] = some (.int (row.length : Int)) := by rw [← hRow]; simp [fLenB, fLen]
      rw [wp_asg]
      refine ⟨(.d (natsT C), [.d W, .d S, .d Rw, .d G, .d (.dt R), .d (natsT ends), .r false false (.list L), .d (.int (k : Int)), A8]), ?_, _, rfl, ?_⟩
      · generalize (k : Int) = kI at *
        generalize natsT C = CC at *
        generalize natsT ends = EE at *
        (simp [↓wp_tag, ↓bind_tag, wpD_some, wpD_none, wpD_bind, bindD_some, bindD_none, mDef, startA, AV.fixd, sSeq, sIf, tOfE, eOp, eUn, eCB, aNil, aCons, eV, eC, eF, eTup, ownA, resA, res, AV.see, fSubs, Da.isDict, fIx, atI, ixN, fIB, fGt, fLt, fGe, fLe, fI, fAdd, fSub, fMul, fNeg, sAsg, sSetI, sAsgR, setR, Nw.av, Nw.da, rootAt, AV.asR, own, AV.get, fMod, fDiv, setD, setDa, sRet, sRetF, resRL, resL1, backP, AV.isRoot, AV.isFix, AV.flag, eCall, callM, argsOf, argOf, rootIx, putBack, isS, R1.da, Rv.da, fLen, fLenB, fLst, eScLen, eScIx, fLtA, fAbs, fInt, eBig, fPow, sNext, List.filterMap_cons, List.findIdx?_cons, e4] <;> try simp only [wpD_back, bindD_back])
      dsimp only
      rw [setD_go (q := A8) rfl f8, wp_some]
      show Wp (sIf _ _ _ [.d W, .d S, .d Rw, .d G, .d (.dt R), .d (natsT ends), .r false false (.list L), .d (.int (k : Int)), .d (natsT C)]) _
      have lc : fLenB [natsT C] = some (.int (C.length : Int)) := by simp [fLenB, fLen, natsT]
      have t1 : tOfE (eOp fEqS (eCB fLenB (aCons (eV 8) aNil)) (eOp fAdd (eCB fLenB (aCons (eV 2) aNil)) (eC (.int 1)))) [.d W, .d S, .d Rw, .d G, .d (.dt R), .d (natsT ends), .r false false (.list L), .d (.int (k : Int)), .d (natsT C)] = some (decide (C.length = row.length + 1), [.d W, .d S, .d Rw, .d G, .d (.dt R), .d (natsT ends), .r false false (.list L), .d (.int (k : Int)), .d (natsT C)]) := by
        have q : ((C.length : Int) == (row.length : Int) + 1) = decide (C.length = row.length + 1) := by
          by_cases hq : C.length = row.length + 1
          · rw [hq]; simp
          · simp [hq]; omega
        generalize (k : Int) = kI at *
        generalize natsT C = CC at *
        generalize natsT ends = EE at *
        generalize (C.length : Int) = cl at *
        generalize (row.length : Int) = rl at *
        simp [tOfE, eOp, eCB, aCons, aNil, eV, eC, resA, res, AV.see, lc, hlen, fAdd, eqS_int, q]
      by_cases hw : (walk R k row).isSome
      · obtain ⟨e, he⟩ := Option.isSome_iff_exists.mp hw
        have l1 := c4 e he
        have l2 := c3.mpr hw
        have la := last_nats l1
        have hin := in_nats e ends false
        rw [decide_eq_true l2] at t1
        have t2 : tOfE (eOp (fIn false) (eOp fSubs (eV 8) (eUn fNeg (eC (.int 1)))) (eV 5)) [.d W, .d S, .d Rw, .d G, .d (.dt R), .d (natsT ends), .r false false (.list L), .d (.int (k : Int)), .d (natsT C)] = some (decide (e ∈ ends), [.d W, .d S, .d Rw, .d G, .d (.dt R), .d (natsT ends), .r false false (.list L), .d (.int (k : Int)), .d (natsT C)]) := by
          generalize (k : Int) = kI at *
          generalize natsT C = CC at *
          generalize natsT ends = EE at *
          generalize (e : Int) = eI at *
          simp [tOfE, eOp, eUn, eV, eC, res, AV.see, fNeg, la, hin]
        have tt : mAnd (tOfE (eOp fEqS (eCB fLenB (aCons (eV 8) aNil)) (eOp fAdd (eCB fLenB (aCons (eV 2) aNil)) (eC (.int 1))))) (tOfE (eOp (fIn false) (eOp fSubs (eV 8) (eUn fNeg (eC (.int 1)))) (eV 5))) [.d W, .d S, .d Rw, .d G, .d (.dt R), .d (natsT ends), .r false false (.list L), .d (.int (k : Int)), .d (natsT C)] = some (decide (e ∈ ends), [.d W, .d S, .d Rw, .d G, .d (.dt R), .d (natsT ends), .r false false (.list L), .d (.int (k : Int)), .d (natsT C)]) := by
          unfold mAnd
          rw [t1, Option.bind_some]
          dsimp only
          rw [if_pos rfl, t2]
        by_cases hm : e ∈ ends
        · rw [decide_eq_true hm] at tt
          refine sif_true tt ?_
          rw [append_go (f0 := false) (f := false) (ys := L) (xs := L) (y := .int (k : Int)) (l := .s 7) rfl rfl rfl rfl lim, wp_some]
          refine ⟨(fs ++ [k], .d (.int (k : Int)), .d (natsT C)), ?_, ?_, rfl, rfl⟩
          · rw [← hRow]; dsimp only; rw [List.map_append, hL]; rfl
          · dsimp only
            rw [next, he, hf]
            simp [hm]
        · rw [decide_eq_false hm] at tt
          refine sif_false tt ?_
          rw [wp_next]
          refine ⟨(fs, .d (.int (k : Int)), .d (natsT C)), ?_, ?_, rfl, rfl⟩
          · rw [← hRow]; dsimp only; rw [hL]
          · dsimp only
            rw [next, he, hf]
            simp [hm]
      · have l2 : ¬ C.length = row.length + 1 := fun q => hw (c3.mp q)
        have hw' : walk R k row = none := by simpa using hw
        rw [decide_eq_false l2] at t1
        refine sif_false (α1 := [.d W, .d S, .d Rw, .d G, .d (.dt R), .d (natsT ends), .r false false (.list L), .d (.int (k : Int)), .d (natsT C)]) (by unfold mAnd; rw [t1]; rfl) ?_
        rw [wp_next]
        refine ⟨(fs, .d (.int (k : Int)), .d (natsT C)), ?_, ?_, rfl, rfl⟩
        · rw [← hRow]; dsimp only; rw [hL]
        · dsimp only
          rw [next, hw', hf]
          simp
    · rintro ⟨fs, A7, A8⟩ ⟨hf, f7, f8⟩
      rw [rgN_len] at hf
      dsimp only at hf
      refine ⟨_, rfl, [.d W, .d S, .d (.tuple (row.map Da.str)), .d G, .d (.dt R), .d (natsT ends), .r false false (.list (fs.map fun b : Nat => .int (b : Int))), A7, A8], ?_⟩
      rw [← hf]
      rfl
  obtain ⟨o', e, α, rfl⟩ := key
  (simp [↓wp_tag, ↓bind_tag, wpD_some, wpD_none, wpD_bind, bindD_some, bindD_none, mDef, startA, AV.fixd, sSeq, sIf, tOfE, eOp, eUn, eCB, aNil, aCons, eV, eC, eF, eTup, ownA, resA, res, AV.see, fSubs, Da.isDict, fIx, atI, ixN, fIB, fGt, fLt, fGe, fLe, fI, fAdd, fSub, fMul, fNeg, sAsg, sSetI, sAsgR, setR, Nw.av, Nw.da, rootAt, AV.asR, own, AV.get, fMod, fDiv, setD, setDa, sRet, sRetF, resRL, resL1, backP, AV.isRoot, AV.isFix, AV.flag, eCall, callM, argsOf, argOf, rootIx, putBack, isS, R1.da, Rv.da, fLen, fLenB, fLst, eScLen, eScIx, fLtA, fAbs, fInt, eBig, fPow, sNext, List.filterMap_cons, List.findIdx?_cons, F_starts, e] <;> try simp only [wpD_back, bindD_back])
end K50

namespace K50
open PySem PySem.Spec PyProof.Rows L2 Gk Vm



theorem pairs_es : ∀ ts : List (Post × Nat), pairsD keyT (ts.map fun t => Da.tuple [.tuple [.int (t.1.1 : Int), .str t.1.2.1], .int (t.2 : Int)]) = some (ts.map fun t => (kk t.1.1 t.1.2.1, .int (t.2 : Int)))
  | [] => rfl
  | t :: ts => by
    rw [List.map_cons]
    unfold pairsD
    rw [pairs_es ts]
    rfl
def rdP : Da → Da
  | .tuple [.tuple (.int c :: .str z :: _), d] => .tuple [.tuple [.int c, .str z], d]
  | _ => .none
theorem arms_dict {n : Nat} {posts : List Post} {ws : List Nat} {Rw : Da} (hl : posts.length ≤ 100000) :
    sAsg (eF (fDictT (aCons (eF (fLc (cmI (iZp (aCons (eOp fSubs (eV 0) (eC (.int 1))) (aCons (eV 1) aNil))) [8, 9] (gTupD 2 (gsCons (setD 8) (gsCons (setD 9) gsNil))) tYesM (mLc (eTup (aCons (eTup (aCons (eOp fSubs (eV 8) (eC (.int 0))) (aCons (eOp fSubs (eV 8) (eC (.int 1))) aNil))) (aCons (eV 9) aNil))))))) aNil))) (setD 3) [.d (webT n posts), .d (natsT ws), .d Rw, .un, .un, .un, .un, .un, .un, .un]
      = some (.nx [.d (webT n posts), .d (natsT ws), .d Rw, .d (.dt (mkD (esOf posts ws))), .un, .un, .un, .un, .un, .un]) := by
  have key : Wp (fLc (cmI (iZp (aCons (eOp fSubs (eV 0) (eC (.int 1))) (aCons (eV 1) aNil))) [8, 9] (gTupD 2 (gsCons (setD 8) (gsCons (setD 9) gsNil))) tYesM (mLc (eTup (aCons (eTup (aCons (eOp fSubs (eV 8) (eC (.int 0))) (aCons (eOp fSubs (eV 8) (eC (.int 1))) aNil))) (aCons (eV 9) aNil))))) [.d (webT n posts), .d (natsT ws), .d Rw, .un, .un, .un, .un, .un, .un, .un])
      fun y => y = (.r (.list ((posts.zip ws).map fun t => Da.tuple [.tuple [.int (t.1.1 : Int), .str t.1.2.1], .int (t.2 : Int)])), [.d (webT n posts), .d (natsT ws), .d Rw, .un, .un, .un, .un, .un, .un, .un]) := by
    have hlz : (posts.zip ws).length ≤ 100000 := by rw [List.length_zip]; omega
    refine lc_go (St := fun _ : Unit => [.d (webT n posts), .d (natsT ws), .d Rw, .un, .un, .un, .un, .un, .un, .un]) (OK := fun _ => True) (P := fun y e => e = rdP y) (s := ()) (xs := (posts.zip ws).map fun t => Da.tuple [postT t.1, .int (t.2 : Int)]) (α1 := [.d (webT n posts), .d (natsT ws), .d Rw, .un, .un, .un, .un, .un, .un, .un]) ?_ trivial (noRoots_of rfl) rfl (by rw [List.length_map]; have : LIM = 1000000 := rfl; omega) ?_ ?_
    · rw [← zip_pair]
      (simp [↓wp_tag, ↓bind_tag, wpD_some, wpD_none, wpD_bind, bindD_some, bindD_none, mDef, startA, AV.fixd, sSeq, sIf, tOfE, eOp, eUn, eCB, aNil, aCons, eV, eC, eF, eTup, ownA, resA, res, AV.see, fSubs, Da.isDict, fIx, atI, ixN, fIB, fGt, fLt, fGe, fLe, fI, fAdd, fSub, fMul, fNeg, sAsg, sSetI, sAsgR, setR, Nw.av, Nw.da, rootAt, AV.asR, own, AV.get, fMod, fDiv, setD, setDa, sRet, sRetF, resRL, resL1, backP, AV.isRoot, AV.isFix, AV.flag, eCall, callM, argsOf, argOf, rootIx, putBack, isS, R1.da, Rv.da, fLen, fLenB, fLst, eScLen, eScIx, fLtA, fAbs, fInt, eBig, fPow, sNext, List.filterMap_cons, List.findIdx?_cons, iZp, natsT] <;> try simp only [wpD_back, bindD_back])
    · intro y m _ _
      obtain ⟨⟨p, b⟩, mp, rfl⟩ := List.mem_map.mp m
      have l2 : 2 ≤ LIM := by decide
      generalize hb : (b : Int) = bb at *
      rw [show gTupD 2 (gsCons (setD 8) (gsCons (setD 9) gsNil)) (.tuple [postT p, .int bb]) [.d (webT n posts), .d (natsT ws), .d Rw, .un, .un, .un, .un, .un, .un, .un] = some [.d (webT n posts), .d (natsT ws), .d Rw, .un, .un, .un, .un, .un, .d (postT p), .d (.int bb)] from rfl, wp_some]
      generalize hW : webT n posts = W at *
      generalize hc : (p.1 : Int) = cc at *
      have e3 : eTup (aCons (eTup (aCons (eOp fSubs (eV 8) (eC (.int 0))) (aCons (eOp fSubs (eV 8) (eC (.int 1))) aNil))) (aCons (eV 9) aNil)) [.d W, .d (natsT ws), .d Rw, .un, .un, .un, .un, .un, .d (postT p), .d (.int bb)] = some (.d (.tuple [.tuple [.int cc, .str p.2.1], .int bb]), [.d W, .d (natsT ws), .d Rw, .un, .un, .un, .un, .un, .d (postT p), .d (.int bb)]) := by
        (simp [↓wp_tag, ↓bind_tag, wpD_some, wpD_none, wpD_bind, bindD_some, bindD_none, mDef, startA, AV.fixd, sSeq, sIf, tOfE, eOp, eUn, eCB, aNil, aCons, eV, eC, eF, eTup, ownA, resA, res, AV.see, fSubs, Da.isDict, fIx, atI, ixN, fIB, fGt, fLt, fGe, fLe, fI, fAdd, fSub, fMul, fNeg, sAsg, sSetI, sAsgR, setR, Nw.av, Nw.da, rootAt, AV.asR, own, AV.get, fMod, fDiv, setD, setDa, sRet, sRetF, resRL, resL1, backP, AV.isRoot, AV.isFix, AV.flag, eCall, callM, argsOf, argOf, rootIx, putBack, isS, R1.da, Rv.da, fLen, fLenB, fLst, eScLen, eScIx, fLtA, fAbs, fInt, eBig, fPow, sNext, List.filterMap_cons, List.findIdx?_cons, postT, hc, l2] <;> try simp only [wpD_back, bindD_back])
      rw [e3, wp_some, show own _ (Lc.d (.tuple [.tuple [.int cc, .str p.2.1], .int bb])) = some (.tuple [.tuple [.int cc, .str p.2.1], .int bb]) from rfl, wp_some]
      refine ⟨?_, (), trivial, rfl⟩
      rw [← hc]
      rfl
    · rintro ys _ _ pr
      have := paired_fun pr
      subst this
      rw [List.map_map]
      rfl
  obtain ⟨_, e, rfl⟩ := key
  generalize fLc (cmI (iZp (aCons (eOp fSubs (eV 0) (eC (.int 1))) (aCons (eV 1) aNil))) [8, 9] (gTupD 2 (gsCons (setD 8) (gsCons (setD 9) gsNil))) tYesM (mLc (eTup (aCons (eTup (aCons (eOp fSubs (eV 8) (eC (.int 0))) (aCons (eOp fSubs (eV 8) (eC (.int 1))) aNil))) (aCons (eV 9) aNil))))) = mf at e ⊢
  have e2 : aCons (eF mf) aNil [.d (webT n posts), .d (natsT ws), .d Rw, .un, .un, .un, .un, .un, .un, .un] = some ([.d (.list ((posts.zip ws).map fun t => Da.tuple [.tuple [.int (t.1.1 : Int), .str t.1.2.1], .int (t.2 : Int)]))], [.d (webT n posts), .d (natsT ws), .d Rw, .un, .un, .un, .un, .un, .un, .un]) := by
    unfold aCons eF
    rw [e]
    rfl
  generalize aCons (eF mf) aNil = ma at e2 ⊢
  unfold sAsg eF fDictT
  rw [e2, Option.bind_some]
  dsimp only
  rw [show resA [.d (webT n posts), .d (natsT ws), .d Rw, .un, .un, .un, .un, .un, .un, .un] [.d (.list ((posts.zip ws).map fun t => Da.tuple [.tuple [.int (t.1.1 : Int), .str t.1.2.1], .int (t.2 : Int)]))] = some [.list ((posts.zip ws).map fun t => Da.tuple [.tuple [.int (t.1.1 : Int), .str t.1.2.1], .int (t.2 : Int)])] from rfl, Option.bind_some]
  dsimp only
  rw [pairs_es]
  rfl
end K50

namespace K50
open PySem PySem.Spec PyProof.Rows L2 Gk Vm



def optT : Option Nat → Da
  | none => .none
  | some b => .int (b : Int)
theorem inner_ok {n : Nat} {R : Dt} {row : List Str} {W S : Da} {F : Da} {c : Nat} {o : Option Nat} {A7 : AV} (ok : RtOk n R) (f7 : A7.isFix = false) :
    Wp (sForD (iAny (eV 2)) (setD 7) (sAsg (eIf (tOfE (eIsN true (eV 6))) (eGet1 (eV 3) (eTup (aCons (eV 6) (aCons (eV 7) aNil)))) (eC .none)) (setD 6)) [.d W, .d S, .d (.tuple (row.map Da.str)), .d (.dt R), .r false false F, .d (.int (c : Int)), .d (optT o), A7, .un, .un])
      fun y => ∃ A7 : AV, y = .nx [.d W, .d S, .d (.tuple (row.map Da.str)), .d (.dt R), .r false false F, .d (.int (c : Int)), .d (optT (o.bind fun c => walk R c row)), A7, .un, .un] ∧ A7.isFix = false := by
  have l2 : 2 ≤ LIM := by decide
  refine for_inv (xs := row.map Da.str) (fun s : Option Nat × AV => [.d W, .d S, .d (.tuple (row.map Da.str)), .d (.dt R), .r false false F, .d (.int (c : Int)), .d (optT s.1), s.2, .un, .un])
    (fun k s => (s.1.bind fun c => walk R c (row.drop k)) = (o.bind fun c => walk R c row) ∧ s.2.isFix = false) (o, A7) ?_ rfl ⟨rfl, f7⟩ ?_ ?_
  · generalize row.map Da.str = L
    generalize (c : Int) = cI
    (simp [↓wp_tag, ↓bind_tag, wpD_some, wpD_none, wpD_bind, bindD_some, bindD_none, mDef, startA, AV.fixd, sSeq, sIf, tOfE, eOp, eUn, eCB, aNil, aCons, eV, eC, eF, eTup, ownA, resA, res, AV.see, fSubs, Da.isDict, fIx, atI, ixN, fIB, fGt, fLt, fGe, fLe, fI, fAdd, fSub, fMul, fNeg, sAsg, sSetI, sAsgR, setR, Nw.av, Nw.da, rootAt, AV.asR, own, AV.get, fMod, fDiv, setD, setDa, sRet, sRetF, resRL, resL1, backP, AV.isRoot, AV.isFix, AV.flag, eCall, callM, argsOf, argOf, rootIx, putBack, isS, R1.da, Rv.da, fLen, fLenB, fLst, eScLen, eScIx, fLtA, fAbs, fInt, eBig, fPow, sNext, List.filterMap_cons, List.findIdx?_cons, iAny, iLst, iTpl] <;> try simp only [wpD_back, bindD_back])
  · rintro k x ⟨o', A⟩ hx ⟨hj, fa⟩
    rw [List.getElem?_map] at hx
    obtain ⟨z, hz, rfl⟩ := Option.map_eq_some_iff.mp hx
    obtain ⟨hk, ez⟩ := List.getElem?_eq_some_iff.mp hz
    have hd : row.drop k = z :: row.drop (k + 1) := by rw [← ez]; exact List.drop_eq_getElem_cons hk
    dsimp only at hj fa
    rw [setD_go (q := A) rfl fa, wp_some]
    show Wp (sAsg _ _ [.d W, .d S, .d (.tuple (row.map Da.str)), .d (.dt R), .r false false F, .d (.int (c : Int)), .d (optT o'), .d (.str z), .un, .un]) _
    rw [wp_asg]
    have done : ∀ o2 : Option Nat, eIf (tOfE (eIsN true (eV 6))) (eGet1 (eV 3) (eTup (aCons (eV 6) (aCons (eV 7) aNil)))) (eC .none) [.d W, .d S, .d (.tuple (row.map Da.str)), .d (.dt R), .r false false F, .d (.int (c : Int)), .d (optT o'), .d (.str z), .un, .un] = some (.d (optT o2), [.d W, .d S, .d (.tuple (row.map Da.str)), .d (.dt R), .r false false F, .d (.int (c : Int)), .d (optT o'), .d (.str z), .un, .un]) →
        (o2.bind fun c => walk R c (row.drop (k + 1))) = (o'.bind fun c => walk R c (row.drop k)) →
        Wp (eIf (tOfE (eIsN true (eV 6))) (eGet1 (eV 3) (eTup (aCons (eV 6) (aCons (eV 7) aNil)))) (eC .none) [.d W, .d S, .d (.tuple (row.map Da.str)), .d (.dt R), .r false false F, .d (.int (c : Int)), .d (optT o'), .d (.str z), .un, .un]) fun x => Wp (own x.2 x.1) fun y => Wp (setD 6 y x.2) fun β => ∃ s' : Option Nat × AV, Out.nx β = .nx [.d W, .d S, .d (.tuple (row.map Da.str)), .d (.dt R), .r false false F, .d (.int (c : Int)), .d (optT s'.1), s'.2, .un, .un] ∧ (s'.1.bind fun c => walk R c (row.drop (k + 1))) = (o.bind fun c => walk R c row) ∧ s'.2.isFix = false := by
      intro o2 e h2
      exact ⟨_, e, _, rfl, _, rfl, (o2, .d (.str z)), rfl, h2.trans hj, rfl⟩
    cases o' with
    | none =>
      refine done none ?_ rfl
      rfl
    | some b =>
      rcases nx_some ok (c := b) (z := z) with ⟨hv, hx'⟩ | ⟨b2, hv, hx', _⟩
      · refine done none ?_ ?_
        · have hv' : valA R [.inl (b : Int), .inr z] = none := hv
          have et : eTup (aCons (eV 6) (aCons (eV 7) aNil)) [.d W, .d S, .d (.tuple (row.map Da.str)), .d (.dt R), .r false false F, .d (.int (c : Int)), .d (.int (b : Int)), .d (.str z), .un, .un] = some (.d (.tuple [.int (b : Int), .str z]), [.d W, .d S, .d (.tuple (row.map Da.str)), .d (.dt R), .r false false F, .d (.int (c : Int)), .d (.int (b : Int)), .d (.str z), .un, .un]) := rfl
          show eGet1 (eV 3) (eTup (aCons (eV 6) (aCons (eV 7) aNil))) [.d W, .d S, .d (.tuple (row.map Da.str)), .d (.dt R), .r false false F, .d (.int (c : Int)), .d (.int (b : Int)), .d (.str z), .un, .un] = some (.d .none, [.d W, .d S, .d (.tuple (row.map Da.str)), .d (.dt R), .r false false F, .d (.int (c : Int)), .d (.int (b : Int)), .d (.str z), .un, .un])
          generalize eTup (aCons (eV 6) (aCons (eV 7) aNil)) = mt at et ⊢
          generalize row.map Da.str = L at *
          generalize (c : Int) = cI at *
          generalize (b : Int) = bI at *
          simp [eGet1, eV, res, AV.see, Da.isDict, et, lookD, keyT, keysD, keyD, hv', optT]
        · rw [hd]
          show none = (walk R b (z :: row.drop (k + 1)))
          unfold walk
          rw [hx']
          rfl
      · refine done (some b2) ?_ ?_
        · have hv' : valA R [.inl (b : Int), .inr z] = some (.int (b2 : Int)) := hv
          have et : eTup (aCons (eV 6) (aCons (eV 7) aNil)) [.d W, .d S, .d (.tuple (row.map Da.str)), .d (.dt R), .r false false F, .d (.int (c : Int)), .d (.int (b : Int)), .d (.str z), .un, .un] = some (.d (.tuple [.int (b : Int), .str z]), [.d W, .d S, .d (.tuple (row.map Da.str)), .d (.dt R), .r false false F, .d (.int (c : Int)), .d (.int (b : Int)), .d (.str z), .un, .un]) := rfl
          show eGet1 (eV 3) (eTup (aCons (eV 6) (aCons (eV 7) aNil))) [.d W, .d S, .d (.tuple (row.map Da.str)), .d (.dt R), .r false false F, .d (.int (c : Int)), .d (.int (b : Int)), .d (.str z), .un, .un] = some (.d (.int (b2 : Int)), [.d W, .d S, .d (.tuple (row.map Da.str)), .d (.dt R), .r false false F, .d (.int (c : Int)), .d (.int (b : Int)), .d (.str z), .un, .un])
          generalize eTup (aCons (eV 6) (aCons (eV 7) aNil)) = mt at et ⊢
          generalize row.map Da.str = L at *
          generalize (c : Int) = cI at *
          generalize (b : Int) = bI at *
          generalize (b2 : Int) = b2I at *
          simp [eGet1, eV, res, AV.see, Da.isDict, et, lookD, keyT, keysD, keyD, hv']
        · rw [hd]
          show walk R b2 _ = (walk R b (z :: row.drop (k + 1)))
          conv => rhs; unfold walk
          rw [hx']
          rfl
  · rintro ⟨o', A⟩ ⟨hj, fa⟩
    rw [List.length_map, List.drop_length] at hj
    refine ⟨A, ?_, fa⟩
    rw [← hj]
    cases o' <;> rfl
end K50

namespace K50
open PySem PySem.Spec PyProof.Rows L2 Gk Vm



def endsL (R : Dt) (row : List Str) (k : Nat) : List (Key × Da) := (List.range k).filterMap fun c : Nat => (walk R c row).map fun e : Nat => ((.inl (c : Int) : Key), Da.int (e : Int))
theorem ends_succ (R : Dt) (row : List Str) (k : Nat) : endsL R row (k + 1) = match walk R k row with
    | some e => putD (endsL R row k) (.inl (k : Int)) (.int (e : Int))
    | none => endsL R row k := by
  have h1 : endsL R row (k + 1) = endsL R row k ++ ((walk R k row).map fun e : Nat => ((.inl (k : Int) : Key), Da.int (e : Int))).toList := by
    unfold endsL
    rw [List.range_succ, List.filterMap_append]
    cases hw : walk R k row with
    | none => simp [hw]
    | some e => simp [hw]
  rw [h1]
  cases hw : walk R k row with
  | none => simp
  | some e =>
    show endsL R row k ++ [((.inl (k : Int) : Key), Da.int (e : Int))] = putD (endsL R row k) (.inl (k : Int)) (.int (e : Int))
    unfold putD
    rw [if_neg]
    rw [List.any_eq_true]
    rintro ⟨kv, m, q⟩
    unfold endsL at m
    obtain ⟨c, mc, ec⟩ := List.mem_filterMap.mp m
    obtain ⟨e', _, rfl⟩ := Option.map_eq_some_iff.mp ec
    have hc := List.mem_range.mp mc
    simp only [decide_eq_true_eq, Sum.inl.injEq, Int.ofNat_inj] at q
    omega
theorem ends_len (R : Dt) (row : List Str) (k : Nat) : (endsL R row k).length ≤ k := by
  have := List.length_filterMap_le (fun c : Nat => (walk R c row).map fun e : Nat => ((.inl (c : Int) : Key), Da.int (e : Int))) (List.range k)
  rw [List.length_range] at this
  exact this
theorem ends_ok {n most : Nat} {names row : List Str} {posts : List Post} {ws : List Nat} (w : WorldOk posts ws) (h : ∀ e ∈ posts, PostOk n names most e) (hn : n ≤ 1000) (hp : posts.length ≤ 100000) :
    F_law_ends_of_walk [.d (webT n posts), .d (natsT ws), .d (.tuple (row.map Da.str))] = some (.one (.w (.r (.dk (endsL (mkD (esOf posts ws)) row n)))), [.d (webT n posts), .d (natsT ws), .d (.tuple (row.map Da.str))]) := by
  have ok := rt_ok w h
  have key : Wp (m_law_ends_of_walk [.d (webT n posts), .d (natsT ws), .d (.tuple (row.map Da.str)), .un, .un, .un, .un, .un, .un, .un]) fun y => ∃ A5 A6 A7 : AV, y = .rt (.one (.s 4)) [.d (webT n posts), .d (natsT ws), .d (.tuple (row.map Da.str)), .d (.dt (mkD (esOf posts ws))), .r false false (.dk (endsL (mkD (esOf posts ws)) row n)), A5, A6, A7, .un, .un] := by
    unfold m_law_ends_of_walk
    rw [wp_seq, arms_dict hp, wp_some]
    dsimp only
    generalize mkD (esOf posts ws) = R at *
    have hW0 : aCons (eOp fSubs (eV 0) (eC (.int 0))) aNil [.d (webT n posts), .d (natsT ws), .d (.tuple (row.map Da.str)), .d (.dt R), .r false false (.dk []), .un, .un, .un, .un, .un] = some ([.d (.int (n : Int))], [.d (webT n posts), .d (natsT ws), .d (.tuple (row.map Da.str)), .d (.dt R), .r false false (.dk []), .un, .un, .un, .un, .un]) := rfl
    generalize webT n posts = W at *
    generalize natsT ws = S at *
    rw [wp_seq, wp_asgR]
    refine ⟨_, rfl, _, rfl, ?_⟩
    dsimp only
    rw [wp_seq]
    refine for_inv (fun s : List (Key × Da) × AV × AV × AV => [.d W, .d S, .d (.tuple (row.map Da.str)), .d (.dt R), .r false false (.dk s.1), s.2.1, s.2.2.1, s.2.2.2, .un, .un])
      (fun k s => s.1 = endsL R row k ∧ s.2.1.isFix = false ∧ s.2.2.1.isFix = false ∧ s.2.2.2.isFix = false) ([], .un, .un, .un) (rg1_go hW0 rfl (by omega)) rfl ⟨rfl, rfl, rfl, rfl⟩ ?_ ?_
    · rintro k x ⟨F, A5, A6, A7⟩ hx ⟨hf, f5, f6, f7⟩
      dsimp only at hf f5 f6 f7
      have hk : x = .int (k : Int) ∧ k < n := by
        unfold rgN at hx
        rw [List.getElem?_map] at hx
        obtain ⟨j, hj, rfl⟩ := Option.map_eq_some_iff.mp hx
        obtain ⟨h1, h2⟩ := List.getElem?_eq_some_iff.mp hj
        rw [List.getElem_range] at h2
        rw [List.length_range] at h1
        exact ⟨by rw [h2], h1⟩
      obtain ⟨rfl, hk⟩ := hk
      rw [setD_go (q := A5) rfl f5, wp_some, wp_seq]
      show Wp (sAsg _ _ [.d W, .d S, .d (.tuple (row.map Da.str)), .d (.dt R), .r false false (.dk F), .d (.int (k : Int)), A6, A7, .un, .un]) _
      rw [wp_asg]
      refine ⟨_, rfl, .int (k : Int), rfl, ?_⟩
      dsimp only
      rw [setD_go (q := A6) rfl f6, wp_some, wp_seq]
      refine (inner_ok (o := some k) (F := .dk F) (c := k) (A7 := A7) ok f7).mono ?_
      rintro _ ⟨B7, rfl, g7⟩
      dsimp only
      have hs := ends_succ R row k
      have lim : F.length < LIM := by
        rw [hf]
        have := ends_len R row k
        have : LIM = 1000000 := rfl
        omega
      cases hw : walk R k row with
      | none =>
        rw [hw] at hs
        refine sif_false (α1 := [.d W, .d S, .d (.tuple (row.map Da.str)), .d (.dt R), .r false false (.dk F), .d (.int (k : Int)), .d .none, B7, .un, .un]) (by show tOfE (eIsN true (eV 6)) [.d W, .d S, .d (.tuple (row.map Da.str)), .d (.dt R), .r false false (.dk F), .d (.int (k : Int)), .d (optT (walk R k row)), B7, .un, .un] = _; rw [hw]; rfl) ?_
        rw [wp_next]
        exact ⟨(F, .d (.int (k : Int)), .d .none, B7), rfl, hf.trans hs.symm, rfl, rfl, g7⟩
      | some e =>
        rw [hw] at hs
        refine sif_true (α1 := [.d W, .d S, .d (.tuple (row.map Da.str)), .d (.dt R), .r false false (.dk F), .d (.int (k : Int)), .d (.int (e : Int)), B7, .un, .un]) (by show tOfE (eIsN true (eV 6)) [.d W, .d S, .d (.tuple (row.map Da.str)), .d (.dt R), .r false false (.dk F), .d (.int (k : Int)), .d (optT (walk R k row)), B7, .un, .un] = _; rw [hw]; rfl) ?_
        refine ⟨.nx [.d W, .d S, .d (.tuple (row.map Da.str)), .d (.dt R), .r false false (.dk (putD F (.inl (k : Int)) (.int (e : Int)))), .d (.int (k : Int)), .d (.int (e : Int)), B7, .un, .un], ?_, (_, .d (.int (k : Int)), .d (.int (e : Int)), B7), rfl, ?_, rfl, rfl, g7⟩
        · generalize row.map Da.str = L at *
          generalize (k : Int) = kI at *
          generalize (e : Int) = eI at *
          simp [sSetI, eV, rootAt, AV.asR, own, AV.get, res, AV.see, setDa, keyD, lim]
        · dsimp only
          rw [hf]
          exact hs.symm
    · rintro ⟨F, A5, A6, A7⟩ ⟨hf, _, _, _⟩
      rw [rgN_len] at hf
      dsimp only at hf
      refine ⟨_, rfl, A5, A6, A7, ?_⟩
      rw [← hf]
  obtain ⟨_, e, A5, A6, A7, rfl⟩ := key
  exact def_go rfl e rfl rfl
end K50

namespace K50
open PySem PySem.Spec PyProof.Rows L2 Gk Vm



inductive Ask where
  | some_
  | frm (c : Nat)
  | into (gs : List Nat)
  | among (gs : List Nat)
def askT : Ask → Da
  | .some_ => .tuple [.str (Str.ofString "somewhere")]
  | .frm c => .tuple [.str (Str.ofString "from"), .int (c : Int)]
  | .into gs => .tuple [.str (Str.ofString "into"), natsT gs]
  | .among gs => .tuple [.str (Str.ofString "among"), natsT gs]
def askG : Ask → Option (List Nat)
  | .into gs => some gs
  | _ => none
def askC (n : Nat) : Ask → List Nat
  | .frm c => [c]
  | .among gs => gs
  | _ => List.range n
theorem eq_w {a b : Str} (ha : SeqAt.shaped (.str a) = true) (hb : SeqAt.shaped (.str b) = true) : fEqS (.str a) (.str b) = some (.bool (a == b)) := by
  rfl
theorem sh1 : SeqAt.shaped (.str (Str.ofString "somewhere")) = true := by decide +kernel
theorem sh2 : SeqAt.shaped (.str (Str.ofString "from")) = true := by decide +kernel
theorem sh3 : SeqAt.shaped (.str (Str.ofString "into")) = true := by decide +kernel
theorem sh4 : SeqAt.shaped (.str (Str.ofString "among")) = true := by decide +kernel
theorem goalsOf_ok (a : Ask) : F_asked_goals [.d (askT a)] = some (.one (.d (goalT (askG a))), [.d (askT a)]) := by
  have n1 : (Str.ofString "somewhere" == Str.ofString "into") = false := by decide +kernel
  have n2 : (Str.ofString "from" == Str.ofString "into") = false := by decide +kernel
  have n4 : (Str.ofString "among" == Str.ofString "into") = false := by decide +kernel
  have q1 := eq_w sh1 sh3
  have q2 := eq_w sh2 sh3
  have q3 := eq_w sh3 sh3
  have q4 := eq_w sh4 sh3
  rw [n1] at q1
  rw [n2] at q2
  rw [n4] at q4
  rw [show (Str.ofString "into" == Str.ofString "into") = true by decide +kernel] at q3
  have go : ∀ (x : Str) (rest : List Da) (bq : Bool) (y : Da), fEqS (.str x) (.str (Str.ofString "into")) = some (.bool bq) → (bq = true → atI (Da.str x :: rest) 1 = some y) → (bq = false → y = .none) →
      F_asked_goals [.d (.tuple (.str x :: rest))] = some (.one (.d y), [.d (.tuple (.str x :: rest))]) := by
    intro x rest bq y hq h1 h0
    have t : tOfE (eOp fEqS (eOp fSubs (eV 0) (eC (.int 0))) (eC (.str (Str.ofString "into")))) [.d (.tuple (.str x :: rest))] = some (bq, [.d (.tuple (.str x :: rest))]) := by
      have a0 : fSubs (.tuple (.str x :: rest)) (.int 0) = some (.str x) := by
        show atI _ _ = _
        unfold atI ixN
        rw [if_pos (by decide), if_pos (by simp only [List.length_cons]; omega)]
        rfl
      generalize Da.tuple (.str x :: rest) = T at *
      generalize Str.ofString "into" = ii at *
      simp [tOfE, eOp, eV, eC, res, AV.see, a0, hq]
    unfold F_asked_goals
    refine def_go (l := .d y) (α := [.d (.tuple (.str x :: rest))]) rfl ?_ rfl rfl
    rw [show startA 1 [AV.d (Da.tuple (.str x :: rest))] = [AV.d (Da.tuple (.str x :: rest))] from rfl]
    unfold m_asked_goals sRet eIf
    rw [t, Option.bind_some]
    dsimp only
    cases bq with
    | false =>
      rw [if_neg (by decide), h0 rfl]
      rfl
    | true =>
      rw [if_pos rfl]
      have a1 : fSubs (.tuple (.str x :: rest)) (.int 1) = some y := h1 rfl
      generalize Da.tuple (.str x :: rest) = T at *
      simp [eOp, eV, eC, res, AV.see, a1]
  cases a with
  | some_ => exact go _ [] false .none q1 (fun h => by cases h) fun _ => rfl
  | frm c => exact go _ [.int (c : Int)] false .none q2 (fun h => by cases h) fun _ => rfl
  | into gs => exact go _ [natsT gs] true (natsT gs) q3 (fun _ => rfl) fun h => by cases h
  | among gs => exact go _ [natsT gs] false .none q4 (fun h => by cases h) fun _ => rfl
end K50

namespace K50
open PySem PySem.Spec PyProof.Rows L2 Gk Vm



theorem crossOf_ok {n : Nat} {posts : List Post} (hn : n ≤ 1000) (a : Ask) : F_asked_crossings [.d (webT n posts), .d (askT a)] = some (.one (.d (natsT (askC n a))), [.d (webT n posts), .d (askT a)]) := by
  have go : ∀ (x : Str) (rest : List Da) (b1 b2 : Bool) (y : Da), fEqS (.str x) (.str (Str.ofString "from")) = some (.bool b1) → fEqS (.str x) (.str (Str.ofString "among")) = some (.bool b2) →
      (b1 = true → ∃ u, atI (Da.str x :: rest) 1 = some u ∧ y = .tuple [u]) → (b1 = false → b2 = true → atI (Da.str x :: rest) 1 = some y) → (b1 = false → b2 = false → y = natsT (List.range n)) →
      F_asked_crossings [.d (webT n posts), .d (.tuple (.str x :: rest))] = some (.one (.d y), [.d (webT n posts), .d (.tuple (.str x :: rest))]) := by
    intro x rest b1 b2 y hq1 hq2 h1 h2 h3
    have e := tupRg_go (me := eOp fSubs (eV 0) (eC (.int 0))) (α := [.d (webT n posts), .d (.tuple (.str x :: rest))]) (α1 := [.d (webT n posts), .d (.tuple (.str x :: rest))]) (l := .d (.int (n : Int))) rfl rfl hn (rgOk_small hn)
    have a0 : fSubs (.tuple (.str x :: rest)) (.int 0) = some (.str x) := by
      show atI _ _ = _
      unfold atI ixN
      rw [if_pos (by decide), if_pos (by simp only [List.length_cons]; omega)]
      rfl
    have t : ∀ (q : Str) (b : Bool), fEqS (.str x) (.str q) = some (.bool b) → tOfE (eOp fEqS (eOp fSubs (eV 1) (eC (.int 0))) (eC (.str q))) [.d (webT n posts), .d (.tuple (.str x :: rest))] = some (b, [.d (webT n posts), .d (.tuple (.str x :: rest))]) := by
      intro q b hb
      generalize webT n posts = W at *
      generalize Da.tuple (.str x :: rest) = T at *
      simp [tOfE, eOp, eV, eC, res, AV.see, a0, hb]
    have t1 := t _ _ hq1
    have t2 := t _ _ hq2
    unfold F_asked_crossings
    refine def_go (l := .d y) (α := [.d (webT n posts), .d (.tuple (.str x :: rest))]) rfl ?_ rfl rfl
    rw [show startA 2 [AV.d (webT n posts), AV.d (Da.tuple (.str x :: rest))] = [AV.d (webT n posts), AV.d (Da.tuple (.str x :: rest))] from rfl]
    unfold m_asked_crossings sSeq sIf
    rw [t1, Option.bind_some]
    dsimp only
    cases b1 with
    | true =>
      rw [if_pos rfl]
      obtain ⟨u, hu, rfl⟩ := h1 rfl
      have a1 : fSubs (.tuple (.str x :: rest)) (.int 1) = some u := hu
      generalize webT n posts = W at *
      generalize Da.tuple (.str x :: rest) = T at *
      have l1 : 1 ≤ LIM := by decide
      simp [sRet, eTup, aCons, aNil, ownA, own, eOp, eV, eC, res, AV.see, a1, l1]
    | false =>
      rw [if_neg (by decide)]
      unfold sNext
      rw [Option.bind_some]
      dsimp only
      unfold sRet eIf
      rw [t2, Option.bind_some]
      dsimp only
      cases b2 with
      | true =>
        rw [if_pos rfl]
        have a1 : fSubs (.tuple (.str x :: rest)) (.int 1) = some y := h2 rfl rfl
        generalize webT n posts = W at *
        generalize Da.tuple (.str x :: rest) = T at *
        simp [eOp, eV, eC, res, AV.see, a1]
      | false =>
        rw [if_neg (by decide), e, h3 rfl rfl]
        rfl
  have q (a b : Str) (v : Bool) (ha : SeqAt.shaped (.str a) = true) (hb : SeqAt.shaped (.str b) = true) (hv : (a == b) = v) : fEqS (.str a) (.str b) = some (.bool v) := by rw [eq_w ha hb, hv]
  cases a with
  | some_ => exact go _ [] false false _ (q _ _ _ sh1 sh2 (by decide +kernel)) (q _ _ _ sh1 sh4 (by decide +kernel)) (fun h => by cases h) (fun _ h => by cases h) fun _ _ => rfl
  | frm c => exact go _ [.int (c : Int)] true false _ (q _ _ _ sh2 sh2 (by decide +kernel)) (q _ _ _ sh2 sh4 (by decide +kernel)) (fun _ => ⟨_, rfl, rfl⟩) (fun h => by cases h) fun h => by cases h
  | into gs => exact go _ [natsT gs] false false _ (q _ _ _ sh3 sh2 (by decide +kernel)) (q _ _ _ sh3 sh4 (by decide +kernel)) (fun h => by cases h) (fun _ h => by cases h) fun _ _ => rfl
  | among gs => exact go _ [natsT gs] false true _ (q _ _ _ sh4 sh2 (by decide +kernel)) (q _ _ _ sh4 sh4 (by decide +kernel)) (fun h => by cases h) (fun _ _ => rfl) fun _ h => by cases h
end K50

namespace K50
open PySem PySem.Spec PyProof.Rows L2 Gk Vm



theorem bls_bools : ∀ bs : List Bool, blsD (bs.map Da.bool) = some bs
  | [] => rfl
  | b :: bs => by rw [List.map_cons]; unfold blsD; rw [bls_bools bs]; rfl
def rdIn (L : List Nat) : Da → Da
  | .int i => .bool (decide (i.toNat ∈ L))
  | _ => .none
theorem fails_ok {n most : Nat} {names row : List Str} {posts : List Post} {ws : List Nat} (w : WorldOk posts ws) (h : ∀ e ∈ posts, PostOk n names most e) (hn : n ≤ 1000) (hp : posts.length ≤ 100000) (hl : row.length ≤ 100000) (a : Ask) (ha : (askC n a).length ≤ 100000) :
    F_fails [.d (webT n posts), .d (natsT ws), .d (.tuple (row.map Da.str)), .d (askT a)] = some (.one (.d (.bool (!(askC n a).any fun c => decide (c ∈ startL n (mkD (esOf posts ws)) row (goalL n (askG a)))))), [.d (webT n posts), .d (natsT ws), .d (.tuple (row.map Da.str)), .d (askT a)]) := by
  have e1 := starts_ok w h hn hp hl (askG a)
  have e2 := goalsOf_ok a
  have e3 := crossOf_ok (posts := posts) hn a
  generalize startL n (mkD (esOf posts ws)) row (goalL n (askG a)) = L at *
  generalize askC n a = C at *
  generalize webT n posts = W at *
  generalize natsT ws = S at *
  generalize Da.tuple (row.map Da.str) = Rw at *
  generalize askT a = T at *
  generalize goalT (askG a) = G at *
  have key : Wp (m_fails [.d W, .d S, .d Rw, .d T, .un, .un]) fun y => ∃ α, y = .rt (.one (.d (.bool (!C.any fun c => decide (c ∈ L))))) α := by
    unfold m_fails
    rw [wp_seq]
    refine ⟨.nx [.d W, .d S, .d Rw, .d T, .d (natsT L), .un], ?_, ?_⟩
    · generalize natsT L = LL at *
      (simp [↓wp_tag, ↓bind_tag, wpD_some, wpD_none, wpD_bind, bindD_some, bindD_none, mDef, startA, AV.fixd, sSeq, sIf, tOfE, eOp, eUn, eCB, aNil, aCons, eV, eC, eF, eTup, ownA, resA, res, AV.see, fSubs, Da.isDict, fIx, atI, ixN, fIB, fGt, fLt, fGe, fLe, fI, fAdd, fSub, fMul, fNeg, sAsg, sSetI, sAsgR, setR, Nw.av, Nw.da, rootAt, AV.asR, own, AV.get, fMod, fDiv, setD, setDa, sRet, sRetF, resRL, resL1, backP, AV.isRoot, AV.isFix, AV.flag, eCall, callM, argsOf, argOf, rootIx, putBack, isS, R1.da, Rv.da, fLen, fLenB, fLst, eScLen, eScIx, fLtA, fAbs, fInt, eBig, fPow, sNext, List.filterMap_cons, List.findIdx?_cons, eCallN, e2, e1] <;> try simp only [wpD_back, bindD_back])
    dsimp only
    rw [wp_ret]
    have hi : iAny (eCall F_asked_crossings [] (aCons (eV 0) (aCons (eV 3) aNil))) [.d W, .d S, .d Rw, .d T, .d (natsT L), .un] = some (((C.map fun b : Nat => Da.int (b : Int)), []), [.d W, .d S, .d Rw, .d T, .d (natsT L), .un]) := by
      refine tup_go ?_
      show _ = some (Lc.d (natsT C), _)
      generalize natsT L = LL at *
      generalize natsT C = CC at *
      (simp [↓wp_tag, ↓bind_tag, wpD_some, wpD_none, wpD_bind, bindD_some, bindD_none, mDef, startA, AV.fixd, sSeq, sIf, tOfE, eOp, eUn, eCB, aNil, aCons, eV, eC, eF, eTup, ownA, resA, res, AV.see, fSubs, Da.isDict, fIx, atI, ixN, fIB, fGt, fLt, fGe, fLe, fI, fAdd, fSub, fMul, fNeg, sAsg, sSetI, sAsgR, setR, Nw.av, Nw.da, rootAt, AV.asR, own, AV.get, fMod, fDiv, setD, setDa, sRet, sRetF, resRL, resL1, backP, AV.isRoot, AV.isFix, AV.flag, eCall, callM, argsOf, argOf, rootIx, putBack, isS, R1.da, Rv.da, fLen, fLenB, fLst, eScLen, eScIx, fLtA, fAbs, fInt, eBig, fPow, sNext, List.filterMap_cons, List.findIdx?_cons, e3] <;> try simp only [wpD_back, bindD_back])
    generalize eCall F_asked_crossings [] (aCons (eV 0) (aCons (eV 3) aNil)) = mc at hi ⊢
    have key2 : Wp (fLc (cmI (iAny mc) [5] (setD 5) tYesM (mLc (eOp (fIn false) (eV 5) (eV 4)))) [.d W, .d S, .d Rw, .d T, .d (natsT L), .un]) fun y => y = (.r (.list ((C.map fun c => decide (c ∈ L)).map Da.bool)), [.d W, .d S, .d Rw, .d T, .d (natsT L), .un]) := by
      refine lc_go (St := fun _ : Unit => [.d W, .d S, .d Rw, .d T, .d (natsT L), .un]) (OK := fun _ => True) (P := fun y e => e = rdIn L y) (s := ()) hi trivial (noRoots_of rfl) rfl (by rw [List.length_map]; have : LIM = 1000000 := rfl; omega) ?_ ?_
      · intro y m _ _
        obtain ⟨c, mc', rfl⟩ := List.mem_map.mp m
        have hin := in_nats c L false
        rw [show setD 5 (.int (c : Int)) [.d W, .d S, .d Rw, .d T, .d (natsT L), .un] = some [.d W, .d S, .d Rw, .d T, .d (natsT L), .d (.int (c : Int))] from rfl, wp_some]
        have e4 : eOp (fIn false) (eV 5) (eV 4) [.d W, .d S, .d Rw, .d T, .d (natsT L), .d (.int (c : Int))] = some (.d (.bool (decide (c ∈ L))), [.d W, .d S, .d Rw, .d T, .d (natsT L), .d (.int (c : Int))]) := by
          generalize natsT L = LL at *
          generalize (c : Int) = cI at *
          simp [eOp, eV, res, AV.see, hin]
        rw [e4, wp_some, show own _ (Lc.d (.bool (decide (c ∈ L)))) = some (.bool (decide (c ∈ L))) from rfl, wp_some]
        refine ⟨?_, (), trivial, rfl⟩
        show _ = Da.bool (decide ((c : Int).toNat ∈ L))
        rw [Int.toNat_natCast]
      · rintro ys _ _ pr
        have := paired_fun pr
        subst this
        rw [List.map_map, List.map_map]
        refine Prod.ext ?_ rfl
        dsimp only
        congr 2
    obtain ⟨_, e5, rfl⟩ := key2
    generalize fLc (cmI (iAny mc) [5] (setD 5) tYesM (mLc (eOp (fIn false) (eV 5) (eV 4)))) = mf at e5 ⊢
    have hb := bls_bools (C.map fun c => decide (c ∈ L))
    generalize natsT L = LL at *
    refine ⟨(.d (.bool (!C.any fun c => decide (c ∈ L))), [.d W, .d S, .d Rw, .d T, .d LL, .un]), ?_, _, rfl⟩
    generalize hL2 : ((C.map fun c => decide (c ∈ L)).map Da.bool) = L2 at *
    simp [eNot, tOfE, eCB, aCons, eF, aNil, e5, resA, res, Nw.da, fAny, hb]
  obtain ⟨_, e, α, rfl⟩ := key
  exact def_go rfl e rfl rfl
end K50

namespace K50
open PySem PySem.Spec PyProof.Rows L2 Gk Vm



theorem ends_app (R : Dt) (row : List Str) (k : Nat) : endsL R row (k + 1) = endsL R row k ++ ((walk R k row).map fun e : Nat => ((.inl (k : Int) : Key), Da.int (e : Int))).toList := by
  unfold endsL
  rw [List.range_succ, List.filterMap_append]
  cases hw : walk R k row with
  | none => simp [hw]
  | some e => simp [hw]
theorem ends_val (R : Dt) (row : List Str) (c : Nat) : ∀ n : Nat, valA (endsL R row n) (.inl (c : Int)) = if c < n then (walk R c row).map (fun e : Nat => Da.int (e : Int)) else none
  | 0 => rfl
  | k + 1 => by
    have ih := ends_val R row c k
    have e : valA (endsL R row (k + 1)) (.inl (c : Int)) = (valA (endsL R row k) (.inl (c : Int))).or (valA ((walk R k row).map fun e : Nat => ((.inl (k : Int) : Key), Da.int (e : Int))).toList (.inl (c : Int))) := by
      rw [ends_app]
      unfold valA
      rw [List.find?_append, Option.map_or]
    rw [e, ih]
    by_cases h1 : c < k
    · rw [if_pos h1, if_pos (by omega)]
      cases hw : walk R c row with
      | some e => rfl
      | none =>
        have : valA ((walk R k row).map fun e : Nat => ((.inl (k : Int) : Key), Da.int (e : Int))).toList (.inl (c : Int)) = none := by
          cases walk R k row with
          | none => rfl
          | some e => unfold valA; simp; omega
        rw [this]
        rfl
    · rw [if_neg h1, Option.none_or]
      by_cases h2 : c = k
      · subst h2
        rw [if_pos (by omega)]
        cases walk R c row with
        | none => rfl
        | some e => unfold valA; simp
      · rw [if_neg (by omega)]
        cases walk R k row with
        | none => rfl
        | some e => unfold valA; simp; omega
end K50

namespace K50
open PySem PySem.Spec PyProof.Rows L2 Gk Vm
/-- the law's own answer -/
def lfB (n : Nat) (R : Dt) (row : List Str) : Ask → Bool
  | .some_ => decide ((endsL R row n).length = 0)
  | .frm c => !(valA (endsL R row n) (.inl (c : Int))).isSome
  | .into gs => !((endsL R row n).map fun kv => kD kv.1).any fun x => match fSubs (.dk (endsL R row n)) x with
      | some (.int e) => decide (e.toNat ∈ gs)
      | _ => false
  | .among gs => !(gs.map fun c : Nat => Da.int (c : Int)).any fun x => match x with
      | .int c => (valA (endsL R row n) (.inl c)).isSome
      | _ => false
theorem keys_mem {R : Dt} {row : List Str} {n : Nat} {x : Da} (h : x ∈ (endsL R row n).map fun kv => kD kv.1) : ∃ c e : Nat, c < n ∧ walk R c row = some e ∧ x = .int (c : Int) := by
  obtain ⟨kv, m, rfl⟩ := List.mem_map.mp h
  unfold endsL at m
  obtain ⟨c, mc, ec⟩ := List.mem_filterMap.mp m
  obtain ⟨e, he, rfl⟩ := Option.map_eq_some_iff.mp ec
  exact ⟨c, e, List.mem_range.mp mc, he, rfl⟩
theorem keys_has {R : Dt} {row : List Str} {n c e : Nat} (hc : c < n) (h : walk R c row = some e) : Da.int (c : Int) ∈ (endsL R row n).map fun kv => kD kv.1 := by
  refine List.mem_map.mpr ⟨(.inl (c : Int), .int (e : Int)), ?_, rfl⟩
  unfold endsL
  exact List.mem_filterMap.mpr ⟨c, List.mem_range.mpr hc, by rw [h]; rfl⟩
theorem lawFails_ok {n most : Nat} {names row : List Str} {posts : List Post} {ws : List Nat} (w : WorldOk posts ws) (h : ∀ e ∈ posts, PostOk n names most e) (hn : n ≤ 1000) (hp : posts.length ≤ 100000) (a : Ask) (ha : (askC n a).length ≤ 100000) :
    F_law_fails [.d (webT n posts), .d (natsT ws), .d (.tuple (row.map Da.str)), .d (askT a)] = some (.one (.d (.bool (lfB n (mkD (esOf posts ws)) row a))), [.d (webT n posts), .d (natsT ws), .d (.tuple (row.map Da.str)), .d (askT a)]) := by
  have e0 := ends_ok (row := row) w h hn hp
  have hlen := ends_len (mkD (esOf posts ws)) row n
  have hval := ends_val (mkD (esOf posts ws)) row
  have hkey : ∀ x, x ∈ (endsL (mkD (esOf posts ws)) row n).map (fun kv => kD kv.1) → _ := fun x m => keys_mem m
  have q (a b : Str) (v : Bool) (ha : SeqAt.shaped (.str a) = true) (hb : SeqAt.shaped (.str b) = true) (hv : (a == b) = v) : fEqS (.str a) (.str b) = some (.bool v) := by rw [eq_w ha hb, hv]
  have go : ∀ (x : Str) (rest : List Da) (b1 b2 b3 y : Bool), fEqS (.str x) (.str (Str.ofString "somewhere")) = some (.bool b1) → fEqS (.str x) (.str (Str.ofString "from")) = some (.bool b2) → fEqS (.str x) (.str (Str.ofString "into")) = some (.bool b3) →
      (b1 = true → y = decide ((endsL (mkD (esOf posts ws)) row n).length = 0)) →
      (b1 = false → b2 = true → ∃ c : Nat, atI (Da.str x :: rest) 1 = some (.int (c : Int)) ∧ y = !(valA (endsL (mkD (esOf posts ws)) row n) (.inl (c : Int))).isSome) →
      (b1 = false → b2 = false → b3 = true → ∃ gs : List Nat, atI (Da.str x :: rest) 1 = some (natsT gs) ∧ y = lfB n (mkD (esOf posts ws)) row (.into gs)) →
      (b1 = false → b2 = false → b3 = false → ∃ gs : List Nat, gs.length ≤ 100000 ∧ atI (Da.str x :: rest) 1 = some (natsT gs) ∧ y = lfB n (mkD (esOf posts ws)) row (.among gs)) →
      F_law_fails [.d (webT n posts), .d (natsT ws), .d (.tuple (row.map Da.str)), .d (.tuple (.str x :: rest))] = some (.one (.d (.bool y)), [.d (webT n posts), .d (natsT ws), .d (.tuple (row.map Da.str)), .d (.tuple (.str x :: rest))]) := by
    intro x rest b1 b2 b3 y hq1 hq2 hq3 h1 h2 h3 h4
    have a0 : fSubs (.tuple (.str x :: rest)) (.int 0) = some (.str x) := by
      show atI _ _ = _
      unfold atI ixN
      rw [if_pos (by decide), if_pos (by simp only [List.length_cons]; omega)]
      rfl
    have hT : ∀ u, atI (Da.str x :: rest) 1 = some u → fSubs (.tuple (.str x :: rest)) (.int 1) = some u := fun u e => e
    unfold lfB at h3 h4
    dsimp only at h3 h4
    generalize hL : endsL (mkD (esOf posts ws)) row n = L at *
    generalize mkD (esOf posts ws) = R at *
    generalize webT n posts = W at *
    generalize natsT ws = S at *
    generalize Da.tuple (row.map Da.str) = Rw at *
    generalize Da.tuple (.str x :: rest) = T at *
    have t : ∀ (q : Str) (b : Bool), fEqS (.str x) (.str q) = some (.bool b) → tOfE (eOp fEqS (eOp fSubs (eV 3) (eC (.int 0))) (eC (.str q))) [.d W, .d S, .d Rw, .d T, .d (.dk L), .un] = some (b, [.d W, .d S, .d Rw, .d T, .d (.dk L), .un]) := by
      intro q b hb
      simp [tOfE, eOp, eV, eC, res, AV.see, a0, hb]
    have t1 := t _ _ hq1
    have t2 := t _ _ hq2
    have t3 := t _ _ hq3
    have key : Wp (m_law_fails [.d W, .d S, .d Rw, .d T, .un, .un]) fun o => ∃ α, o = .rt (.one (.d (.bool y))) α := by
      unfold m_law_fails
      rw [wp_seq]
      refine ⟨.nx [.d W, .d S, .d Rw, .d T, .d (.dk L), .un], ?_, ?_⟩
      · simp [sAsg, eCall, callM, aCons, aNil, eV, argsOf, argOf, e0, rootIx, putBack, Rv.da, R1.da, Nw.da, own, setD, AV.isFix, AV.isRoot]
      dsimp only
      rw [wp_seq]
      cases b1 with
      | true =>
        refine sif_true t1 ?_
        rw [wp_ret, h1 rfl]
        refine ⟨_, rfl, _, rfl⟩
      | false =>
        refine sif_false t1 ?_
        rw [wp_next]
        dsimp only
        rw [wp_seq]
        cases b2 with
        | true =>
          refine sif_true t2 ?_
          obtain ⟨c, hc, rfl⟩ := h2 rfl rfl
          have hs := hT _ hc
          rw [wp_ret]
          refine ⟨(.d (.bool (!(valA L (.inl (c : Int))).isSome)), [.d W, .d S, .d Rw, .d T, .d (.dk L), .un]), ?_, _, rfl⟩
          have hin := in_dk (c : Int) L true
          rw [if_pos rfl] at hin
          generalize (c : Int) = cI at *
          generalize Da.dk L = D at *
          simp [eOp, eV, eC, res, AV.see, hs, hin]
        | false =>
          refine sif_false t2 ?_
          rw [wp_next]
          dsimp only
          rw [wp_seq]
          have neg : ∀ (m : ME) (b : Bool) (α : AS), m α = some (.d (.bool b), α) → eNot m α = some (.d (.bool !b), α) := fun m b α e => by simp [eNot, tOfE, e, res]
          cases b3 with
          | true =>
            refine sif_true t3 ?_
            obtain ⟨gs, hg, rfl⟩ := h3 rfl rfl rfl
            have hs := hT _ hg
            rw [wp_ret]
            refine ⟨(.d (.bool _), [.d W, .d S, .d Rw, .d T, .d (.dk L), .un]), neg _ _ _ (any_pure (q := .un) (f := fun x => match fSubs (.dk L) x with
                | some (.int e) => decide (e.toNat ∈ gs)
                | _ => false) (keys_go rfl) rfl rfl (by rw [List.length_map]; have : LIM = 1000000 := rfl; omega) ?_), _, rfl⟩
            intro x m
            obtain ⟨c, e, hc, he, rfl⟩ := hkey x m
            have hv : fSubs (.dk L) (.int (c : Int)) = some (.int (e : Int)) := by
              rw [sub_dk, ← hL, hval c n, if_pos hc, he]
              rfl
            have hin := in_nats e gs false
            rw [if_neg (by decide)] at hin
            show eOp (fIn false) (eOp fSubs (eV 4) (eV 5)) (eOp fSubs (eV 3) (eC (.int 1))) [.d W, .d S, .d Rw, .d T, .d (.dk L), .d (.int (c : Int))] = some (.d (.bool _), [.d W, .d S, .d Rw, .d T, .d (.dk L), .d (.int (c : Int))])
            rw [hv]
            dsimp only
            rw [Int.toNat_natCast]
            generalize (c : Int) = cI at *
            generalize (e : Int) = eI at *
            generalize Da.dk L = D at *
            generalize natsT gs = G at *
            simp [eOp, eV, eC, res, AV.see, hs, hv, hin]
          | false =>
            refine sif_false t3 ?_
            rw [wp_next]
            dsimp only
            obtain ⟨gs, hgl, hg, rfl⟩ := h4 rfl rfl rfl
            have hs := hT _ hg
            rw [wp_ret]
            refine ⟨(.d (.bool _), [.d W, .d S, .d Rw, .d T, .d (.dk L), .un]), neg _ _ _ (any_pure (q := .un) (xs := gs.map fun c : Nat => Da.int (c : Int)) (f := fun x => match x with
                | .int c => (valA L (.inl c)).isSome
                | _ => false) (tup_go ?_) rfl rfl (by rw [List.length_map]; have : LIM = 1000000 := rfl; omega) ?_), _, rfl⟩
            · show _ = some (Lc.d (natsT gs), _)
              generalize natsT gs = G at *
              simp [eOp, eV, eC, res, AV.see, hs]
            · intro x m
              obtain ⟨c, mc, rfl⟩ := List.mem_map.mp m
              have hin := in_dk (c : Int) L false
              rw [if_neg (by decide)] at hin
              show eOp (fIn false) (eV 5) (eV 4) [.d W, .d S, .d Rw, .d T, .d (.dk L), .d (.int (c : Int))] = some (.d (.bool (valA L (.inl (c : Int))).isSome), [.d W, .d S, .d Rw, .d T, .d (.dk L), .d (.int (c : Int))])
              generalize (c : Int) = cI at *
              generalize Da.dk L = D at *
              simp [eOp, eV, eC, res, AV.see, hin]
    obtain ⟨_, e, α, rfl⟩ := key
    exact def_go rfl e rfl rfl
  cases a with
  | some_ => exact go _ [] true false false _ (q _ _ _ sh1 sh1 (by decide +kernel)) (q _ _ _ sh1 sh2 (by decide +kernel)) (q _ _ _ sh1 sh3 (by decide +kernel)) (fun _ => rfl) (fun h => by cases h) (fun h => by cases h) fun h => by cases h
  | frm c => exact go _ [.int (c : Int)] false true false _ (q _ _ _ sh2 sh1 (by decide +kernel)) (q _ _ _ sh2 sh2 (by decide +kernel)) (q _ _ _ sh2 sh3 (by decide +kernel)) (fun h => by cases h) (fun _ _ => ⟨c, rfl, rfl⟩) (fun _ h => by cases h) fun _ h => by cases h
  | into gs => exact go _ [natsT gs] false false true _ (q _ _ _ sh3 sh1 (by decide +kernel)) (q _ _ _ sh3 sh2 (by decide +kernel)) (q _ _ _ sh3 sh3 (by decide +kernel)) (fun h => by cases h) (fun _ h => by cases h) (fun _ _ _ => ⟨gs, rfl, rfl⟩) fun _ _ h => by cases h
  | among gs => exact go _ [natsT gs] false false false _ (q _ _ _ sh4 sh1 (by decide +kernel)) (q _ _ _ sh4 sh2 (by decide +kernel)) (q _ _ _ sh4 sh3 (by decide +kernel)) (fun h => by cases h) (fun _ h => by cases h) (fun _ _ h => by cases h) fun _ _ _ => ⟨gs, ha, rfl, rfl⟩
/-- both answers are the same -/
theorem fails_same {n : Nat} {R : Dt} (ok : RtOk n R) (row : List Str) (a : Ask) (hc : ∀ c, a = .frm c → c < n) : lfB n R row a = !(askC n a).any fun c => decide (c ∈ startL n R row (goalL n (askG a))) := by
  have mem : ∀ (gs : List Nat) (c : Nat), c ∈ startL n R row gs ↔ c < n ∧ ∃ e, walk R c row = some e ∧ e ∈ gs := by
    intro gs c
    unfold startL
    rw [List.mem_filter, List.mem_range]
    refine and_congr_right fun _ => ?_
    cases walk R c row with
    | none => simp
    | some e => simp
  have memN : ∀ c : Nat, c ∈ startL n R row (List.range n) ↔ c < n ∧ (walk R c row).isSome = true := by
    intro c
    rw [mem]
    refine and_congr_right fun hc => ⟨fun ⟨e, h, _⟩ => by rw [h]; rfl, fun h => ?_⟩
    obtain ⟨e, he⟩ := Option.isSome_iff_exists.mp h
    exact ⟨e, he, List.mem_range.mpr (walk_lt ok row c e hc he)⟩
  have val : ∀ c : Nat, (valA (endsL R row n) (.inl (c : Int))).isSome = decide (c ∈ startL n R row (List.range n)) := by
    intro c
    rw [ends_val]
    by_cases h : c < n
    · rw [if_pos h, Option.isSome_map, Bool.eq_iff_iff, decide_eq_true_iff, memN]
      exact ⟨fun z => ⟨h, z⟩, fun z => z.2⟩
    · rw [if_neg h]
      symm
      rw [show (Option.isSome (none : Option Da)) = false from rfl, decide_eq_false_iff_not, memN]
      exact fun z => h z.1
  cases a with
  | some_ =>
    show decide ((endsL R row n).length = 0) = !(List.range n).any fun c => decide (c ∈ startL n R row (List.range n))
    rw [Bool.eq_iff_iff, decide_eq_true_iff, Bool.not_eq_true', List.any_eq_false]
    constructor
    · intro h c hcn z
      rw [decide_eq_true_iff, memN] at z
      obtain ⟨e, he⟩ := Option.isSome_iff_exists.mp z.2
      have := keys_has z.1 he
      rw [List.length_eq_zero_iff.mp h] at this
      exact List.not_mem_nil this
    · intro h
      rw [List.length_eq_zero_iff]
      cases hl : endsL R row n with
      | nil => rfl
      | cons kv l =>
        obtain ⟨c, e, hcn, he, _⟩ := keys_mem (R := R) (row := row) (n := n) (x := kD kv.1) (by rw [hl]; exact List.mem_cons_self ..)
        exact (h c (List.mem_range.mpr hcn) (by rw [decide_eq_true_iff, memN]; exact ⟨hcn, by rw [he]; rfl⟩)).elim
  | frm c =>
    show (!(valA (endsL R row n) (.inl (c : Int))).isSome) = !([c].any fun c => decide (c ∈ startL n R row (List.range n)))
    rw [val]
    simp
  | into gs =>
    show (!((endsL R row n).map fun kv => kD kv.1).any _) = !(List.range n).any fun c => decide (c ∈ startL n R row gs)
    congr 1
    rw [Bool.eq_iff_iff, List.any_eq_true, List.any_eq_true]
    have vl : ∀ c e : Nat, c < n → walk R c row = some e → fSubs (.dk (endsL R row n)) (.int (c : Int)) = some (.int (e : Int)) := fun c e h1 h2 => by
      rw [sub_dk, ends_val, if_pos h1, h2]
      rfl
    constructor
    · rintro ⟨x, m, hx⟩
      obtain ⟨c, e, hcn, he, rfl⟩ := keys_mem m
      rw [vl c e hcn he] at hx
      dsimp only at hx
      rw [Int.toNat_natCast, decide_eq_true_iff] at hx
      exact ⟨c, List.mem_range.mpr hcn, by rw [decide_eq_true_iff, mem]; exact ⟨hcn, e, he, hx⟩⟩
    · rintro ⟨c, _, hx⟩
      rw [decide_eq_true_iff, mem] at hx
      obtain ⟨hcn, e, he, hg⟩ := hx
      refine ⟨.int (c : Int), keys_has hcn he, ?_⟩
      rw [vl c e hcn he]
      dsimp only
      rw [Int.toNat_natCast, decide_eq_true_iff]
      exact hg
  | among gs =>
    show (!(gs.map fun c : Nat => Da.int (c : Int)).any _) = !gs.any fun c => decide (c ∈ startL n R row (List.range n))
    congr 1
    rw [List.any_map]
    congr 1
    funext c
    exact val c
end K50

namespace K50
open PySem PySem.Spec PyProof.Rows L2 Gk Vm
theorem take_run {fx : Bool} {g r m : Int} {rest : AS} {mm : ME} {α : AS} {l : Lc} (h : PotOk g r) (hm0 : 0 < m) (hm : m < 1073741824) (e : aCons (eV 0) (aCons mm aNil) α = some ([.s 0, l], pot fx g r :: rest)) (hl : argsOf (pot fx g r :: rest) [l] = some [.d (.int m)]) (hr : rootIx (pot fx g r :: rest) l = none) :
    Wp (eCall F_law_take [] (aCons (eV 0) (aCons mm aNil)) α) fun y => ∃ x g' r', y = (.d (.int x), pot fx g' r' :: rest) ∧ 0 ≤ x ∧ x < m ∧ PotOk g' r' := by
  refine wcallP e rfl hl (by simp [hr]) ?_
  refine (take_ok h hm0 hm).mono ?_
  rintro _ ⟨x, g', r', rfl, h1, h2, h3⟩
  exact ⟨_, _, rfl, x, g', r', rfl, h1, h2, h3⟩
theorem of_run {fx : Bool} {g r : Int} {rest : AS} {xs : List Da} {mm : ME} {α : AS} {l : Lc} (h : PotOk g r) (hn : xs ≠ []) (hn2 : xs.length < 1000000000) (e : aCons (eV 0) (aCons mm aNil) α = some ([.s 0, l], pot fx g r :: rest)) (hl : argsOf (pot fx g r :: rest) [l] = some [.d (.list xs)]) (hr : rootIx (pot fx g r :: rest) l = none) :
    Wp (eCall F_law_of [] (aCons (eV 0) (aCons mm aNil)) α) fun y => ∃ x g' r', y = (.d x, pot fx g' r' :: rest) ∧ x ∈ xs ∧ PotOk g' r' := by
  refine wcallP e rfl hl (by simp [hr]) ?_
  refine (of_ok h hn hn2).mono ?_
  rintro _ ⟨x, g', r', rfl, h1, h2⟩
  exact ⟨_, _, rfl, x, g', r', rfl, h1, h2⟩
structure Up (n : Nat) (gs : List Nat) : Prop where
  up : gs.Pairwise (· < ·)
  lt : ∀ g ∈ gs, g < n
  len : gs.length ≤ n
def AskOk (n : Nat) : Ask → Prop
  | .some_ => True
  | .frm c => c < n
  | .into gs => Up n gs
  | .among gs => Up n gs
theorem up_sub {n : Nat} {ys : List Da} (h : ys.Sublist (rgN n)) : ∃ gs : List Nat, Da.tuple ys = natsT gs ∧ Up n gs := by
  unfold rgN at h
  obtain ⟨gs, hs, rfl⟩ := List.sublist_map_iff.mp h
  refine ⟨gs, rfl, List.Pairwise.sublist hs List.pairwise_lt_range, fun g m => List.mem_range.mp (hs.subset m), ?_⟩
  have := hs.length_le
  rwa [List.length_range] at this
theorem asking_ok {fx : Bool} {g r : Int} {n : Nat} (h : PotOk g r) (hn0 : 0 < n) (hn : n ≤ 1000) : Wp (F_law_asking [pot fx g r, .d (.int (n : Int))]) fun y => ∃ a g' r', y = (.one (.d (askT a)), [pot fx g' r', .d (.int (n : Int))]) ∧ AskOk n a ∧ PotOk g' r' := by
  have key : Wp (m_law_asking [pot true g r, .d (.int (n : Int)), .un, .un, .un]) fun o => ∃ a g' r' A2 A3 A4, o = .rt (.one (.d (askT a))) [pot true g' r', .d (.int (n : Int)), A2, A3, A4] ∧ AskOk n a ∧ PotOk g' r' := by
    unfold m_law_asking
    rw [wp_seq, wp_asg]
    have c1 : Wp (fLc (cmI (iRg1 (aCons (eV 1) aNil)) [4] (setD 4) (tOfE (eOp fEqS (eCall F_law_take [] (aCons (eV 0) (aCons (eC (.int 2)) aNil))) (eC (.int 0)))) (mLc (eV 4))) [pot true g r, .d (.int (n : Int)), .un, .un, .un])
        fun y => ∃ (ys : List Da) (s : Int × Int), PotOk s.1 s.2 ∧ ys.Sublist (rgN n) ∧ y = (.r (.list ys), [pot true s.1 s.2, .d (.int (n : Int)), .un, .un, .un]) := by
      refine (lc_some (q := .un) (St := fun s : Int × Int => [pot true s.1 s.2, .d (.int (n : Int)), .un, .un, .un]) (OK := fun s => PotOk s.1 s.2) (s := (g, r)) (rg1_go rfl rfl (by omega)) rfl rfl rfl h (by rw [rgN_len]; have : LIM = 1000000 := rfl; omega) ?_).mono ?_
      · rintro x m ⟨g1, r1⟩ h1
        rw [setD_go (q := .un) rfl rfl, wp_some]
        show Wp (tOfE _ [pot true g1 r1, .d (.int (n : Int)), .un, .un, .d x]) _
        unfold tOfE eOp
        rw [wp_bind, wp_bind]
        refine (take_run h1 (m := 2) (by decide) (by decide) rfl rfl rfl).mono ?_
        rintro _ ⟨x', g2, r2, rfl, _, _, h2⟩
        dsimp only
        refine ⟨_, rfl, ?_⟩
        refine ⟨_, rfl, ?_⟩
        exact ⟨rfl, (g2, r2), h2, rfl⟩
      · rintro _ ⟨ys, s', h1, h2, rfl⟩
        exact ⟨ys, s', h1, h2, rfl⟩
    obtain ⟨_, e1, ys, ⟨g1, r1⟩, h1, sb, rfl⟩ := c1
    refine ⟨_, tuple_one e1, _, rfl, _, rfl, ?_⟩
    dsimp only
    obtain ⟨gs, eg, ug⟩ := up_sub sb
    rw [eg]
    rw [wp_seq, wp_asg, wp_eF]
    show Wp (fLst _ [pot true g1 r1, .d (.int (n : Int)), .d (natsT gs), .un, .un]) _
    generalize hG : natsT gs = G at *
    have c2 : Wp (fLst (aCons (eTup (aCons (eC (.str (Str.ofString "somewhere"))) aNil)) (aCons (eTup (aCons (eC (.str (Str.ofString "from"))) (aCons (eCall F_law_take [] (aCons (eV 0) (aCons (eV 1) aNil))) aNil))) (aCons (eTup (aCons (eC (.str (Str.ofString "into"))) (aCons (eV 2) aNil))) (aCons (eTup (aCons (eC (.str (Str.ofString "among"))) (aCons (eV 2) aNil))) aNil)))) [pot true g1 r1, .d (.int (n : Int)), .d G, .un, .un])
        fun y => ∃ (c : Nat) (g2 r2 : Int), c < n ∧ PotOk g2 r2 ∧ y = (.r (.list [askT .some_, askT (.frm c), .tuple [.str (Str.ofString "into"), G], .tuple [.str (Str.ofString "among"), G]]), [pot true g2 r2, .d (.int (n : Int)), .d G, .un, .un]) := by
      unfold fLst
      rw [wp_bind, wp_aCons]
      refine ⟨_, rfl, ?_⟩
      dsimp only
      rw [wp_aCons]
      unfold eTup
      rw [wp_bind, wp_aCons]
      refine ⟨_, rfl, ?_⟩
      dsimp only
      rw [wp_aCons]
      dsimp only
      refine (take_run h1 (m := (n : Int)) (by omega) (by omega) rfl rfl rfl).mono ?_
      rintro _ ⟨x, g2, r2, rfl, x0, x1, h2⟩
      obtain ⟨c, rfl⟩ := Int.eq_ofNat_of_zero_le x0
      rw [wp_aNil, wp_bind]
      refine ⟨_, rfl, ?_⟩
      dsimp only
      refine wp_pos (by show 2 ≤ LIM; decide) ?_
      rw [wp_some]
      dsimp only
      refine ⟨_, rfl, ?_⟩
      dsimp only
      exact ⟨_, rfl, c, g2, r2, by omega, h2, rfl⟩
    obtain ⟨_, e2, c, g2, r2, hc, h2, rfl⟩ := c2
    refine ⟨_, e2, _, rfl, _, rfl, ?_⟩
    dsimp only
    rw [wp_ret]
    refine (of_run h2 (by simp) (by simp) rfl rfl rfl).mono ?_
    rintro _ ⟨x, g3, r3, rfl, hx, h3⟩
    have hx' : ∃ a, x = askT a ∧ AskOk n a := by
      simp only [List.mem_cons, List.not_mem_nil, or_false] at hx
      rcases hx with rfl | rfl | rfl | rfl
      · exact ⟨_, rfl, trivial⟩
      · exact ⟨_, rfl, hc⟩
      · exact ⟨.into gs, by rw [← hG]; rfl, ug⟩
      · exact ⟨.among gs, by rw [← hG]; rfl, ug⟩
    obtain ⟨a, rfl, ha⟩ := hx'
    exact ⟨a, g3, r3, _, _, _, rfl, ha, h3⟩
  obtain ⟨_, e, a, g', r', A2, A3, A4, rfl, ha, h'⟩ := key
  refine ⟨_, def_go (as' := [pot fx g' r', .d (.int (n : Int))]) rfl e rfl rfl, a, g', r', rfl, ha, h'⟩
end K50

namespace K50
open PySem PySem.Spec PyProof.Rows L2 Gk Vm
def noT : Da → Bool
  | .dt _ => false
  | _ => true
def isTup : Da → Bool
  | .tuple _ => true
  | _ => false
def wholeB : Da → Bool
  | .int _ => true
  | _ => false
def belowB (n : Nat) : Da → Bool
  | .int i => decide (0 ≤ i) && decide (i < (n : Int))
  | _ => false
theorem isi_tup {x : Da} (h : noT x = true) : (tyN x).bind (fun t => isiB "tuple" t) = some (isTup x) := by
  cases x <;> first | rfl | cases h
theorem isi_int {x : Da} (h : noT x = true) : (tyN x).bind (fun t => isiB "int" t) = some (match x with | .int _ => true | .bool _ => true | _ => false) := by
  cases x <;> first | rfl | cases h
theorem isi_bool {x : Da} (h : noT x = true) : (tyN x).bind (fun t => isiB "bool" t) = some (match x with | .bool _ => true | _ => false) := by
  cases x <;> first | rfl | cases h
theorem isi_str {x : Da} (h : noT x = true) : (tyN x).bind (fun t => isiB "str" t) = some (match x with | .str _ => true | _ => false) := by
  cases x <;> first | rfl | cases h
theorem isi_go {T : String} {ma : ME} {α α1 : AS} {l : Lc} {x : Da} {b : Bool} (hm : ma α = some (l, α1)) (hr : res α1 l = some x) (hb : (tyN x).bind (fun t => isiB T t) = some b) : eIsi T ma α = some (.d (.bool b), α1) := by
  unfold eIsi
  rw [hm, Option.bind_some]
  dsimp only
  rw [hr, Option.bind_some]
  obtain ⟨t, e1, e2⟩ := Option.bind_eq_some_iff.mp hb
  rw [e1, Option.bind_some, e2, Option.bind_some]
theorem tof_go {ma : ME} {α α1 : AS} {b : Bool} (h : ma α = some (.d (.bool b), α1)) : tOfE ma α = some (b, α1) := by
  unfold tOfE
  rw [h, Option.bind_some]
  rfl
theorem and_go {ma mb : ME} {α α1 α2 : AS} {a b : Bool} (h1 : ma α = some (.d (.bool a), α1)) (h2 : a = true → mb α1 = some (.d (.bool b), α2)) (h3 : a = false → α1 = α2) : eAnd ma mb α = some (.d (.bool (a && b)), α2) := by
  unfold eAnd
  rw [tof_go h1, Option.bind_some]
  cases a with
  | true => rw [if_pos rfl, h2 rfl]; rfl
  | false => rw [if_neg (by simp), h3 rfl]; rfl
theorem not_go {ma : ME} {α α1 : AS} {b : Bool} (h : ma α = some (.d (.bool b), α1)) : eNot ma α = some (.d (.bool !b), α1) := by
  unfold eNot
  rw [tof_go h, Option.bind_some]
theorem whole_ok {x : Da} (h : noT x = true) : F_is_whole [.d x] = some (.one (.d (.bool (wholeB x))), [.d x]) := by
  cases x <;> first | rfl | cases h
theorem chain_go {ma mb mc : ME} {α : AS} {la lb lc : Lc} {i j k : Int} (ha : ma α = some (la, α)) (hb : mb α = some (lb, α)) (hc : mc α = some (lc, α)) (ra : res α la = some (.int i)) (rb : res α lb = some (.int j)) (rc : res α lc = some (.int k)) :
    eChain fLe fLt ma mb mc α = some (.d (.bool (decide (i ≤ j) && decide (j < k))), α) := by
  unfold eChain
  rw [ha, Option.bind_some]
  dsimp only
  rw [hb, Option.bind_some]
  dsimp only
  rw [ra, Option.bind_some, rb, Option.bind_some, show fLe (.int i) (.int j) = some (.bool (decide (i ≤ j))) from rfl, Option.bind_some]
  by_cases h : i ≤ j
  · rw [decide_eq_true h]
    dsimp only
    rw [hc, Option.bind_some]
    dsimp only
    rw [rb, Option.bind_some, rc, Option.bind_some, show fLt (.int j) (.int k) = some (.bool (decide (j < k))) from rfl, Option.bind_some, Bool.true_and]
  · rw [decide_eq_false h]
    rfl
theorem below_ok {n : Nat} {x : Da} (h : noT x = true) : F_is_below [.d (.int (n : Int)), .d x] = some (.one (.d (.bool (belowB n x))), [.d (.int (n : Int)), .d x]) := by
  have c := callD (F := F_is_whole) (ma := aCons (eV 1) aNil) (α := [.d (.int (n : Int)), .d x]) rfl rfl rfl (whole_ok h)
  have key : m_is_below [.d (.int (n : Int)), .d x] = some (.rt (.one (.d (.bool (belowB n x)))) [.d (.int (n : Int)), .d x]) := by
    unfold m_is_below sRet
    rw [and_go (b := belowB n x) c (fun hw => ?_) (fun _ => rfl), Option.bind_some]
    · cases x <;> rfl
    · cases x with
      | int i => exact chain_go rfl rfl rfl rfl rfl rfl
      | _ => cases hw
  exact def_go rfl key rfl rfl
theorem below_nats {n : Nat} : ∀ {xs : List Da}, xs.all (belowB n) = true → ∃ gs : List Nat, xs = gs.map (fun g : Nat => Da.int (g : Int)) ∧ ∀ g ∈ gs, g < n
  | [], _ => ⟨[], rfl, fun g m => (List.not_mem_nil m).elim⟩
  | x :: xs, h => by
    rw [List.all_cons, Bool.and_eq_true] at h
    obtain ⟨gs, rfl, hg⟩ := below_nats h.2
    cases x with
    | int i =>
      have hi := h.1
      unfold belowB at hi
      rw [Bool.and_eq_true, decide_eq_true_iff, decide_eq_true_iff] at hi
      obtain ⟨g, rfl⟩ := Int.eq_ofNat_of_zero_le hi.1
      refine ⟨g :: gs, rfl, fun c m => ?_⟩
      rcases List.mem_cons.mp m with rfl | m
      · omega
      · exact hg c m
    | _ => cases h.1
theorem nats_at {gs : List Nat} {k : Nat} {g : Nat} (h : gs[k]? = some g) : fSubs (natsT gs) (.int (k : Int)) = some (.int (g : Int)) := by
  show atI _ _ = _
  have hk : k < gs.length := getElem?_lt h
  unfold atI ixN
  rw [if_pos (by omega), if_pos (by rw [List.length_map]; omega), Int.toNat_natCast, Option.bind_some, List.getElem?_map, h]
  rfl
theorem up_iff (gs : List Nat) : ((List.range (gs.length - 1)).all fun k => decide (gs[k]?.getD 0 < gs[k + 1]?.getD 0)) = decide (gs.Pairwise (· < ·)) := by
  rw [Bool.eq_iff_iff, List.all_eq_true, decide_eq_true_iff]
  constructor
  · intro h
    induction gs with
    | nil => exact .nil
    | cons a gs ih =>
      have ih' := ih fun k hk => by
        rw [List.mem_range] at hk
        have := h (k + 1) (by rw [List.mem_range, List.length_cons]; omega)
        simpa using this
      cases gs with
      | nil => exact .cons (fun b m => (List.not_mem_nil m).elim) .nil
      | cons b gs =>
        have h0 := h 0 (by rw [List.mem_range, List.length_cons, List.length_cons]; omega)
        simp only [List.getElem?_cons_zero, List.getElem?_cons_succ, Option.getD_some, decide_eq_true_iff, Nat.zero_add] at h0
        refine .cons (fun c m => ?_) ih'
        rcases List.mem_cons.mp m with rfl | m
        · exact h0
        · exact Nat.lt_trans h0 ((List.pairwise_cons.mp ih').1 c m)
  · intro h k hk
    rw [List.mem_range] at hk
    have h1 : k < gs.length := by omega
    have h2 : k + 1 < gs.length := by omega
    rw [List.getElem?_eq_getElem h1, List.getElem?_eq_getElem h2, Option.getD_some, Option.getD_some, decide_eq_true_iff]
    exact List.pairwise_iff_getElem.mp h k (k + 1) h1 h2 (by omega)
def rdN : Da → Nat
  | .int i => i.toNat
  | _ => 0
theorem rd_nats (gs : List Nat) : ((gs.map fun g : Nat => Da.int (g : Int)).map rdN) = gs := by
  rw [List.map_map]
  exact List.map_id'' (fun g => Int.toNat_natCast g) gs
theorem rising_ok {gs : List Nat} (hl : gs.length ≤ 1000) : F_is_rising [.d (natsT gs)] = some (.one (.d (.bool (decide (gs.Pairwise (· < ·))))), [.d (natsT gs)]) := by
  have len : fLenB [natsT gs] = some (.int (gs.length : Int)) := by
    show some (Da.int ((gs.map _).length : Int)) = _
    rw [List.length_map]
  have hs : fSub (.int (gs.length : Int)) (.int 1) = some (.int ((gs.length : Int) - 1)) := rfl
  have hi : iRg1 (aCons (eOp fSub (eCB fLenB (aCons (eV 0) aNil)) (eC (.int 1))) aNil) [.d (natsT gs), .un] = some ((rgN (gs.length - 1), []), [.d (natsT gs), .un]) := by
    have e : aCons (eOp fSub (eCB fLenB (aCons (eV 0) aNil)) (eC (.int 1))) aNil [.d (natsT gs), .un] = some ([.d (.int ((gs.length : Int) - 1))], [.d (natsT gs), .un]) := by
      generalize natsT gs = G at *
      generalize (gs.length : Int) = L at *
      simp [aCons, aNil, eOp, eCB, eV, eC, resA, res, AV.see, len, hs]
    unfold iRg1
    rw [e, Option.bind_some]
    dsimp only
    rw [show resA [.d (natsT gs), .un] [Lc.d (.int ((gs.length : Int) - 1))] = some [.int ((gs.length : Int) - 1)] from rfl, Option.bind_some]
    dsimp only
    rw [if_pos ⟨by omega, by omega⟩]
    unfold rgN
    rw [show ((gs.length : Int) - 1).toNat = gs.length - 1 by omega]
  have key : m_is_rising [.d (natsT gs), .un] = some (.rt (.one (.d (.bool (decide (gs.Pairwise (· < ·)))))) [.d (natsT gs), .un]) := by
    unfold m_is_rising sRet
    rw [all_pure (q := .un) (f := fun x => decide (gs[rdN x]?.getD 0 < gs[rdN x + 1]?.getD 0)) hi rfl rfl (by rw [rgN_len]; have : LIM = 1000000 := rfl; omega) ?_, Option.bind_some]
    · rw [← up_iff]
      unfold rgN
      rw [List.all_map]
      congr 5
    · intro x m
      obtain ⟨k, hk, rfl⟩ := rgN_mem m
      have h1 : k < gs.length := by omega
      have h2 : k + 1 < gs.length := by omega
      have e1 := nats_at (List.getElem?_eq_getElem h1)
      have e2 := nats_at (List.getElem?_eq_getElem h2)
      have e3 : fAdd (.int (k : Int)) (.int 1) = some (.int ((k + 1 : Nat) : Int)) := rfl
      have e4 : fLtA (.int (gs[k] : Int)) (.int (gs[k + 1] : Int)) = some (.bool (decide (gs[k] < gs[k + 1]))) := by
        show some (Da.bool (decide ((gs[k] : Int) < (gs[k + 1] : Int)))) = _
        congr 2
        exact decide_eq_decide.mpr (by omega)
      have e5 : rdN (.int (k : Int)) = k := Int.toNat_natCast k
      rw [e5, List.getElem?_eq_getElem h1, List.getElem?_eq_getElem h2, Option.getD_some, Option.getD_some]
      show eOp fLtA _ _ [.d (natsT gs), .d (.int (k : Int))] = some (_, [.d (natsT gs), .d (.int (k : Int))])
      generalize decide (gs[k] < gs[k + 1]) = B at *
      generalize (gs[k] : Int) = A1 at *
      generalize (gs[k + 1] : Int) = A2 at *
      generalize ((k + 1 : Nat) : Int) = k1 at *
      generalize (k : Int) = k0 at *
      generalize natsT gs = G at *
      simp [eOp, eV, eC, res, AV.see, e1, e2, e3, e4]
  exact def_go rfl key rfl rfl
def risB (n : Nat) : Da → Bool
  | .tuple xs => xs.all (belowB n) && decide ((xs.map rdN).Pairwise (· < ·))
  | _ => false
structure Cr (x : Da) : Prop where
  no : noT x = true
  tup : ∀ xs, x = .tuple xs → xs.length < 64 ∧ ∀ y ∈ xs, noT y = true
theorem tru_go {ma : ME} {α α1 : AS} {b : Bool} (h : ma α = some (.d (.bool b), α1)) : mTru ma α = some (b, α1) := by
  unfold mTru
  rw [h, Option.bind_some]
  rfl
theorem mnot_go {m : MT} {α α1 : AS} {b : Bool} (h : m α = some (b, α1)) : mNot m α = some (!b, α1) := by
  unfold mNot
  rw [h, Option.bind_some]
theorem mor_go {m n : MT} {α α1 : AS} {a b : Bool} (h1 : m α = some (a, α1)) (h2 : a = false → n α1 = some (b, α1)) : mOr m n α = some (a || b, α1) := by
  unfold mOr
  rw [h1, Option.bind_some]
  cases a with
  | true => rfl
  | false => rw [if_neg (by simp), h2 rfl]; rfl
theorem risingBelow_ok {n : Nat} {x : Da} (h : Cr x) : F_is_rising_below [.d (.int (n : Int)), .d x] = some (.one (.d (.bool (risB n x))), [.d (.int (n : Int)), .d x]) := by
  have i1 := isi_go (T := "tuple") (ma := eV 1) (α := [.d (.int (n : Int)), .d x, .un]) (l := .s 1) rfl rfl (isi_tup h.no)
  have key : Wp (m_is_rising_below [.d (.int (n : Int)), .d x, .un]) fun o => o = .rt (.one (.d (.bool (risB n x)))) [.d (.int (n : Int)), .d x, .un] := by
    unfold m_is_rising_below
    rw [wp_seq]
    by_cases ht : isTup x = true
    · cases x with
      | tuple xs =>
        obtain ⟨hl, hy⟩ := h.tup xs rfl
        have a1 : eCB fAll (aCons (eF (fLc (cmI (iAny (eV 1)) [2] (setD 2) tYesM (mLc (eCall F_is_below [] (aCons (eV 0) (aCons (eV 2) aNil))))))) aNil) [.d (.int (n : Int)), .d (.tuple xs), .un] = some (.d (.bool (xs.all (belowB n))), [.d (.int (n : Int)), .d (.tuple xs), .un]) := by
          refine all_pure (q := .un) (xs := xs) (f := belowB n) ?_ rfl rfl (by have : LIM = 1000000 := rfl; omega) ?_
          · unfold iAny iLst iTpl eV
            simp [own, AV.get]
          · intro y m
            exact callD (α1 := [.d (.int (n : Int)), .d (.tuple xs), .d y]) rfl rfl rfl (below_ok (hy y m))
        have t := mor_go (mnot_go (tru_go i1)) fun _ => mnot_go (tru_go a1)
        by_cases ha : xs.all (belowB n) = true
        · refine sif_false (by rw [t, ha]; rfl) ?_
          rw [wp_next]
          dsimp only
          rw [wp_ret]
          obtain ⟨gs, rfl, hg⟩ := below_nats ha
          rw [List.length_map] at hl
          refine ⟨_, callD (α1 := [.d (.int (n : Int)), .d (natsT gs), .un]) rfl rfl rfl (rising_ok (by omega)), ?_⟩
          unfold risB
          dsimp only
          rw [ha, rd_nats]
          rfl
        · have ha' : xs.all (belowB n) = false := by simpa using ha
          refine sif_true (by rw [t, ha']; rfl) ?_
          rw [wp_ret]
          refine ⟨_, rfl, ?_⟩
          unfold risB
          dsimp only
          rw [ha']
          rfl
      | _ => cases ht
    · have ht' : isTup x = false := by simpa using ht
      have t := mor_go (n := mNot (mTru (eCB fAll (aCons (eF (fLc (cmI (iAny (eV 1)) [2] (setD 2) tYesM (mLc (eCall F_is_below [] (aCons (eV 0) (aCons (eV 2) aNil))))))) aNil)))) (b := true) (mnot_go (tru_go i1)) (fun z => by rw [ht'] at z; cases z)
      refine sif_true (by rw [t, ht']; rfl) ?_
      rw [wp_ret]
      refine ⟨_, rfl, ?_⟩
      cases x <;> first | rfl | cases ht'
  obtain ⟨_, e, rfl⟩ := key
  exact def_go rfl e rfl rfl
end K50

namespace K50
open PySem PySem.Spec PyProof.Rows L2 Gk Vm
/-! numbers, each once -/
def addN (bs : List Nat) (b : Nat) : List Nat := if b ∈ bs then bs else bs ++ [b]
def once (gs : List Nat) : List Nat := gs.foldl addN []
theorem put_arm (bs : List Nat) (b : Nat) : putD (armD bs) (.inl (b : Int)) (.bool true) = armD (addN bs b) := by
  unfold putD armD addN
  by_cases h : b ∈ bs
  · rw [if_pos, if_pos h]
    · rw [List.map_map]
      apply List.map_congr_left
      intro c _
      simp only [Function.comp]
      split
      · rfl
      · rfl
    · rw [List.any_eq_true]
      exact ⟨_, List.mem_map_of_mem h, by simp⟩
  · rw [if_neg, if_neg h]
    · simp
    · rw [List.any_eq_true]
      rintro ⟨x, m, e⟩
      obtain ⟨c, mc, rfl⟩ := List.mem_map.mp m
      simp only [decide_eq_true_eq, Sum.inl.injEq, Int.ofNat_inj] at e
      rw [e] at mc
      exact h mc
theorem mk_arm (gs : List Nat) : mkD (gs.map fun g : Nat => ((.inl (g : Int) : Key), Da.bool true)) = armD (once gs) := by
  have gen : ∀ (gs bs : List Nat), (gs.map fun g : Nat => ((.inl (g : Int) : Key), Da.bool true)).foldl (fun acc kv => putD acc kv.1 kv.2) (armD bs) = armD (gs.foldl addN bs) := by
    intro gs
    induction gs with
    | nil => intro bs; rfl
    | cons g gs ih => intro bs; rw [List.map_cons, List.foldl_cons, put_arm, ih, List.foldl_cons]
  exact gen gs []
theorem once_facts (gs : List Nat) : (once gs).Nodup ∧ (∀ c, c ∈ once gs ↔ c ∈ gs) ∧ (once gs).length ≤ gs.length := by
  have gen : ∀ (gs bs : List Nat), bs.Nodup → (gs.foldl addN bs).Nodup ∧ (∀ c, c ∈ gs.foldl addN bs ↔ c ∈ bs ∨ c ∈ gs) ∧ (gs.foldl addN bs).length ≤ bs.length + gs.length := by
    intro gs
    induction gs with
    | nil => intro bs h; exact ⟨h, fun c => by simp, Nat.le_refl _⟩
    | cons g gs ih =>
      intro bs h
      rw [List.foldl_cons]
      by_cases hg : g ∈ bs
      · rw [show addN bs g = bs from if_pos hg]
        obtain ⟨h1, h2, h3⟩ := ih bs h
        refine ⟨h1, fun c => ?_, by rw [List.length_cons]; omega⟩
        rw [h2, List.mem_cons]
        constructor
        · rintro (a | a)
          · exact .inl a
          · exact .inr (.inr a)
        · rintro (a | rfl | a)
          · exact .inl a
          · exact .inl hg
          · exact .inr a
      · rw [show addN bs g = bs ++ [g] from if_neg hg]
        obtain ⟨h1, h2, h3⟩ := ih (bs ++ [g]) (by
          rw [List.nodup_append]
          exact ⟨h, by simp, fun x hx y hy => by simp at hy; rw [hy]; intro e; rw [e] at hx; exact hg hx⟩)
        refine ⟨h1, fun c => ?_, by rw [List.length_append] at h3; rw [List.length_cons]; simp at h3; omega⟩
        rw [h2, List.mem_cons, List.mem_append, List.mem_singleton, or_assoc]
  obtain ⟨h1, h2, h3⟩ := gen gs [] .nil
  exact ⟨h1, fun c => by rw [once, h2]; simp, by simpa [once] using h3⟩
theorem sort_once (gs : List Nat) : ∃ cs : List Nat, ((once gs).map fun b : Nat => (b : Int)).mergeSort leI = cs.map (fun b : Nat => (b : Int)) ∧ cs.Pairwise (· < ·) ∧ (gs.Pairwise (· < ·) → cs = gs) := by
  obtain ⟨cs, h1, h2, h3⟩ := sort_nats (once gs)
  obtain ⟨f1, f2, f3⟩ := once_facts gs
  have up := up_of h2 f1 h3
  refine ⟨cs, h1, up, fun hg => ?_⟩
  have nd : gs.Nodup := hg.imp fun h => Nat.ne_of_lt h
  have pm : cs.Perm gs := h2.trans ((List.perm_ext_iff_of_nodup f1 nd).mpr f2)
  exact List.Perm.eq_of_pairwise (le := (· ≤ ·)) (fun a b _ _ x y => Nat.le_antisymm x y) h3 (hg.imp fun h => Nat.le_of_lt h) pm
theorem toPys_nats : ∀ gs : List Nat, toPys (gs.map fun g : Nat => Da.int (g : Int)) = some (gs.map fun g : Nat => PyData.int (g : Int))
  | [] => rfl
  | g :: gs => by
    rw [List.map_cons]
    unfold toPys
    rw [toPys_nats gs]
    rfl
theorem lay_nats : ∀ gs : List Nat, PyData.canLayAll0 (gs.map fun g : Nat => PyData.int (g : Int)) = true
  | [] => rfl
  | g :: gs => by
    rw [List.map_cons]
    unfold PyData.canLayAll0
    rw [lay_nats gs]
    rfl
theorem dep_nats : ∀ gs : List Nat, PyData.depthAll (gs.map fun g : Nat => PyData.int (g : Int)) = 0
  | [] => rfl
  | g :: gs => by
    rw [List.map_cons]
    unfold PyData.depthAll
    rw [dep_nats gs]
    rfl
theorem sh_nats (gs : List Nat) : SeqAt.shaped (.list (gs.map fun g : Nat => PyData.int (g : Int))) = true := by
  unfold SeqAt.shaped
  rw [show PyData.canLay0 (.list (gs.map fun g : Nat => PyData.int (g : Int))) = PyData.canLayAll0 (gs.map fun g : Nat => PyData.int (g : Int)) by simp only [PyData.canLay0], lay_nats,
    show PyData.depth (.list (gs.map fun g : Nat => PyData.int (g : Int))) = PyData.depthAll (gs.map fun g : Nat => PyData.int (g : Int)) + 1 by simp only [PyData.depth], dep_nats]
  rfl
theorem eqv_nats : ∀ as bs : List Nat, PyData.eqvAll (as.map fun g : Nat => PyData.int (g : Int)) (bs.map fun g : Nat => PyData.int (g : Int)) = decide (as = bs)
  | [], [] => by simp [PyData.eqvAll]
  | [], b :: bs => by simp [PyData.eqvAll]
  | a :: as, [] => by simp [PyData.eqvAll]
  | a :: as, b :: bs => by
    rw [List.map_cons, List.map_cons]
    unfold PyData.eqvAll
    rw [eqv_nats as bs]
    simp only [PyData.eqv, List.cons.injEq, Bool.decide_and]
    congr 1
    rw [Bool.eq_iff_iff, beq_iff_eq, decide_eq_true_iff]
    omega
theorem eq_lists (as bs : List Nat) : fEqS (.list (as.map fun g : Nat => Da.int (g : Int))) (.list (bs.map fun g : Nat => Da.int (g : Int))) = some (.bool (decide (as = bs))) := by
  unfold fEqS fEqP
  rw [show strs2 (.list (as.map fun g : Nat => Da.int (g : Int))) (.list (bs.map fun g : Nat => Da.int (g : Int))) = none from rfl, Option.none_or, show toPy (.list (as.map fun g : Nat => Da.int (g : Int))) = some (.list (as.map fun g : Nat => PyData.int (g : Int))) by simp only [toPy]; rw [toPys_nats]; rfl,
    show toPy (.list (bs.map fun g : Nat => Da.int (g : Int))) = some (.list (bs.map fun g : Nat => PyData.int (g : Int))) by simp only [toPy]; rw [toPys_nats]; rfl,
    Option.bind_some, Option.bind_some, if_pos ⟨sh_nats as, sh_nats bs⟩]
  simp only [PyData.eqv]
  rw [eqv_nats]
  rfl
theorem pairs_nats : ∀ gs : List Nat, pairsD keyD (gs.map fun g : Nat => Da.tuple [.int (g : Int), .bool true]) = some (gs.map fun g : Nat => ((.inl (g : Int) : Key), Da.bool true))
  | [] => rfl
  | g :: gs => by
    rw [List.map_cons]
    unfold pairsD
    rw [pairs_nats gs]
    rfl
theorem sorted_ok {mf : MF} {α : AS} {gs : List Nat} (hl : gs.length < 64) (h : mf α = some (.r (.list (gs.map fun g : Nat => Da.tuple [.int (g : Int), .bool true])), α)) :
    ∃ cs : List Nat, cs.Pairwise (· < ·) ∧ (gs.Pairwise (· < ·) → cs = gs) ∧ eF (fSortDI (aCons (eF (fDictK (aCons (eF mf) aNil))) aNil)) α = some (.d (.list (cs.map fun g : Nat => Da.int (g : Int))), α) := by
  obtain ⟨cs, h1, h2, h3⟩ := sort_once gs
  refine ⟨cs, h2, h3, ?_⟩
  have hk : fDictK (aCons (eF mf) aNil) α = some (.r (.dk (armD (once gs))), α) := by
    unfold fDictK aCons eF aNil
    rw [h, Option.bind_some, Option.bind_some]
    dsimp only
    rw [Option.bind_some, Option.bind_some]
    dsimp only
    rw [show resA α [Lc.d (Nw.r (.list (gs.map fun g : Nat => Da.tuple [.int (g : Int), .bool true]))).da] = some [.list (gs.map fun g : Nat => Da.tuple [.int (g : Int), .bool true])] from rfl, Option.bind_some]
    dsimp only
    rw [pairs_nats, Option.bind_some, mk_arm]
  have f3 := (once_facts gs).2.2
  have hs : fSortDI (aCons (eF (fDictK (aCons (eF mf) aNil))) aNil) α = some (.r (.list (cs.map fun g : Nat => Da.int (g : Int))), α) := by
    generalize fDictK (aCons (eF mf) aNil) = mk at hk ⊢
    unfold fSortDI aCons eF aNil
    rw [hk, Option.bind_some, Option.bind_some]
    dsimp only
    rw [Option.bind_some, Option.bind_some]
    dsimp only
    rw [show resA α [Lc.d (Nw.r (.dk (armD (once gs)))).da] = some [.dk (armD (once gs))] from rfl, Option.bind_some]
    dsimp only
    rw [arm_ints, Option.bind_some, if_pos (by rw [List.length_map]; omega), h1, List.map_map]
    rfl
  unfold eF
  unfold eF at hs
  rw [hs, Option.bind_some]
  rfl
theorem eop_go {f : Da → Da → Option Da} {ma mb : ME} {α α1 α2 : AS} {la lb : Lc} {a b c : Da} (h1 : ma α = some (la, α1)) (h2 : mb α1 = some (lb, α2)) (ra : res α2 la = some a) (rb : res α2 lb = some b) (hf : f a b = some c) : eOp f ma mb α = some (.d c, α2) := by
  unfold eOp
  rw [h1, Option.bind_some]
  dsimp only
  rw [h2, Option.bind_some]
  dsimp only
  rw [ra, Option.bind_some, rb, Option.bind_some, hf, Option.bind_some]
theorem any_tup {i : Nat} {α : AS} {xs : List Da} (h : α[i]? = some (.d (.tuple xs))) : iAny (eV i) α = some ((xs, []), α) := by
  have e : eV i α = some (.s i, α) := by unfold eV; rw [h]
  unfold iAny iLst iTpl
  rw [e]
  simp [own, h, AV.get]
theorem crossings_ok {n : Nat} {x : Da} (h : Cr x) : F_law_is_crossings [.d (.int (n : Int)), .d x] = some (.one (.d (.bool (risB n x))), [.d (.int (n : Int)), .d x]) := by
  have i1 := isi_go (T := "tuple") (ma := eV 1) (α := [.d (.int (n : Int)), .d x, .un]) (l := .s 1) rfl rfl (isi_tup h.no)
  have key : Wp (m_law_is_crossings [.d (.int (n : Int)), .d x, .un]) fun o => o = .rt (.one (.d (.bool (risB n x)))) [.d (.int (n : Int)), .d x, .un] := by
    unfold m_law_is_crossings
    rw [wp_seq]
    by_cases ht : isTup x = true
    · cases x with
      | tuple xs =>
        obtain ⟨hl, hy⟩ := h.tup xs rfl
        refine sif_false (by rw [mnot_go (tru_go i1)]; rfl) ?_
        rw [wp_next]
        dsimp only
        rw [wp_seq]
        have a1 : eCB fAll (aCons (eF (fLc (cmI (iAny (eV 1)) [2] (setD 2) tYesM (mLc (eAnd (eIsi "int" (eV 2)) (eAnd (eNot (eIsi "bool" (eV 2))) (eChain fLe fLt (eC (.int 0)) (eV 2) (eV 0)))))))) aNil) [.d (.int (n : Int)), .d (.tuple xs), .un] = some (.d (.bool (xs.all (belowB n))), [.d (.int (n : Int)), .d (.tuple xs), .un]) := by
          refine all_pure (q := .un) (xs := xs) (f := belowB n) (any_tup rfl) rfl rfl (by have : LIM = 1000000 := rfl; omega) ?_
          intro y m
          have hy' := hy y m
          have b1 := isi_go (T := "int") (ma := eV 2) (α := [.d (.int (n : Int)), .d (.tuple xs), .d y]) (l := .s 2) rfl rfl (isi_int hy')
          have b2 := not_go (isi_go (T := "bool") (ma := eV 2) (α := [.d (.int (n : Int)), .d (.tuple xs), .d y]) (l := .s 2) rfl rfl (isi_bool hy'))
          show eAnd _ _ [.d (.int (n : Int)), .d (.tuple xs), .d y] = some (_, [.d (.int (n : Int)), .d (.tuple xs), .d y])
          rw [and_go (b := belowB n y) b1 (fun hb => ?_) fun _ => rfl]
          · cases y <;> rfl
          · cases y with
            | int i => exact (and_go b2 (fun _ => chain_go rfl rfl rfl rfl rfl rfl) fun _ => rfl).trans rfl
            | bool i => exact (and_go (b := false) b2 (fun z => by cases z) fun _ => rfl).trans rfl
            | _ => cases hb
        by_cases ha : xs.all (belowB n) = true
        · refine sif_false (by rw [mnot_go (tru_go a1), ha]; rfl) ?_
          rw [wp_next]
          dsimp only
          rw [wp_ret]
          obtain ⟨gs, rfl, hg⟩ := below_nats ha
          rw [List.length_map] at hl
          have c1 : fLc (cmI (iAny (eV 1)) [2] (setD 2) tYesM (mLc (eTup (aCons (eV 2) (aCons (eC (.bool true)) aNil))))) [.d (.int (n : Int)), .d (natsT gs), .un] = some (.r (.list (gs.map fun g : Nat => Da.tuple [.int (g : Int), .bool true])), [.d (.int (n : Int)), .d (natsT gs), .un]) := by
            rw [lc_pure (q := .un) (f := fun y => .tuple [y, .bool true]) (any_tup rfl) rfl rfl (by rw [List.length_map]; have : LIM = 1000000 := rfl; omega) fun y m => ⟨.d (.tuple [y, .bool true]), rfl, rfl⟩, List.map_map]
            rfl
          obtain ⟨cs, up, same, e1⟩ := sorted_ok hl c1
          have l1 : eF (fListM (aCons (eV 1) aNil)) [.d (.int (n : Int)), .d (natsT gs), .un] = some (.d (.list (gs.map fun g : Nat => Da.int (g : Int))), [.d (.int (n : Int)), .d (natsT gs), .un]) := rfl
          refine ⟨_, eop_go l1 e1 rfl rfl (eq_lists gs cs), ?_⟩
          have hb : decide (gs = cs) = decide (gs.Pairwise (· < ·)) := by
            rw [Bool.eq_iff_iff, decide_eq_true_iff, decide_eq_true_iff]
            exact ⟨fun e => e ▸ up, fun u => (same u).symm⟩
          unfold risB
          dsimp only
          rw [ha, rd_nats, hb]
          rfl
        · have ha' : xs.all (belowB n) = false := by simpa using ha
          refine sif_true (by rw [mnot_go (tru_go a1), ha']; rfl) ?_
          rw [wp_ret]
          refine ⟨_, rfl, ?_⟩
          unfold risB
          dsimp only
          rw [ha']
          rfl
      | _ => cases ht
    · have ht' : isTup x = false := by simpa using ht
      refine sif_true (by rw [mnot_go (tru_go i1), ht']; rfl) ?_
      rw [wp_ret]
      refine ⟨_, rfl, ?_⟩
      cases x <;> first | rfl | cases ht'
  obtain ⟨_, e, rfl⟩ := key
  exact def_go rfl e rfl rfl
end K50

namespace K50
open PySem PySem.Spec PyProof.Rows L2 Gk Vm
abbrev wSom : Str := Str.ofString "somewhere"
abbrev wFro : Str := Str.ofString "from"
abbrev wInt : Str := Str.ofString "into"
abbrev wAmo : Str := Str.ofString "among"
def inB (s : Str) : Bool := [Da.str wInt, Da.str wAmo].any fun y => eqF y (.str s)
def askB (n : Nat) : Da → Bool
  | .tuple (.str s :: rest) => if (s == wSom) = true then (((rest.length + 1 : Nat) : Int) == 1) else match rest with
    | [y] => if (s == wFro) = true then belowB n y else inB s && risB n y
    | _ => false
  | _ => false
theorem askB1 {n : Nat} {s : Str} {ys : List Da} (h : (s == wSom) = true) : askB n (.tuple (.str s :: ys)) = (((ys.length + 1 : Nat) : Int) == 1) := if_pos h
theorem askB2 {n : Nat} {s : Str} {z : Da} (h : (s == wSom) = false) (h2 : (s == wFro) = true) : askB n (.tuple [.str s, z]) = belowB n z := (if_neg (by rw [h]; decide)).trans (if_pos h2)
theorem askB3 {n : Nat} {s : Str} {z : Da} (h : (s == wSom) = false) (h2 : (s == wFro) = false) : askB n (.tuple [.str s, z]) = (inB s && risB n z) := (if_neg (by rw [h]; decide)).trans (if_neg (by rw [h2]; decide))
theorem askB4 {n : Nat} {s : Str} {ys : List Da} (h : (s == wSom) = false) (h2 : ys.length ≠ 1) : askB n (.tuple (.str s :: ys)) = false := by
  refine (if_neg (by rw [h]; decide)).trans ?_
  match ys, h2 with
  | [], _ => rfl
  | _ :: _ :: _, _ => rfl
structure Tg (th : Da) : Prop where
  no : noT th = true
  eq : ∀ xs, th = .tuple xs → fEqS (.tuple xs) (.tuple []) = some (.bool xs.isEmpty)
  hd : ∀ y ys, th = .tuple (y :: ys) → noT y = true
  st : ∀ s ys, th = .tuple (.str s :: ys) → SeqAt.shaped (.str s) = true
  cr : ∀ s y, th = .tuple [.str s, y] → Cr y
theorem sub0 (y : Da) (ys : List Da) : fSubs (.tuple (y :: ys)) (.int 0) = some y := by
  show atI _ _ = _
  unfold atI ixN
  rw [if_pos (by decide), if_pos (by simp only [List.length_cons]; omega)]
  rfl
theorem sub1 (x y : Da) (ys : List Da) : fSubs (.tuple (x :: y :: ys)) (.int 1) = some y := by
  show atI _ _ = _
  unfold atI ixN
  rw [if_pos (by decide), if_pos (by simp only [List.length_cons]; omega)]
  rfl
theorem len_tup (xs : List Da) : fLenB [.tuple xs] = some (.int ((xs.length : Nat) : Int)) := rfl
theorem tru_any {i : Nat} {α : AS} {x : Da} (h : α[i]? = some (.d x)) : mTru (eV i) α = some (truD x, α) := by
  unfold mTru eV
  rw [h]
  simp [res, h, AV.see]
theorem ecb1 {f : List Da → Option Da} {i : Nat} {α : AS} {x c : Da} (h : α[i]? = some (.d x)) (hf : f [x] = some c) : eCB f (aCons (eV i) aNil) α = some (.d c, α) := by
  unfold eCB aCons aNil eV
  rw [h]
  simp [resA, res, h, AV.see, hf]
theorem ev_go {i : Nat} {α : AS} {x : Da} (h : α[i]? = some (.d x)) : eV i α = some (.s i, α) ∧ res α (.s i) = some x := by
  refine ⟨by unfold eV; rw [h], ?_⟩
  show (α[i]?).bind AV.see = some x
  rw [h]
  rfl
theorem in_two (s : Str) : fIn false (.str s) (.tuple [.str wInt, .str wAmo]) = some (.bool (inB s)) := rfl
theorem tof_sub {i : Nat} {α : AS} {y : Da} {ys : List Da} {q : Str} {b : Bool} (h : α[i]? = some (.d (.tuple (y :: ys)))) (hb : fEqS y (.str q) = some (.bool b)) : tOfE (eOp fEqS (eOp fSubs (eV i) (eC (.int 0))) (eC (.str q))) α = some (b, α) :=
  tof_go (eop_go (eop_go (ev_go h).1 rfl (ev_go h).2 rfl (sub0 y ys)) rfl rfl rfl hb)
theorem ret_false {α : AS} {Q : Out → Prop} (h : Q (.rt (.one (.d (.bool false))) α)) : Wp (sRet (eC (.bool false)) α) Q := by
  rw [wp_ret]
  exact ⟨_, rfl, h⟩
theorem isAsk_ok {n : Nat} {W th : Da} (hW : fSubs W (.int 0) = some (.int (n : Int))) (h : Tg th) : F_is_ask [.d W, .d th] = some (.one (.d (.bool (askB n th))), [.d W, .d th]) := by
  have i1 := isi_go (T := "tuple") (ma := eV 1) (α := [.d W, .d th]) (l := .s 1) rfl rfl (isi_tup h.no)
  have key : Wp (m_is_ask [.d W, .d th]) fun o => o = .rt (.one (.d (.bool (askB n th)))) [.d W, .d th] := by
    unfold m_is_ask
    rw [wp_seq]
    by_cases ht : isTup th = true
    · cases th with
      | tuple xs =>
        cases xs with
        | nil =>
          refine sif_true (α1 := [.d W, .d (.tuple [])]) ((mor_go (b := true) (mnot_go (tru_go i1)) fun _ => (mor_go (b := true) (mnot_go (tru_any rfl)) fun z => by cases z).trans rfl).trans rfl) ?_
          exact ret_false rfl
        | cons y ys =>
          have hy := h.hd y ys rfl
          have e0 : eOp fSubs (eV 1) (eC (.int 0)) [.d W, .d (.tuple (y :: ys))] = some (.d y, [.d W, .d (.tuple (y :: ys))]) := eop_go rfl rfl rfl rfl (sub0 y ys)
          have i2 := isi_go (T := "str") (α1 := [.d W, .d (.tuple (y :: ys))]) e0 rfl (isi_str hy)
          have t := mor_go (mnot_go (tru_go i1)) fun _ => mor_go (mnot_go (tru_any (i := 1) (α := [.d W, .d (.tuple (y :: ys))]) (x := .tuple (y :: ys)) rfl)) fun _ => mnot_go (tru_go i2)
          cases y with
          | str s =>
            refine sif_false (by rw [t]; rfl) ?_
            have hs := h.st s ys rfl
            rw [wp_next]
            dsimp only
            rw [wp_seq]
            have t1 := tof_sub (i := 1) (α := [.d W, .d (.tuple (.str s :: ys))]) rfl (eq_w hs sh1)
            have l1 := ecb1 (i := 1) (α := [.d W, .d (.tuple (.str s :: ys))]) rfl (len_tup (.str s :: ys))
            cases h1 : (s == wSom) with
            | true =>
              refine sif_true (by rw [t1, h1]) ?_
              rw [wp_ret]
              refine ⟨_, eop_go l1 rfl rfl rfl (eqS_int _ _), ?_⟩
              rw [askB1 h1]
              rfl
            | false =>
              refine sif_false (by rw [t1, h1]) ?_
              rw [wp_next]
              dsimp only
              rw [wp_seq]
              have t2 : tOfE (eOp fNeS (eCB fLenB (aCons (eV 1) aNil)) (eC (.int 2))) [.d W, .d (.tuple (.str s :: ys))] = some (!(((Da.str s :: ys).length : Int) == 2), [.d W, .d (.tuple (.str s :: ys))]) := tof_go (eop_go l1 rfl rfl rfl (neS_int _ _))
              by_cases h2 : ys.length = 1
              · obtain ⟨z, rfl⟩ := List.length_eq_one_iff.mp h2
                refine sif_false (by rw [t2]; rfl) ?_
                rw [wp_next]
                dsimp only
                rw [wp_seq]
                have hc := h.cr s z rfl
                have t3 := tof_sub (i := 1) (α := [.d W, .d (.tuple [.str s, z])]) rfl (eq_w hs sh2)
                have e1 : eOp fSubs (eV 1) (eC (.int 1)) [.d W, .d (.tuple [.str s, z])] = some (.d z, [.d W, .d (.tuple [.str s, z])]) := eop_go rfl rfl rfl rfl (sub1 _ z [])
                have eW : eOp fSubs (eV 0) (eC (.int 0)) [.d W, .d (.tuple [.str s, z])] = some (.d (.int (n : Int)), [.d W, .d (.tuple [.str s, z])]) := eop_go rfl rfl rfl rfl hW
                have ar : aCons (eOp fSubs (eV 0) (eC (.int 0))) (aCons (eOp fSubs (eV 1) (eC (.int 1))) aNil) [.d W, .d (.tuple [.str s, z])] = some ([.d (.int (n : Int)), .d z], [.d W, .d (.tuple [.str s, z])]) := by
                  unfold aCons aNil
                  rw [eW, Option.bind_some]
                  dsimp only
                  rw [e1]
                  rfl
                cases h3 : (s == wFro) with
                | true =>
                  refine sif_true (by rw [t3, h3]) ?_
                  rw [wp_ret]
                  refine ⟨_, callD ar rfl rfl (below_ok hc.no), ?_⟩
                  rw [askB2 h1 h3]
                  rfl
                | false =>
                  refine sif_false (by rw [t3, h3]) ?_
                  rw [wp_next]
                  dsimp only
                  rw [wp_ret]
                  have e0 : eOp fSubs (eV 1) (eC (.int 0)) [.d W, .d (.tuple [.str s, z])] = some (.d (.str s), [.d W, .d (.tuple [.str s, z])]) := eop_go rfl rfl rfl rfl (sub0 _ [z])
                  have ei : eOp (fIn false) (eOp fSubs (eV 1) (eC (.int 0))) (eTup (aCons (eC (.str (Str.ofString "into"))) (aCons (eC (.str (Str.ofString "among"))) aNil))) [.d W, .d (.tuple [.str s, z])] = some (.d (.bool (inB s)), [.d W, .d (.tuple [.str s, z])]) := eop_go (lb := .d (.tuple [.str wInt, .str wAmo])) e0 rfl rfl rfl (in_two s)
                  refine ⟨_, and_go ei (fun _ => callD ar rfl rfl (risingBelow_ok hc)) fun _ => rfl, ?_⟩
                  rw [askB3 h1 h3]
              · refine sif_true (α1 := [.d W, .d (.tuple (.str s :: ys))]) ?_ ?_
                · rw [t2]
                  have : (((Da.str s :: ys).length : Int) == 2) = false := by rw [beq_eq_false_iff_ne, List.length_cons]; omega
                  rw [this]
                  rfl
                · refine ret_false ?_
                  rw [askB4 h1 h2]
          | dt kvs => cases hy
          | _ => exact sif_true (by rw [t]; rfl) (ret_false rfl)
      | _ => cases ht
    · have ht' : isTup th = false := by simpa using ht
      refine sif_true ((mor_go (b := true) (mnot_go (tru_go i1)) fun z => by rw [ht'] at z; cases z).trans (by rw [ht']; rfl)) ?_
      refine ret_false ?_
      cases th <;> first | rfl | cases ht'
  obtain ⟨_, e, rfl⟩ := key
  exact def_go rfl e rfl rfl
theorem ris_one {n : Nat} {z : Da} : risB n (.tuple [z]) = belowB n z := by
  unfold risB
  simp
theorem cr_one {z : Da} (h : Cr z) : Cr (.tuple [z]) := ⟨rfl, fun xs e => by
  cases e
  exact ⟨by show 1 < 64; decide, fun y m => by rw [List.mem_singleton.mp m]; exact h.no⟩⟩
theorem isAsking_ok {n : Nat} {th : Da} (h : Tg th) : F_law_is_asking [.d (.int (n : Int)), .d th] = some (.one (.d (.bool (askB n th))), [.d (.int (n : Int)), .d th]) := by
  generalize hWW : Da.int (n : Int) = W
  have i1 := isi_go (T := "tuple") (ma := eV 1) (α := [.d W, .d th]) (l := .s 1) rfl rfl (isi_tup h.no)
  have key : Wp (m_law_is_asking [.d W, .d th]) fun o => o = .rt (.one (.d (.bool (askB n th)))) [.d W, .d th] := by
    unfold m_law_is_asking
    rw [wp_seq]
    by_cases ht : isTup th = true
    · cases th with
      | tuple xs =>
        have q1 : tOfE (eOp fEqS (eV 1) (eTup aNil)) [.d W, .d (.tuple xs)] = some (xs.isEmpty, [.d W, .d (.tuple xs)]) := tof_go (eop_go (lb := .d (.tuple [])) rfl rfl rfl rfl (h.eq xs rfl))
        cases xs with
        | nil =>
          refine sif_true (α1 := [.d W, .d (.tuple [])]) ((mor_go (b := true) (mnot_go (tru_go i1)) fun _ => (mor_go (b := true) q1 fun z => by cases z).trans rfl).trans rfl) ?_
          exact ret_false rfl
        | cons y ys =>
          have hy := h.hd y ys rfl
          have e0 : eOp fSubs (eV 1) (eC (.int 0)) [.d W, .d (.tuple (y :: ys))] = some (.d y, [.d W, .d (.tuple (y :: ys))]) := eop_go rfl rfl rfl rfl (sub0 y ys)
          have i2 := isi_go (T := "str") (α1 := [.d W, .d (.tuple (y :: ys))]) e0 rfl (isi_str hy)
          have t := mor_go (mnot_go (tru_go i1)) fun _ => mor_go q1 fun _ => mnot_go (tru_go i2)
          cases y with
          | str s =>
            refine sif_false (by rw [t]; rfl) ?_
            have hs := h.st s ys rfl
            rw [wp_next]
            dsimp only
            rw [wp_seq]
            have t1 := tof_sub (i := 1) (α := [.d W, .d (.tuple (.str s :: ys))]) rfl (eq_w hs sh1)
            have l1 := ecb1 (i := 1) (α := [.d W, .d (.tuple (.str s :: ys))]) rfl (len_tup (.str s :: ys))
            cases h1 : (s == wSom) with
            | true =>
              refine sif_true (by rw [t1, h1]) ?_
              rw [wp_ret]
              refine ⟨_, eop_go l1 rfl rfl rfl (eqS_int _ _), ?_⟩
              rw [askB1 h1]
              rfl
            | false =>
              refine sif_false (by rw [t1, h1]) ?_
              rw [wp_next]
              dsimp only
              rw [wp_seq]
              have t2 : tOfE (eOp fNeS (eCB fLenB (aCons (eV 1) aNil)) (eC (.int 2))) [.d W, .d (.tuple (.str s :: ys))] = some (!(((Da.str s :: ys).length : Int) == 2), [.d W, .d (.tuple (.str s :: ys))]) := tof_go (eop_go l1 rfl rfl rfl (neS_int _ _))
              by_cases h2 : ys.length = 1
              · obtain ⟨z, rfl⟩ := List.length_eq_one_iff.mp h2
                refine sif_false (by rw [t2]; rfl) ?_
                rw [wp_next]
                dsimp only
                rw [wp_seq]
                have hc := h.cr s z rfl
                have t3 := tof_sub (i := 1) (α := [.d W, .d (.tuple [.str s, z])]) rfl (eq_w hs sh2)
                have e1 : eOp fSubs (eV 1) (eC (.int 1)) [.d W, .d (.tuple [.str s, z])] = some (.d z, [.d W, .d (.tuple [.str s, z])]) := eop_go rfl rfl rfl rfl (sub1 _ z [])
                cases h3 : (s == wFro) with
                | true =>
                  refine sif_true (by rw [t3, h3]) ?_
                  rw [wp_ret]
                  have ar : aCons (eV 0) (aCons (eSl (eV 1) (oSome (eC (.int 1))) oNone) aNil) [.d W, .d (.tuple [.str s, z])] = some ([.s 0, .d (.tuple [z])], [.d W, .d (.tuple [.str s, z])]) := rfl
                  refine ⟨_, callD ar rfl rfl (by rw [← hWW]; exact crossings_ok (cr_one hc)), ?_⟩
                  rw [askB2 h1 h3, ris_one]
                  rfl
                | false =>
                  refine sif_false (by rw [t3, h3]) ?_
                  rw [wp_next]
                  dsimp only
                  rw [wp_ret]
                  have ar : aCons (eV 0) (aCons (eOp fSubs (eV 1) (eC (.int 1))) aNil) [.d W, .d (.tuple [.str s, z])] = some ([.s 0, .d z], [.d W, .d (.tuple [.str s, z])]) := by
                    unfold aCons aNil
                    rw [(ev_go (i := 0) (α := [.d W, .d (.tuple [.str s, z])]) rfl).1, Option.bind_some]
                    dsimp only
                    rw [e1]
                    rfl
                  have e0 : eOp fSubs (eV 1) (eC (.int 0)) [.d W, .d (.tuple [.str s, z])] = some (.d (.str s), [.d W, .d (.tuple [.str s, z])]) := eop_go rfl rfl rfl rfl (sub0 _ [z])
                  have ei : eOp (fIn false) (eOp fSubs (eV 1) (eC (.int 0))) (eTup (aCons (eC (.str (Str.ofString "into"))) (aCons (eC (.str (Str.ofString "among"))) aNil))) [.d W, .d (.tuple [.str s, z])] = some (.d (.bool (inB s)), [.d W, .d (.tuple [.str s, z])]) := eop_go (lb := .d (.tuple [.str wInt, .str wAmo])) e0 rfl rfl rfl (in_two s)
                  refine ⟨_, and_go ei (fun _ => callD ar rfl rfl (by rw [← hWW]; exact crossings_ok hc)) fun _ => rfl, ?_⟩
                  rw [askB3 h1 h3]
              · refine sif_true (α1 := [.d W, .d (.tuple (.str s :: ys))]) ?_ ?_
                · rw [t2]
                  have : (((Da.str s :: ys).length : Int) == 2) = false := by rw [beq_eq_false_iff_ne, List.length_cons]; omega
                  rw [this]
                  rfl
                · refine ret_false ?_
                  rw [askB4 h1 h2]
          | dt kvs => cases hy
          | _ => exact sif_true (by rw [t]; rfl) (ret_false rfl)
      | _ => cases ht
    · have ht' : isTup th = false := by simpa using ht
      refine sif_true ((mor_go (b := true) (mnot_go (tru_go i1)) fun z => by rw [ht'] at z; cases z).trans (by rw [ht']; rfl)) ?_
      refine ret_false ?_
      cases th <;> first | rfl | cases ht'
  obtain ⟨_, e, rfl⟩ := key
  exact def_go rfl e rfl rfl
end K50

namespace K50
open PySem PySem.Spec PyProof.Rows L2 Gk Vm
/-! tame things -/
def Tm (k : Nat) (x : Da) : Prop := ∃ d, toPy x = some d ∧ d.canLay0 = true ∧ d.depth ≤ k
def TmL (k : Nat) (xs : List Da) : Prop := ∃ ds, toPys xs = some ds ∧ PyData.canLayAll0 ds = true ∧ PyData.depthAll ds ≤ k
theorem tm_int {k : Nat} {i : Int} : Tm k (.int i) := ⟨_, rfl, rfl, Nat.zero_le _⟩
theorem tm_bool {k : Nat} {i : Bool} : Tm k (.bool i) := ⟨_, rfl, rfl, Nat.zero_le _⟩
theorem tm_none {k : Nat} : Tm k .none := ⟨_, rfl, rfl, Nat.zero_le _⟩
theorem tm_str {k : Nat} {s : Str} (h : SeqAt.shaped (.str s) = true) : Tm k (.str s) := ⟨_, rfl, SeqAt.canLay_of_shaped h, Nat.zero_le _⟩
theorem tm_nil {k : Nat} : TmL k [] := ⟨[], rfl, rfl, Nat.zero_le _⟩
theorem tm_cons {k : Nat} {x : Da} {xs : List Da} (h : Tm k x) (t : TmL k xs) : TmL k (x :: xs) := by
  obtain ⟨d, h1, h2, h3⟩ := h
  obtain ⟨ds, t1, t2, t3⟩ := t
  refine ⟨d :: ds, ?_, ?_, ?_⟩
  · unfold toPys
    rw [h1, t1]
    rfl
  · unfold PyData.canLayAll0
    rw [h2, t2]
    rfl
  · unfold PyData.depthAll
    omega
theorem tm_tup {k : Nat} {xs : List Da} (t : TmL k xs) : Tm (k + 1) (.tuple xs) := by
  obtain ⟨ds, t1, t2, t3⟩ := t
  refine ⟨.tuple ds, ?_, ?_, ?_⟩
  · unfold toPy
    rw [t1]
    rfl
  · unfold PyData.canLay0
    exact t2
  · unfold PyData.depth
    omega
theorem tm_lst {k : Nat} {xs : List Da} (t : TmL k xs) : Tm (k + 1) (.list xs) := by
  obtain ⟨ds, t1, t2, t3⟩ := t
  refine ⟨.list ds, ?_, ?_, ?_⟩
  · unfold toPy
    rw [t1]
    rfl
  · unfold PyData.canLay0
    exact t2
  · unfold PyData.depth
    omega
theorem tm_nats {k : Nat} (gs : List Nat) : Tm (k + 1) (natsT gs) := tm_tup ⟨_, toPys_nats gs, lay_nats gs, by rw [dep_nats]; exact Nat.zero_le _⟩
theorem TmL.at {k : Nat} : ∀ {xs : List Da}, TmL k xs → ∀ x ∈ xs, Tm k x
  | [], _, x, m => (List.not_mem_nil m).elim
  | y :: ys, ⟨ds, t1, t2, t3⟩, x, m => by
    unfold toPys at t1
    obtain ⟨d, e1, e2⟩ := Option.bind_eq_some_iff.mp t1
    obtain ⟨es, e3, e4⟩ := Option.bind_eq_some_iff.mp e2
    cases e4
    unfold PyData.canLayAll0 at t2
    unfold PyData.depthAll at t3
    rw [Bool.and_eq_true] at t2
    rcases List.mem_cons.mp m with rfl | m
    · exact ⟨d, e1, t2.1, by omega⟩
    · exact TmL.at ⟨es, e3, t2.2, by omega⟩ x m
theorem Tm.no {k : Nat} {x : Da} (h : Tm k x) : noT x = true := by
  obtain ⟨d, e, _⟩ := h
  cases x <;> first | rfl | cases e
theorem Tm.st {k : Nat} {s : Str} (h : Tm k (.str s)) : SeqAt.shaped (.str s) = true := by
  obtain ⟨d, e, h1, h2⟩ := h
  cases e
  unfold SeqAt.shaped
  rw [h1]
  rfl
theorem eq_empty {xs : List Da} {k : Nat} (h : TmL k xs) (hk : k < 64) : fEqS (.tuple xs) (.tuple []) = some (.bool xs.isEmpty) := by
  obtain ⟨ds, t1, t2, t3⟩ := h
  have s1 : SeqAt.shaped (.tuple ds) = true := by
    unfold SeqAt.shaped
    rw [show PyData.canLay0 (.tuple ds) = PyData.canLayAll0 ds by simp only [PyData.canLay0], t2, show PyData.depth (.tuple ds) = PyData.depthAll ds + 1 by simp only [PyData.depth], decide_eq_true (by omega)]
    rfl
  have s2 : SeqAt.shaped (.tuple []) = true := rfl
  unfold fEqS fEqP
  rw [show strs2 (.tuple xs) (.tuple []) = none from rfl, Option.none_or, show toPy (.tuple xs) = some (.tuple ds) by simp only [toPy]; rw [t1]; rfl, show toPy (.tuple []) = some (.tuple []) from rfl, Option.bind_some, Option.bind_some, if_pos ⟨s1, s2⟩]
  have : ds.isEmpty = xs.isEmpty := by
    cases xs with
    | nil => cases t1; rfl
    | cons x xs =>
      unfold toPys at t1
      obtain ⟨d, e1, e2⟩ := Option.bind_eq_some_iff.mp t1
      obtain ⟨es, e3, e4⟩ := Option.bind_eq_some_iff.mp e2
      cases e4
      rfl
  rw [← this]
  simp only [PyData.eqv]
  cases ds with
  | nil => simp [PyData.eqvAll]
  | cons d ds => simp [PyData.eqvAll]
theorem tgN {x : Da} (h : noT x = true) (h2 : isTup x = false) : Tg x := by
  refine ⟨h, ?_, ?_, ?_, ?_⟩
  · intro xs e; subst e; cases h2
  · intro y ys e; subst e; cases h2
  · intro y ys e; subst e; cases h2
  · intro y ys e; subst e; cases h2
theorem tg_of {xs : List Da} (h : TmL 10 xs) (hc : ∀ s y, xs = [.str s, y] → Cr y) : Tg (.tuple xs) := by
  refine ⟨rfl, ?_, ?_, ?_, ?_⟩
  · intro ys e; cases e; exact eq_empty h (by decide)
  · intro y ys e; cases e; exact (h.at y (List.mem_cons_self ..)).no
  · intro y ys e; cases e; exact (h.at _ (List.mem_cons_self ..)).st
  · intro s y e; cases e; exact hc s y rfl
theorem crN {x : Da} (h : noT x = true) (h2 : isTup x = false) : Cr x := ⟨h, fun xs e => by subst e; cases h2⟩
theorem crT {xs : List Da} (h : TmL 10 xs) (hl : xs.length < 64) : Cr (.tuple xs) := ⟨rfl, fun ys e => by cases e; exact ⟨hl, fun y m => (h.at y m).no⟩⟩
theorem cr_nats {gs : List Nat} (hl : gs.length < 64) : Cr (natsT gs) := crT ⟨_, toPys_nats gs, lay_nats gs, by rw [dep_nats]; exact Nat.zero_le _⟩ (by rw [List.length_map]; exact hl)
theorem shW : SeqAt.shaped (.str (Str.ofString "nowhere")) = true := by decide +kernel
theorem near_list {n : Nat} {a : Ask} (hn : n ≤ 50) (ha : AskOk n a) : Tg (askT a) := by
  cases a with
  | some_ => exact tg_of (by (repeat (first | exact tm_nil | refine tm_cons ?_ ?_ | exact tm_int | exact tm_bool | exact tm_none | exact tm_nats _ | exact tm_str sh1 | exact tm_str sh2 | exact tm_str sh3 | exact tm_str sh4 | exact tm_str shW | refine tm_tup ?_ | refine tm_lst ?_))) (by ((intro s y e; first | (cases e; done) | (cases e; exact crN rfl rfl) | (cases e; exact cr_nats (by assumption)) | (cases e; exact crT (by (repeat (first | exact tm_nil | refine tm_cons ?_ ?_ | exact tm_int | exact tm_bool | exact tm_none | exact tm_nats _ | exact tm_str sh1 | exact tm_str sh2 | exact tm_str sh3 | exact tm_str sh4 | exact tm_str shW | refine tm_tup ?_ | refine tm_lst ?_))) (by simp)))))
  | frm c => exact tg_of (by (repeat (first | exact tm_nil | refine tm_cons ?_ ?_ | exact tm_int | exact tm_bool | exact tm_none | exact tm_nats _ | exact tm_str sh1 | exact tm_str sh2 | exact tm_str sh3 | exact tm_str sh4 | exact tm_str shW | refine tm_tup ?_ | refine tm_lst ?_))) (by ((intro s y e; first | (cases e; done) | (cases e; exact crN rfl rfl) | (cases e; exact cr_nats (by assumption)) | (cases e; exact crT (by (repeat (first | exact tm_nil | refine tm_cons ?_ ?_ | exact tm_int | exact tm_bool | exact tm_none | exact tm_nats _ | exact tm_str sh1 | exact tm_str sh2 | exact tm_str sh3 | exact tm_str sh4 | exact tm_str shW | refine tm_tup ?_ | refine tm_lst ?_))) (by simp)))))
  | into gs =>
    have : gs.length < 64 := by have := ha.len; omega
    exact tg_of (by (repeat (first | exact tm_nil | refine tm_cons ?_ ?_ | exact tm_int | exact tm_bool | exact tm_none | exact tm_nats _ | exact tm_str sh1 | exact tm_str sh2 | exact tm_str sh3 | exact tm_str sh4 | exact tm_str shW | refine tm_tup ?_ | refine tm_lst ?_))) (by ((intro s y e; first | (cases e; done) | (cases e; exact crN rfl rfl) | (cases e; exact cr_nats (by assumption)) | (cases e; exact crT (by (repeat (first | exact tm_nil | refine tm_cons ?_ ?_ | exact tm_int | exact tm_bool | exact tm_none | exact tm_nats _ | exact tm_str sh1 | exact tm_str sh2 | exact tm_str sh3 | exact tm_str sh4 | exact tm_str shW | refine tm_tup ?_ | refine tm_lst ?_))) (by simp)))))
  | among gs =>
    have : gs.length < 64 := by have := ha.len; omega
    exact tg_of (by (repeat (first | exact tm_nil | refine tm_cons ?_ ?_ | exact tm_int | exact tm_bool | exact tm_none | exact tm_nats _ | exact tm_str sh1 | exact tm_str sh2 | exact tm_str sh3 | exact tm_str sh4 | exact tm_str shW | refine tm_tup ?_ | refine tm_lst ?_))) (by ((intro s y e; first | (cases e; done) | (cases e; exact crN rfl rfl) | (cases e; exact cr_nats (by assumption)) | (cases e; exact crT (by (repeat (first | exact tm_nil | refine tm_cons ?_ ?_ | exact tm_int | exact tm_bool | exact tm_none | exact tm_nats _ | exact tm_str sh1 | exact tm_str sh2 | exact tm_str sh3 | exact tm_str sh4 | exact tm_str shW | refine tm_tup ?_ | refine tm_lst ?_))) (by simp)))))
theorem near_ok {fx : Bool} {g r : Int} {n : Nat} {a : Ask} (h : PotOk g r) (hn : n ≤ 50) (ha : AskOk n a) : Wp (F_law_near [pot fx g r, .d (.int (n : Int)), .d (askT a)]) fun y => ∃ x g' r', y = (.one (.d x), [pot fx g' r', .d (.int (n : Int)), .d (askT a)]) ∧ Tg x ∧ PotOk g' r' := by
  have tgA := near_list hn ha
  have key : Wp (m_law_near [pot true g r, .d (.int (n : Int)), .d (askT a), .un]) fun o => ∃ x g' r' A3, o = .rt (.one (.d x)) [pot true g' r', .d (.int (n : Int)), .d (askT a), A3] ∧ Tg x ∧ PotOk g' r' := by
    generalize (n : Int) = N at *
    unfold m_law_near
    have fin : ∀ (xs : List Da) (rest : AS) (mm : ME) (α : AS) (l : Lc) (A3 : AV), xs ≠ [] → xs.length < 1000000000 → aCons (eV 0) (aCons mm aNil) α = some ([.s 0, l], [pot true g r, .d (.int N), .d (askT a), A3]) → argsOf [pot true g r, .d (.int N), .d (askT a), A3] [l] = some [.d (.list xs)] → rootIx [pot true g r, .d (.int N), .d (askT a), A3] l = none →
        (∀ x ∈ xs, Tg x) → Wp (sRet (eCall F_law_of [] (aCons (eV 0) (aCons mm aNil))) α) fun o => ∃ x g' r' A3, o = .rt (.one (.d x)) [pot true g' r', .d (.int N), .d (askT a), A3] ∧ Tg x ∧ PotOk g' r' := by
      intro xs rest mm α l A3 h1 h2 h3 h4 h5 h6
      rw [wp_ret]
      refine (of_run h h1 h2 h3 h4 h5).mono ?_
      rintro _ ⟨x, g3, r3, rfl, hx, h3⟩
      exact ⟨x, g3, r3, _, rfl, h6 x hx, h3⟩
    cases a with
    | some_ =>
      rw [wp_seq, wp_asg]
      refine ⟨_, rfl, _, rfl, _, rfl, ?_⟩
      dsimp only
      rw [wp_seq, wp_asg]
      refine ⟨_, rfl, _, rfl, _, rfl, ?_⟩
      dsimp only
      rw [wp_seq, wp_asg]
      refine ⟨_, rfl, _, rfl, _, rfl, ?_⟩
      dsimp only
      rw [wp_seq, wp_asg]
      refine ⟨_, rfl, _, rfl, _, rfl, ?_⟩
      dsimp only
      refine fin _ [] _ _ _ _ ?_ ?_ rfl rfl rfl ?_
      · simp
      · simp
      · repeat (refine List.forall_mem_cons.mpr ⟨by first | exact tgA | (first | exact tgN rfl rfl | exact tg_of (by (repeat (first | exact tm_nil | refine tm_cons ?_ ?_ | exact tm_int | exact tm_bool | exact tm_none | exact tm_nats _ | exact tm_str sh1 | exact tm_str sh2 | exact tm_str sh3 | exact tm_str sh4 | exact tm_str shW | refine tm_tup ?_ | refine tm_lst ?_))) (by ((intro s y e; first | (cases e; done) | (cases e; exact crN rfl rfl) | (cases e; exact cr_nats (by assumption)) | (cases e; exact crT (by (repeat (first | exact tm_nil | refine tm_cons ?_ ?_ | exact tm_int | exact tm_bool | exact tm_none | exact tm_nats _ | exact tm_str sh1 | exact tm_str sh2 | exact tm_str sh3 | exact tm_str sh4 | exact tm_str shW | refine tm_tup ?_ | refine tm_lst ?_))) (by simp)))))), ?_⟩)
        exact fun x m => (List.not_mem_nil m).elim
    | frm c =>
      unfold askT at fin tgA ⊢
      generalize (c : Int) = C at *
      rw [wp_seq, wp_asg]
      refine ⟨_, rfl, _, rfl, _, rfl, ?_⟩
      dsimp only
      rw [wp_seq, wp_asg]
      refine ⟨_, rfl, _, rfl, _, rfl, ?_⟩
      dsimp only
      rw [wp_seq, wp_asg]
      refine ⟨_, rfl, _, rfl, _, rfl, ?_⟩
      dsimp only
      rw [wp_seq, wp_asg]
      refine ⟨_, rfl, _, rfl, _, rfl, ?_⟩
      dsimp only
      refine fin _ [] _ _ _ _ ?_ ?_ rfl rfl rfl ?_
      · simp
      · simp
      · repeat (refine List.forall_mem_cons.mpr ⟨by first | exact tgA | (first | exact tgN rfl rfl | exact tg_of (by (repeat (first | exact tm_nil | refine tm_cons ?_ ?_ | exact tm_int | exact tm_bool | exact tm_none | exact tm_nats _ | exact tm_str sh1 | exact tm_str sh2 | exact tm_str sh3 | exact tm_str sh4 | exact tm_str shW | refine tm_tup ?_ | refine tm_lst ?_))) (by ((intro s y e; first | (cases e; done) | (cases e; exact crN rfl rfl) | (cases e; exact cr_nats (by assumption)) | (cases e; exact crT (by (repeat (first | exact tm_nil | refine tm_cons ?_ ?_ | exact tm_int | exact tm_bool | exact tm_none | exact tm_nats _ | exact tm_str sh1 | exact tm_str sh2 | exact tm_str sh3 | exact tm_str sh4 | exact tm_str shW | refine tm_tup ?_ | refine tm_lst ?_))) (by simp)))))), ?_⟩)
        exact fun x m => (List.not_mem_nil m).elim
    | into gs =>
      have hlen : gs.length < 64 := by have := ha.len; omega
      rw [wp_seq, wp_asg]
      refine ⟨_, rfl, _, rfl, _, rfl, ?_⟩
      dsimp only
      rw [wp_seq, wp_asg]
      refine ⟨_, rfl, _, rfl, _, rfl, ?_⟩
      dsimp only
      rw [wp_seq, wp_asg]
      refine ⟨_, rfl, _, rfl, _, rfl, ?_⟩
      dsimp only
      rw [wp_seq, wp_asg]
      refine ⟨_, rfl, _, rfl, _, rfl, ?_⟩
      dsimp only
      refine fin _ [] _ _ _ _ ?_ ?_ rfl rfl rfl ?_
      · simp
      · simp
      · repeat (refine List.forall_mem_cons.mpr ⟨by first | exact tgA | (first | exact tgN rfl rfl | exact tg_of (by (repeat (first | exact tm_nil | refine tm_cons ?_ ?_ | exact tm_int | exact tm_bool | exact tm_none | exact tm_nats _ | exact tm_str sh1 | exact tm_str sh2 | exact tm_str sh3 | exact tm_str sh4 | exact tm_str shW | refine tm_tup ?_ | refine tm_lst ?_))) (by ((intro s y e; first | (cases e; done) | (cases e; exact crN rfl rfl) | (cases e; exact cr_nats (by assumption)) | (cases e; exact crT (by (repeat (first | exact tm_nil | refine tm_cons ?_ ?_ | exact tm_int | exact tm_bool | exact tm_none | exact tm_nats _ | exact tm_str sh1 | exact tm_str sh2 | exact tm_str sh3 | exact tm_str sh4 | exact tm_str shW | refine tm_tup ?_ | refine tm_lst ?_))) (by simp)))))), ?_⟩)
        exact fun x m => (List.not_mem_nil m).elim
    | among gs =>
      have hlen : gs.length < 64 := by have := ha.len; omega
      rw [wp_seq, wp_asg]
      refine ⟨_, rfl, _, rfl, _, rfl, ?_⟩
      dsimp only
      rw [wp_seq, wp_asg]
      refine ⟨_, rfl, _, rfl, _, rfl, ?_⟩
      dsimp only
      rw [wp_seq, wp_asg]
      refine ⟨_, rfl, _, rfl, _, rfl, ?_⟩
      dsimp only
      rw [wp_seq, wp_asg]
      refine ⟨_, rfl, _, rfl, _, rfl, ?_⟩
      dsimp only
      refine fin _ [] _ _ _ _ ?_ ?_ rfl rfl rfl ?_
      · simp
      · simp
      · repeat (refine List.forall_mem_cons.mpr ⟨by first | exact tgA | (first | exact tgN rfl rfl | exact tg_of (by (repeat (first | exact tm_nil | refine tm_cons ?_ ?_ | exact tm_int | exact tm_bool | exact tm_none | exact tm_nats _ | exact tm_str sh1 | exact tm_str sh2 | exact tm_str sh3 | exact tm_str sh4 | exact tm_str shW | refine tm_tup ?_ | refine tm_lst ?_))) (by ((intro s y e; first | (cases e; done) | (cases e; exact crN rfl rfl) | (cases e; exact cr_nats (by assumption)) | (cases e; exact crT (by (repeat (first | exact tm_nil | refine tm_cons ?_ ?_ | exact tm_int | exact tm_bool | exact tm_none | exact tm_nats _ | exact tm_str sh1 | exact tm_str sh2 | exact tm_str sh3 | exact tm_str sh4 | exact tm_str shW | refine tm_tup ?_ | refine tm_lst ?_))) (by simp)))))), ?_⟩)
        exact fun x m => (List.not_mem_nil m).elim
  obtain ⟨_, e, x, g', r', A3, rfl, hx, h'⟩ := key
  exact ⟨_, def_go (as' := [pot fx g' r', .d (.int (n : Int)), .d (askT a)]) rfl e rfl rfl, x, g', r', rfl, hx, h'⟩
theorem ask_true {n : Nat} {a : Ask} (ha : AskOk n a) : askB n (askT a) = true := by
  have up : ∀ gs : List Nat, Up n gs → risB n (natsT gs) = true := by
    intro gs h
    show ((gs.map fun g : Nat => Da.int (g : Int)).all (belowB n) && decide (((gs.map fun g : Nat => Da.int (g : Int)).map rdN).Pairwise (· < ·))) = true
    rw [rd_nats, decide_eq_true h.up, Bool.and_true, List.all_eq_true]
    intro x m
    obtain ⟨c, mc, rfl⟩ := List.mem_map.mp m
    have := h.lt c mc
    show (decide (0 ≤ (c : Int)) && decide ((c : Int) < (n : Int))) = true
    rw [decide_eq_true (by omega), decide_eq_true (by omega)]
    rfl
  cases a with
  | some_ => exact (askB1 (by decide +kernel)).trans rfl
  | frm c =>
    refine (askB2 (by decide +kernel) (by decide +kernel)).trans ?_
    have : c < n := ha
    show (decide (0 ≤ (c : Int)) && decide ((c : Int) < (n : Int))) = true
    rw [decide_eq_true (by omega), decide_eq_true (by omega)]
    rfl
  | into gs => exact (askB3 (by decide +kernel) (by decide +kernel)).trans (by rw [up gs ha, show inB (Str.ofString "into") = true by decide +kernel]; rfl)
  | among gs => exact (askB3 (by decide +kernel) (by decide +kernel)).trans (by rw [up gs ha, show inB (Str.ofString "among") = true by decide +kernel]; rfl)
def askW : Ask → Str
  | .some_ => Str.ofString "steady"
  | .into _ => Str.ofString "late"
  | _ => Str.ofString "firm"
def askN : Ask → Str
  | .some_ => wSom
  | .frm _ => wFro
  | .into _ => wInt
  | .among _ => wAmo
theorem ask_sub (a : Ask) : fSubs (askT a) (.int 0) = some (.str (askN a)) := by
  cases a <;> exact sub0 _ _
theorem kd_go {x y : Str} (h : kd_WANTED.find? (fun q => decide (q.1 = x)) = some (x, y)) (hy : y.length ≤ SLIM) {mk : ME} {α : AS} {l : Lc} (hm : mk α = some (l, α)) (hr : res α l = some (.str x)) : eKd kd_WANTED mk α = some (.d (.str y), α) := by
  unfold eKd
  rw [hm, Option.bind_some]
  dsimp only
  rw [hr, Option.bind_some]
  dsimp only
  rw [h, Option.bind_some, if_pos hy]
theorem wanted_ok (a : Ask) : F_wanted [.d (askT a)] = some (.one (.d (.str (askW a))), [.d (askT a)]) := by
  have hf : kd_WANTED.find? (fun q => decide (q.1 = askN a)) = some (askN a, askW a) := by
    cases a with
    | some_ => show kd_WANTED.find? (fun q => decide (q.1 = wSom)) = some (wSom, Str.ofString "steady"); decide +kernel
    | frm c => show kd_WANTED.find? (fun q => decide (q.1 = wFro)) = some (wFro, Str.ofString "firm"); decide +kernel
    | into gs => show kd_WANTED.find? (fun q => decide (q.1 = wInt)) = some (wInt, Str.ofString "late"); decide +kernel
    | among gs => show kd_WANTED.find? (fun q => decide (q.1 = wAmo)) = some (wAmo, Str.ofString "firm"); decide +kernel
  have hy : (askW a).length ≤ SLIM := by
    cases a with
    | some_ => show (Str.ofString "steady").length ≤ SLIM; decide +kernel
    | into gs => show (Str.ofString "late").length ≤ SLIM; decide +kernel
    | _ => show (Str.ofString "firm").length ≤ SLIM; decide +kernel
  have key : m_wanted [.d (askT a)] = some (.rt (.one (.d (.str (askW a)))) [.d (askT a)]) := by
    unfold m_wanted sRet
    rw [kd_go hf hy (eop_go rfl rfl rfl rfl (ask_sub a)) rfl]
    rfl
  exact def_go rfl key rfl rfl
end K50

namespace K50
open PySem PySem.Spec PyProof.Rows L2 Gk Vm
/-! what is shown -/
def ShD (x : Da) (k n : Nat) : Prop := ∃ d, toPyR x = some d ∧ Sh d k n
theorem ShD.mono {x : Da} {k n k' n' : Nat} (h : ShD x k n) (hk : k ≤ k') (hn : n ≤ n') : ShD x k' n' := let ⟨d, e, s⟩ := h; ⟨d, e, s.mono hk hn⟩
theorem shd_int {b : Nat} (h : b < 41) : ShD (.int (b : Int)) 0 2 := ⟨_, rfl, int_sh h⟩
theorem shd_str {z : Str} (h : Sh (.str z) 0 62) (hl : z.length ≤ 100000) : ShD (.str z) 0 62 := ⟨.str z, by unfold toPyR; rw [if_pos hl], h⟩
theorem shd_nm {z : Str} (h : Nm z) : ShD (.str z) 0 62 := shd_str (str_sh h) (by have := h.2.1; omega)
theorem toPysR_sh {k n : Nat} : ∀ {xs : List Da}, (∀ x ∈ xs, ShD x k n) → ∃ ds, toPysR xs = some ds ∧ (∀ d ∈ ds, Sh d k n) ∧ ds.length = xs.length
  | [], _ => ⟨[], rfl, fun d m => (List.not_mem_nil m).elim, rfl⟩
  | x :: xs, h => by
    obtain ⟨d, e, s⟩ := h x (List.mem_cons_self ..)
    obtain ⟨ds, e2, s2, l⟩ := toPysR_sh (xs := xs) fun y m => h y (List.mem_cons_of_mem _ m)
    refine ⟨d :: ds, ?_, fun y m => ?_, by rw [List.length_cons, List.length_cons, l]⟩
    · unfold toPysR
      rw [e, e2]
      rfl
    · rcases List.mem_cons.mp m with rfl | m
      · exact s
      · exact s2 y m
theorem shd_tup {xs : List Da} {k n : Nat} (m : Nat) (h : ∀ x ∈ xs, ShD x k n) (hl : xs.length ≤ m) (hm : m ≤ 100000) : ShD (.tuple xs) (k + 1) (m * (n + 2) + 3) := by
  obtain ⟨ds, e, s, l⟩ := toPysR_sh h
  refine ⟨.tuple ds, ?_, tup_sh s (by omega)⟩
  unfold toPyR
  rw [if_pos (by omega), e]
  rfl
theorem shd_nats {bs : List Nat} (h : ∀ b ∈ bs, b < 41) (hl : bs.length ≤ 50) : ShD (natsT bs) 1 203 := shd_tup 50 (k := 0) (n := 2) (fun x m => by
  obtain ⟨b, mb, rfl⟩ := List.mem_map.mp m
  exact shd_int (h b mb)) (by rw [List.length_map]; exact hl) (by decide)
theorem repr_go {x : Da} {k n : Nat} (h : ShD x k n) (hk : k ≤ 30) (hn : n ≤ 16000000) : ∃ z, fRepr [x] = some (.str z) := by
  obtain ⟨d, e, s⟩ := h
  refine ⟨d.shown, ?_⟩
  unfold fRepr
  dsimp only
  rw [e, Option.bind_some, if_pos (s.shows hk hn)]
theorem repr_bool (b : Bool) : fRepr [.bool b] = some (.str (PyData.bool b).shown) := by
  unfold fRepr
  dsimp only
  rw [show toPyR (.bool b) = some (.bool b) from rfl, Option.bind_some, if_pos]
  refine ⟨rfl, Nat.zero_le _, ?_, .inl rfl⟩
  cases b
  · decide +kernel
  · decide +kernel
theorem word_sh {z : Str} (h : (PyData.str z).shown.length ≤ 62) : Sh (.str z) 0 62 := ⟨rfl, Nat.le_refl _, h, rfl⟩
theorem shd_w1 : ShD (.str wSom) 0 62 := shd_str (word_sh (by decide +kernel)) (by decide +kernel)
theorem shd_w2 : ShD (.str wFro) 0 62 := shd_str (word_sh (by decide +kernel)) (by decide +kernel)
theorem shd_w3 : ShD (.str wInt) 0 62 := shd_str (word_sh (by decide +kernel)) (by decide +kernel)
theorem shd_w4 : ShD (.str wAmo) 0 62 := shd_str (word_sh (by decide +kernel)) (by decide +kernel)
theorem shd_ask {n : Nat} {a : Ask} (hn : n ≤ 40) (ha : AskOk n a) : ShD (askT a) 2 418 := by
  have up : ∀ gs, Up n gs → ShD (natsT gs) 1 203 := fun gs h => shd_nats (fun b m => by have := h.lt b m; omega) (by have := h.len; omega)
  have key : ∃ xs, askT a = .tuple xs ∧ (∀ x ∈ xs, ShD x 1 203) ∧ xs.length ≤ 2 := by
    cases a with
    | some_ => exact ⟨_, rfl, List.forall_mem_cons.mpr ⟨shd_w1.mono (by decide) (by decide), fun x m => (List.not_mem_nil m).elim⟩, by simp⟩
    | frm c => exact ⟨_, rfl, List.forall_mem_cons.mpr ⟨shd_w2.mono (by decide) (by decide), List.forall_mem_cons.mpr ⟨(shd_int (by have : c < n := ha; omega)).mono (by decide) (by decide), fun x m => (List.not_mem_nil m).elim⟩⟩, by simp⟩
    | into gs => exact ⟨_, rfl, List.forall_mem_cons.mpr ⟨shd_w3.mono (by decide) (by decide), List.forall_mem_cons.mpr ⟨up gs ha, fun x m => (List.not_mem_nil m).elim⟩⟩, by simp⟩
    | among gs => exact ⟨_, rfl, List.forall_mem_cons.mpr ⟨shd_w4.mono (by decide) (by decide), List.forall_mem_cons.mpr ⟨up gs ha, fun x m => (List.not_mem_nil m).elim⟩⟩, by simp⟩
  obtain ⟨xs, e, h1, h2⟩ := key
  rw [e]
  exact (shd_tup 2 h1 h2 (by decide)).mono (by decide) (by decide)
theorem shd_web {n : Nat} {names : List Str} {posts : List Post} (hn : n ≤ 40) (hN : ∀ z ∈ names, Nm z) (h : ∀ e ∈ posts, PostOk n names 3 e) (hp : posts.length ≤ 20) : ShD (webT n posts) 4 30000 := by
  have p1 : ∀ e ∈ posts, ShD (postT e) 2 618 := fun e m => by
    have o := h e m
    refine (shd_tup 3 (k := 1) (n := 203) ?_ (by simp) (by decide)).mono (by decide) (by decide)
    exact List.forall_mem_cons.mpr ⟨(shd_int (by have := o.at_; omega)).mono (by decide) (by decide), List.forall_mem_cons.mpr ⟨(shd_nm (hN _ o.nm)).mono (by decide) (by decide), List.forall_mem_cons.mpr ⟨shd_nats (fun b m => by have := o.arms b m; omega) (by have := o.few; omega), fun x m => (List.not_mem_nil m).elim⟩⟩⟩
  have p2 : ShD (.tuple (posts.map postT)) 3 12403 := shd_tup 20 (k := 2) (n := 618) (fun x m => by
    obtain ⟨e, me, rfl⟩ := List.mem_map.mp m
    exact p1 e me) (by rw [List.length_map]; exact hp) (by decide)
  refine (shd_tup 2 (k := 3) (n := 12403) ?_ (by simp) (by decide)).mono (by decide) (by decide)
  exact List.forall_mem_cons.mpr ⟨(shd_int (by omega)).mono (by decide) (by decide), List.forall_mem_cons.mpr ⟨p2, fun x m => (List.not_mem_nil m).elim⟩⟩
theorem held_ok {n : Nat} {names row : List Str} {posts : List Post} {ws : List Nat} {a : Ask} (hn : n ≤ 40) (hN : ∀ z ∈ names, Nm z) (h : ∀ e ∈ posts, PostOk n names 3 e) (hp : posts.length ≤ 20) (w : WorldOk posts ws) (hr : ∀ z ∈ row, z ∈ names) (hl : row.length ≤ 20) (ha : AskOk n a) :
    ∃ z, fRepr [.tuple [webT n posts, natsT ws, .tuple (row.map Da.str), askT a]] = some (.str z) := by
  have lw : ws.length = posts.length := (paired_len w).symm
  have wl : ∀ b ∈ ws, b < n := by
    have : ∀ {posts : List Post} {ws : List Nat}, WorldOk posts ws → (∀ e ∈ posts, PostOk n names 3 e) → ∀ b ∈ ws, b < n := by
      intro posts ws w
      induction w with
      | nil => intro _ b m; exact (List.not_mem_nil m).elim
      | cons hb t ih =>
        intro h b m
        rcases List.mem_cons.mp m with rfl | m
        · exact (h _ (List.mem_cons_self ..)).arms _ hb
        · exact ih (fun e me => h e (List.mem_cons_of_mem _ me)) b m
    exact this w h
  have s1 := shd_web hn hN h hp
  have s2 : ShD (natsT ws) 1 203 := shd_nats (fun b m => by have := wl b m; omega) (by omega)
  have s3 : ShD (.tuple (row.map Da.str)) 1 1283 := shd_tup 20 (k := 0) (n := 62) (fun x m => by
    obtain ⟨z, mz, rfl⟩ := List.mem_map.mp m
    exact shd_nm (hN z (hr z mz))) (by rw [List.length_map]; exact hl) (by decide)
  have s4 := shd_ask hn ha
  refine repr_go (shd_tup 4 (k := 4) (n := 30000) ?_ (by simp) (by decide)) (by decide) (by decide)
  exact List.forall_mem_cons.mpr ⟨s1, List.forall_mem_cons.mpr ⟨s2.mono (by decide) (by decide), List.forall_mem_cons.mpr ⟨s3.mono (by decide) (by decide), List.forall_mem_cons.mpr ⟨s4.mono (by decide) (by decide), fun x m => (List.not_mem_nil m).elim⟩⟩⟩⟩
end K50

namespace K50
open PySem PySem.Spec PyProof.Rows L2 Gk Vm
def sl : Option Da → AV
  | some x => .d x
  | none => .un
theorem sl_fix (o : Option Da) : (sl o).isFix = false := by cases o <;> rfl
theorem add_take {g r : Int} {rest : AS} {m : Nat} (h : PotOk g r) (hm : 0 < m) (hm2 : m < 1000) : Wp (eOp fAdd (eC (.int 1)) (eCall F_law_take [] (aCons (eV 0) (aCons (eC (.int (m : Int))) aNil))) (pot true g r :: rest)) fun y => ∃ (k : Nat) (g' r' : Int), y = (.d (.int (k : Int)), pot true g' r' :: rest) ∧ 1 ≤ k ∧ k ≤ m ∧ PotOk g' r' := by
  unfold eOp
  rw [wp_bind, show eC (.int 1) (pot true g r :: rest) = some (.d (.int 1), pot true g r :: rest) from rfl, wp_some, wp_bind]
  refine (take_run h (m := (m : Int)) (by omega) (by omega) rfl rfl rfl).mono ?_
  rintro _ ⟨x, g', r', rfl, x0, x1, h'⟩
  obtain ⟨k, rfl⟩ := Int.eq_ofNat_of_zero_le x0
  refine ⟨(.d (.int ((k + 1 : Nat) : Int)), pot true g' r' :: rest), ?_, k + 1, g', r', rfl, by omega, by omega, h'⟩
  have ha : fAdd (.int 1) (.int (k : Int)) = some (.int ((k + 1 : Nat) : Int)) := by rw [show fAdd (.int 1) (.int (k : Int)) = some (.int (1 + (k : Int))) from rfl, show (1 + (k : Int)) = ((k + 1 : Nat) : Int) by omega]
  generalize ((k + 1 : Nat) : Int) = K1 at *
  generalize (k : Int) = K0 at *
  simp [res, ha]
theorem wcallR {F : FV} {ma : MA} {α : AS} {g r : Int} {rest as : AS} {ls : List Lc} {X : Type} {f : X → Da} {OK : X → Prop} (hm : ma α = some (.s 0 :: ls, pot true g r :: rest)) (ha : argsOf (pot true g r :: rest) ls = some as) (hn : ls.filterMap (rootIx (pot true g r :: rest)) = [])
    (hF : Wp (F (pot true g r :: as)) fun y => ∃ x g' r', y = (.one (.d (f x)), pot true g' r' :: as) ∧ OK x ∧ PotOk g' r') : Wp (eCall F [] ma α) fun y => ∃ x g' r', y = (.d (f x), pot true g' r' :: rest) ∧ OK x ∧ PotOk g' r' := by
  refine wcallP hm rfl ha hn ?_
  refine hF.mono ?_
  rintro _ ⟨x, g', r', rfl, h1, h2⟩
  exact ⟨_, _, rfl, x, g', r', rfl, h1, h2⟩
theorem neS_str (z : Str) : fNeS (.str z) (.str z) = some (.bool false) := by
  show some (Da.bool (!(z == z))) = _
  rw [show (z == z) = true from beq_self_eq_true z]
  rfl
noncomputable def turnM : MS := (sSeq (sPar [5, 6, 7] (aCons (eCall F_law_world [] (aCons (eV 0) (aCons (eV 3) aNil))) (aCons (eCall F_law_word [] (aCons (eV 0) (aCons (eV 1) (aCons (eC (.int 7)) aNil)))) (aCons (eCall F_law_asking [] (aCons (eV 0) (aCons (eV 2) aNil))) aNil))))
  (sSeq (sAsg (eCB fRepr (aCons (eTup (aCons (eV 3) (aCons (eV 5) (aCons (eV 6) (aCons (eV 7) aNil))))) aNil)) (setD 8))
  (sSeq (sIf (tOfE (eOp fNeS (eCB fRepr (aCons (eCall F_fails [] (aCons (eV 3) (aCons (eV 5) (aCons (eV 6) (aCons (eV 7) aNil))))) aNil)) (eCB fRepr (aCons (eCall F_law_fails [] (aCons (eV 3) (aCons (eV 5) (aCons (eV 6) (aCons (eV 7) aNil))))) aNil)))) (sRet (eC (.bool false))) sNext)
  (sSeq (sAsg (eF (fDisp (dpCons (eC (.str (Str.ofString "somewhere"))) (eC (.str (Str.ofString "steady"))) (dpCons (eC (.str (Str.ofString "from"))) (eC (.str (Str.ofString "firm"))) (dpCons (eC (.str (Str.ofString "into"))) (eC (.str (Str.ofString "late"))) (dpCons (eC (.str (Str.ofString "among"))) (eC (.str (Str.ofString "firm"))) dpNil)))))) (setD 9))
  (sSeq (sIf (mOr (tOfE (eOp fNeS (eCall F_wanted [] (aCons (eV 7) aNil)) (eOp fSubs (eV 9) (eOp fSubs (eV 7) (eC (.int 0)))))) (tOfE (eIsB true true (eCall F_is_ask [] (aCons (eV 3) (aCons (eV 7) aNil)))))) (sRet (eC (.bool false))) sNext)
  (sSeq (sAsg (eCall F_law_near [] (aCons (eV 0) (aCons (eV 2) (aCons (eV 7) aNil)))) (setD 10))
  (sSeq (sAsg (eCB fRepr (aCons (eCall F_is_ask [] (aCons (eV 3) (aCons (eV 10) aNil))) aNil)) (setD 11))
  (sIf (mOr (tOfE (eOp fNeS (eV 11) (eCB fRepr (aCons (eCall F_law_is_asking [] (aCons (eV 2) (aCons (eV 10) aNil))) aNil)))) (tOfE (eOp fNeS (eCB fRepr (aCons (eTup (aCons (eV 3) (aCons (eV 5) (aCons (eV 6) (aCons (eV 7) aNil))))) aNil)) (eV 8)))) (sRet (eC (.bool false))) sNext))))))))
theorem repr_call {m : ME} {α : AS} {b : Bool} (h : m α = some (.d (.bool b), α)) : eCB fRepr (aCons m aNil) α = some (.d (.str (PyData.bool b).shown), α) := by
  unfold eCB aCons aNil
  rw [h, Option.bind_some, Option.bind_some, Option.bind_some]
  dsimp only
  rw [show resA α [Lc.d (.bool b)] = some [.bool b] from rfl, Option.bind_some, repr_bool, Option.bind_some]
theorem repr_tup {m : ME} {α : AS} {x : Da} {z : Str} (h : m α = some (.d x, α)) (hr : fRepr [x] = some (.str z)) : eCB fRepr (aCons m aNil) α = some (.d (.str z), α) := by
  unfold eCB aCons aNil
  rw [h, Option.bind_some, Option.bind_some, Option.bind_some]
  dsimp only
  rw [show resA α [Lc.d x] = some [x] from rfl, Option.bind_some, hr, Option.bind_some]
def kdDue : List (Key × Da) := mkD [(.inr wSom, .str (Str.ofString "steady")), (.inr wFro, .str (Str.ofString "firm")), (.inr wInt, .str (Str.ofString "late")), (.inr wAmo, .str (Str.ofString "firm"))]
theorem due_ok (a : Ask) : fSubs (.dk kdDue) (.str (askN a)) = some (.str (askW a)) := by
  have go : ∀ x y : Str, (valA kdDue (.inr x)).any (fun d => match d with | .str w => w == y | _ => false) = true → fSubs (.dk kdDue) (.str x) = some (.str y) := by
    intro x y h
    show (some (valA kdDue (.inr x))).bind id = some (.str y)
    cases hv : valA kdDue (.inr x) with
    | none => rw [hv] at h; cases h
    | some d =>
      rw [hv] at h
      cases d with
      | str w => rw [show w = y from eq_of_beq h]; rfl
      | _ => cases h
  cases a with
  | some_ => exact go wSom (Str.ofString "steady") (by decide +kernel)
  | frm c => exact go wFro (Str.ofString "firm") (by decide +kernel)
  | into gs => exact go wInt (Str.ofString "late") (by decide +kernel)
  | among gs => exact go wAmo (Str.ofString "firm") (by decide +kernel)
abbrev L8 (NM : List Da) (N : Int) (W : Da) (g r : Int) (o0 o1 o2 o3 o4 o5 o6 o7 : AV) : AS := [pot true g r, .d (.list NM), .d (.int N), .d W, o0, o1, o2, o3, o4, o5, o6, o7]
theorem turn_ok {n : Nat} {names : List Str} {posts : List Post} {g r : Int} (hn0 : 0 < n) (hn : n ≤ 40) (hN : ∀ z ∈ names, Nm z) (hne : names ≠ []) (hnl : names.length ≤ 26) (h : ∀ e ∈ posts, PostOk n names 3 e) (hp : posts.length ≤ 20) (p : PotOk g r) (o0 o1 o2 o3 o4 o5 o6 o7 : Option Da) :
    Wp (turnM [pot true g r, .d (.list (names.map Da.str)), .d (.int (n : Int)), .d (webT n posts), sl o0, sl o1, sl o2, sl o3, sl o4, sl o5, sl o6, sl o7]) fun y => ∃ g' r' x1 x2 x3 x4 x5 x6 x7, y = .nx [pot true g' r', .d (.list (names.map Da.str)), .d (.int (n : Int)), .d (webT n posts), sl o0, .d x1, .d x2, .d x3, .d x4, .d x5, .d x6, .d x7] ∧ PotOk g' r' := by
  unfold turnM
  generalize hNM : names.map Da.str = NM
  rw [wp_seq]
  unfold sPar
  rw [wp_bind, wp_aCons]
  refine (wcallR (f := natsT) (OK := fun ws => WorldOk posts ws) (g := g) (r := r) (as := [.d (webT n posts)]) rfl rfl rfl ?_).mono ?_
  · refine (world_ok (n := n) p h (by omega) (by decide)).mono ?_
    rintro _ ⟨ws, g', r', rfl, h1, h2⟩
    exact ⟨ws, g', r', rfl, h2, h1⟩
  rintro _ ⟨ws, g1, r1, rfl, w, p1⟩
  dsimp only
  rw [wp_aCons]
  refine (wcallR (f := fun rs : List Str => Da.tuple (rs.map Da.str)) (OK := fun rs => rs.length ≤ 7 ∧ ∀ z ∈ rs, z ∈ names) (g := g1) (r := r1) (as := [.d (.list NM), .d (.int 7)]) rfl rfl rfl ?_).mono ?_
  · rw [← hNM]
    refine (word_ok (most := 7) p1 hne (by omega) (by decide)).mono ?_
    rintro _ ⟨rs, g', r', rfl, h1, h2, h3⟩
    exact ⟨rs, g', r', rfl, ⟨h2, h3⟩, h1⟩
  rintro _ ⟨row, g2, r2, rfl, ⟨rl, rn⟩, p2⟩
  dsimp only
  rw [wp_aCons]
  refine (wcallR (f := askT) (OK := AskOk n) (g := g2) (r := r2) (as := [.d (.int (n : Int))]) rfl rfl rfl ?_).mono ?_
  · exact asking_ok p2 hn0 (by omega)
  rintro _ ⟨a, g3, r3, rfl, ha, p3⟩
  dsimp only
  rw [wp_aNil]
  have f1 := fails_ok w h (by omega) (by omega) (row := row) (by omega) a (by
    have up : ∀ gs, Up n gs → gs.length ≤ 100000 := fun gs u => by have := u.len; omega
    cases a with
    | some_ => show (List.range n).length ≤ 100000; rw [List.length_range]; omega
    | frm c => show 1 ≤ 100000; decide
    | into gs => show (List.range n).length ≤ 100000; rw [List.length_range]; omega
    | among gs => exact up gs ha)
  have f2 := lawFails_ok w h (by omega) (by omega) (row := row) a (by
    have up : ∀ gs, Up n gs → gs.length ≤ 100000 := fun gs u => by have := u.len; omega
    cases a with
    | some_ => show (List.range n).length ≤ 100000; rw [List.length_range]; omega
    | frm c => show 1 ≤ 100000; decide
    | into gs => show (List.range n).length ≤ 100000; rw [List.length_range]; omega
    | among gs => exact up gs ha)
  rw [fails_same (rt_ok w h) row a (fun c e => by subst e; exact ha)] at f2
  generalize (!(askC n a).any fun c => decide (c ∈ startL n (mkD (esOf posts ws)) row (goalL n (askG a)))) = fb at f1 f2
  obtain ⟨z, hz⟩ := held_ok hn hN h hp w rn (by omega) ha
  have hW : fSubs (webT n posts) (.int 0) = some (.int (n : Int)) := sub0 _ _
  have q1 := wanted_ok a
  have q2 := isAsk_ok hW (near_list (by omega) ha)
  rw [ask_true ha] at q2
  have q3 : ∀ th, Tg th → F_is_ask [.d (webT n posts), .d th] = _ := fun th ht => isAsk_ok hW ht
  have q4 := due_ok a
  have q5 := ask_sub a
  have q6 : ∀ g r : Int, PotOk g r → _ := fun g r p => near_ok (fx := true) (n := n) (a := a) p (by omega) ha
  have q7 : ∀ th, Tg th → F_law_is_asking [.d (.int (n : Int)), .d th] = _ := fun th ht => isAsking_ok (n := n) ht
  generalize hWW : webT n posts = W at *
  generalize natsT ws = S at *
  generalize hRR : Da.tuple (row.map Da.str) = Rw at *
  generalize askT a = T at *
  generalize hNI : (n : Int) = N at *
  refine ⟨.nx [pot true g3 r3, .d (.list NM), .d (.int N), .d W, sl o0, .d S, .d Rw, .d T, sl o4, sl o5, sl o6, sl o7], ?_, ?_⟩
  · cases o1 <;> cases o2 <;> cases o3 <;> rfl
  dsimp only
  rw [wp_seq]
  have r1 : ∀ g r o4 o5 o6 o7, eTup (aCons (eV 3) (aCons (eV 5) (aCons (eV 6) (aCons (eV 7) aNil)))) [pot true g r, .d (.list NM), .d (.int N), .d W, sl o0, .d S, .d Rw, .d T, o4, o5, o6, o7] = some (.d (.tuple [W, S, Rw, T]), [pot true g r, .d (.list NM), .d (.int N), .d W, sl o0, .d S, .d Rw, .d T, o4, o5, o6, o7]) := fun g r o4 o5 o6 o7 => rfl
  rw [wp_asg]
  refine ⟨_, repr_tup (r1 _ _ _ _ _ _) hz, _, rfl, _, setD_go (q := sl o4) rfl (sl_fix o4), ?_⟩
  show Wp (sSeq _ _ [pot true g3 r3, .d (.list NM), .d (.int N), .d W, sl o0, .d S, .d Rw, .d T, .d (.str z), sl o5, sl o6, sl o7]) _
  rw [wp_seq]
  have c1 := callD (F := F_fails) (ma := aCons (eV 3) (aCons (eV 5) (aCons (eV 6) (aCons (eV 7) aNil)))) (α := [pot true g3 r3, .d (.list NM), .d (.int N), .d W, sl o0, .d S, .d Rw, .d T, .d (.str z), sl o5, sl o6, sl o7]) rfl rfl rfl f1
  have c2 := callD (F := F_law_fails) (ma := aCons (eV 3) (aCons (eV 5) (aCons (eV 6) (aCons (eV 7) aNil)))) (α := [pot true g3 r3, .d (.list NM), .d (.int N), .d W, sl o0, .d S, .d Rw, .d T, .d (.str z), sl o5, sl o6, sl o7]) rfl rfl rfl f2
  refine sif_false (tof_go (eop_go (repr_call c1) (repr_call c2) rfl rfl (neS_str _))) ?_
  rw [wp_next]
  dsimp only
  rw [wp_seq, wp_asg]
  refine ⟨(.d (.dk kdDue), [pot true g3 r3, .d (.list NM), .d (.int N), .d W, sl o0, .d S, .d Rw, .d T, .d (.str z), sl o5, sl o6, sl o7]), rfl, _, rfl, _, setD_go (q := sl o5) rfl (sl_fix o5), ?_⟩
  show Wp (sSeq _ _ [pot true g3 r3, .d (.list NM), .d (.int N), .d W, sl o0, .d S, .d Rw, .d T, .d (.str z), .d (.dk kdDue), sl o6, sl o7]) _
  generalize hK : Da.dk kdDue = KD at *
  rw [wp_seq]
  have c3 := callD (F := F_wanted) (ma := aCons (eV 7) aNil) (α := [pot true g3 r3, .d (.list NM), .d (.int N), .d W, sl o0, .d S, .d Rw, .d T, .d (.str z), .d KD, sl o6, sl o7]) rfl rfl rfl q1
  have c4 := callD (F := F_is_ask) (ma := aCons (eV 3) (aCons (eV 7) aNil)) (α := [pot true g3 r3, .d (.list NM), .d (.int N), .d W, sl o0, .d S, .d Rw, .d T, .d (.str z), .d KD, sl o6, sl o7]) rfl rfl rfl q2
  have c5 : eIsB true true (eCall F_is_ask [] (aCons (eV 3) (aCons (eV 7) aNil))) [pot true g3 r3, .d (.list NM), .d (.int N), .d W, sl o0, .d S, .d Rw, .d T, .d (.str z), .d KD, sl o6, sl o7] = some (.d (.bool false), [pot true g3 r3, .d (.list NM), .d (.int N), .d W, sl o0, .d S, .d Rw, .d T, .d (.str z), .d KD, sl o6, sl o7]) := by
    unfold eIsB
    rw [c4]
    rfl
  refine sif_false ((mor_go (tof_go (eop_go c3 (eop_go rfl (eop_go rfl rfl rfl rfl q5) rfl rfl q4) rfl rfl (neS_str _))) fun _ => tof_go c5).trans rfl) ?_
  rw [wp_next]
  dsimp only
  rw [wp_seq, wp_asg]
  refine (wcallR (f := id) (OK := Tg) (g := g3) (r := r3) (as := [.d (.int N), .d T]) rfl rfl rfl (q6 g3 r3 p3)).mono ?_
  rintro _ ⟨th, g4, r4, rfl, ht, p4⟩
  refine ⟨_, rfl, _, setD_go (q := sl o6) rfl (sl_fix o6), ?_⟩
  show Wp (sSeq _ _ [pot true g4 r4, .d (.list NM), .d (.int N), .d W, sl o0, .d S, .d Rw, .d T, .d (.str z), .d KD, .d th, sl o7]) _
  rw [wp_seq, wp_asg]
  have c6 := callD (F := F_is_ask) (ma := aCons (eV 3) (aCons (eV 10) aNil)) (α := [pot true g4 r4, .d (.list NM), .d (.int N), .d W, sl o0, .d S, .d Rw, .d T, .d (.str z), .d KD, .d th, sl o7]) rfl rfl rfl (q3 th ht)
  refine ⟨_, repr_call c6, _, rfl, _, setD_go (q := sl o7) rfl (sl_fix o7), ?_⟩
  show Wp (sIf _ _ _ [pot true g4 r4, .d (.list NM), .d (.int N), .d W, sl o0, .d S, .d Rw, .d T, .d (.str z), .d KD, .d th, .d (.str (PyData.bool (askB n th)).shown)]) _
  have c7 := callD (F := F_law_is_asking) (ma := aCons (eV 2) (aCons (eV 10) aNil)) (α := [pot true g4 r4, .d (.list NM), .d (.int N), .d W, sl o0, .d S, .d Rw, .d T, .d (.str z), .d KD, .d th, .d (.str (PyData.bool (askB n th)).shown)]) rfl rfl rfl (q7 th ht)
  generalize hZ : (PyData.bool (askB n th)).shown = Z at *
  have c8 := repr_call c7
  rw [hZ] at c8
  refine sif_false ((mor_go (tof_go (eop_go (la := .s 11) rfl c8 rfl rfl (neS_str _))) fun _ => tof_go (eop_go (lb := .s 8) (repr_tup (r1 _ _ _ _ _ _) hz) rfl rfl rfl (neS_str _))).trans rfl) ?_
  rw [wp_next]
  exact ⟨g4, r4, S, Rw, T, .str z, KD, th, .str Z, rfl, p4⟩
end K50

namespace K50
open PySem PySem.Spec PyProof.Rows L2 Gk Vm
theorem case_ok {g r : Int} (p : PotOk g r) : Wp (F_law_case_right [pot false g r]) fun y => ∃ q, y = (.one (.d (.bool true)), [q]) := by
  have key : Wp (m_law_case_right [pot true g r, .un, .un, .un, .un, .un, .un, .un, .un, .un, .un, .un]) fun o => ∃ g' r' β, o = .rt (.one (.d (.bool true))) (pot true g' r' :: β) := by
    unfold m_law_case_right
    rw [wp_seq]
    unfold sPar
    rw [wp_bind, wp_aCons]
    have a1 : Wp (aCons (eV 0) (aCons (eOp fAdd (eC (.int 1)) (eCall F_law_take [] (aCons (eV 0) (aCons (eC (.int 3)) aNil)))) aNil) [pot true g r, .un, .un, .un, .un, .un, .un, .un, .un, .un, .un, .un]) fun y => ∃ (k : Nat) (g' r' : Int), y = ([.s 0, .d (.int (k : Int))], [pot true g' r', .un, .un, .un, .un, .un, .un, .un, .un, .un, .un, .un]) ∧ 1 ≤ k ∧ k ≤ 3 ∧ PotOk g' r' := by
      rw [wp_aCons]
      refine ⟨_, rfl, ?_⟩
      dsimp only
      rw [wp_aCons]
      refine (add_take (m := 3) p (by decide) (by decide)).mono ?_
      rintro _ ⟨k, g', r', rfl, h1, h2, h3⟩
      rw [wp_aNil]
      exact ⟨k, g', r', rfl, h1, h2, h3⟩
    obtain ⟨_, e1, k, g1, r1, rfl, k1, k2, p1⟩ := a1
    refine (wcallR (f := fun zs : List Str => Da.list (zs.map Da.str)) (OK := fun zs => zs.length = k ∧ ∀ z ∈ zs, Nm z) (as := [.d (.int (k : Int))]) e1 rfl rfl ?_).mono ?_
    · refine (names_ok p1 (by omega)).mono ?_
      rintro _ ⟨zs, g', r', rfl, h1, h2, h3⟩
      exact ⟨zs, g', r', rfl, ⟨h2, h3⟩, h1⟩
    rintro _ ⟨names, g2, r2, rfl, ⟨hl, hN⟩, p2⟩
    dsimp only
    rw [wp_aCons]
    refine (add_take (m := 5) p2 (by decide) (by decide)).mono ?_
    rintro _ ⟨n, g3, r3, rfl, n1, n2, p3⟩
    rw [wp_aNil]
    refine ⟨.nx [pot true g3 r3, .d (.list (names.map Da.str)), .d (.int (n : Int)), .un, .un, .un, .un, .un, .un, .un, .un, .un], rfl, ?_⟩
    dsimp only
    rw [wp_seq, wp_asg]
    refine (wcallR (f := fun posts : List Post => webT n posts) (OK := fun posts => (∀ e ∈ posts, PostOk n names 3 e) ∧ posts.length ≤ n * names.length) (as := [.d (.int (n : Int)), .d (.list (names.map Da.str)), .d (.int 3)]) (rest := [.d (.list (names.map Da.str)), .d (.int (n : Int)), .un, .un, .un, .un, .un, .un, .un, .un, .un]) rfl rfl rfl ?_).mono ?_
    · refine (web_ok (most := 3) p3 (by omega) (by omega) (by decide)).mono ?_
      rintro _ ⟨posts, g', r', rfl, h1, h2, h3⟩
      exact ⟨posts, g', r', rfl, ⟨h2, h3⟩, h1⟩
    rintro _ ⟨posts, g4, r4, rfl, ⟨hp, hpl⟩, p4⟩
    have hpl2 : posts.length ≤ 20 := by
      have : n * names.length ≤ 5 * 3 := Nat.mul_le_mul n2 (by omega)
      omega
    refine ⟨_, rfl, _, rfl, ?_⟩
    dsimp only
    rw [wp_seq]
    refine for_inv (S := Int × Int × Option Da × Option Da × Option Da × Option Da × Option Da × Option Da × Option Da × Option Da)
      (fun s => [pot true s.1 s.2.1, .d (.list (names.map Da.str)), .d (.int (n : Int)), .d (webT n posts), sl s.2.2.1, sl s.2.2.2.1, sl s.2.2.2.2.1, sl s.2.2.2.2.2.1, sl s.2.2.2.2.2.2.1, sl s.2.2.2.2.2.2.2.1, sl s.2.2.2.2.2.2.2.2.1, sl s.2.2.2.2.2.2.2.2.2])
      (fun _ s => PotOk s.1 s.2.1) (g4, r4, none, none, none, none, none, none, none, none) (xs := rgN 6) rfl rfl p4 ?_ ?_
    · rintro k x ⟨ga, ra, o0, o1, o2, o3, o4, o5, o6, o7⟩ hx pk
      dsimp only at pk
      rw [setD_go (q := sl o0) rfl (sl_fix o0), wp_some]
      refine (turn_ok (n := n) (names := names) (posts := posts) n1 (by omega) hN (fun e => by rw [e] at hl; simp at hl; omega) (by omega) hp hpl2 pk (some x) o1 o2 o3 o4 o5 o6 o7).mono ?_
      rintro _ ⟨g', r', x1, x2, x3, x4, x5, x6, x7, rfl, p'⟩
      exact ⟨(g', r', some x, some x1, some x2, some x3, some x4, some x5, some x6, some x7), rfl, p'⟩
    · rintro ⟨ga, ra, o0, o1, o2, o3, o4, o5, o6, o7⟩ pk
      dsimp only
      exact ⟨_, rfl, ga, ra, _, rfl⟩
  obtain ⟨_, e, g', r', β, rfl⟩ := key
  exact ⟨_, def_go (as' := [pot false g' r']) rfl e rfl rfl, _, rfl⟩
theorem law_ok {ns : List Int} (hl : ns.length ≤ 63) : F_law [.sc ns] = some (.one (.d (.bool true)), [.sc ns]) := by
  have hi : iRg1 (aCons (eCB fMax (aCons (eC (.int 1)) (aCons (eCB fMin (aCons (eC (.int 3)) (aCons (eScLen 0) aNil))) aNil))) aNil) [.sc ns, .un] = some ((rgN (max 1 (min 3 ns.length)), []), [.sc ns, .un]) := by
    have m1 : fMin [.int 3, .int (ns.length : Int)] = some (.int ((min 3 ns.length : Nat) : Int)) := by
      show some (Da.int (if (ns.length : Int) < 3 then (ns.length : Int) else 3)) = _
      congr 2
      split <;> omega
    have m2 : fMax [.int 1, .int ((min 3 ns.length : Nat) : Int)] = some (.int ((max 1 (min 3 ns.length) : Nat) : Int)) := by
      show some (Da.int (if ((min 3 ns.length : Nat) : Int) > 1 then ((min 3 ns.length : Nat) : Int) else 1)) = _
      congr 2
      split <;> omega
    refine rg1_go (ls := [.d (.int ((max 1 (min 3 ns.length) : Nat) : Int))]) ?_ rfl (by omega)
    have l : eScLen 0 [.sc ns, .un] = some (.d (.int (ns.length : Int)), [.sc ns, .un]) := rfl
    generalize ((max 1 (min 3 ns.length) : Nat) : Int) = M2 at *
    generalize ((min 3 ns.length : Nat) : Int) = M1 at *
    generalize (ns.length : Int) = M0 at *
    simp [aCons, aNil, eCB, eC, resA, res, l, m1, m2]
  have key : m_law [.sc ns, .un] = some (.rt (.one (.d (.bool true))) [.sc ns, .un]) := by
    unfold m_law sRet
    rw [all_pure (q := .un) (f := fun _ => true) hi rfl rfl (by rw [rgN_len]; have : LIM = 1000000 := rfl; omega) ?_, Option.bind_some]
    · rw [show (rgN (max 1 (min 3 ns.length))).all (fun _ => true) = true by simp]
    · intro x m
      obtain ⟨k, hk, rfl⟩ := rgN_mem m
      show eCallO _ _ [.sc ns, .d (.int (k : Int))] = some (_, [.sc ns, .d (.int (k : Int))])
      obtain ⟨_, e, g, r, rfl, p⟩ := pot_ok (ns := ns) (k := k) (by omega)
      obtain ⟨_, e2, q, rfl⟩ := case_ok p
      have c : fCall F_law_pot [] (aCons (eV 0) (aCons (eV 1) aNil)) [.sc ns, .d (.int (k : Int))] = some (.r (.list [.int g, .int r]), [.sc ns, .d (.int (k : Int))]) := by
        unfold fCall callM
        rw [show aCons (eV 0) (aCons (eV 1) aNil) [.sc ns, .d (.int (k : Int))] = some ([.s 0, .s 1], [.sc ns, .d (.int (k : Int))]) from rfl, Option.bind_some]
        dsimp only
        rw [show argsOf [.sc ns, .d (.int (k : Int))] ([Lc.s 0, .s 1] ++ List.map Lc.d []) = some [.sc ns, .d (.int (k : Int))] from rfl, Option.bind_some, e, Option.bind_some]
        rfl
      unfold eCallO
      rw [c, Option.bind_some]
      dsimp only
      rw [show Nw.av (.r (.list [.int g, .int r])) = pot false g r from rfl, e2, Option.bind_some]
      rfl
  exact def_go rfl key rfl rfl
end K50

/-! the head's facts: defs, the interpreter's statics, tables of texts at a module's top -/
namespace Vm
open PySem PySem.Spec PyProof.Rows L2 Gk
/-- a table: its name, its keys and values -/
abbrev TbV := Str × List (Str × Str)
def tabOf (q : TbV) : He.Tab := (fun K => He.ga K q.1, q.2.map (·.1))
def valOf (K : PySem.W.Frag) (q : TbV) : Bool := He.valsB K (He.ga K q.1) (q.2.map fun kv => (kv.1, .str kv.2))
def obsX (n : Nat) (fa : List He.Fa) (fn : List He.DefD) (ts : List TbV) (g : Addr → Option Obj) : He.AlT × Bool :=
  (He.obsT fa fn (ts.map tabOf) (frS n g), dig (frS n g) && ts.all (valOf (frS n g)))
structure SaysX (fa : List He.Fa) (fn : List He.DefD) (ts : List TbV) (w : World) (K : PySem.W.Frag) : Prop where
  t : He.SaysT fa fn (ts.map tabOf) w K
  dg : dig K = true
  vals : ts.all (valOf K) = true
def hookX (n : Nat) (fa : List He.Fa) (fn : List He.DefD) (ts : List TbV) : PySem.W.Hook where
  α := He.AlT × Bool
  obs := fun s => obsX n fa fn ts s.heap.get?
  val := fun w => (He.valT fn (ts.map tabOf) w, true)
  says := fun w h => ∃ K : PySem.W.Frag, K.In h ∧ SaysX fa fn ts w K
  of := fun w s e => ⟨frS n s.heap.get?, He.frG_in, show He.obsT fa fn _ _ = He.valT fn _ w from congrArg Prod.fst e,
    (Bool.and_eq_true_iff.mp (show (dig _ && _) = true from congrArg Prod.snd e)).1, (Bool.and_eq_true_iff.mp (show (dig _ && _) = true from congrArg Prod.snd e)).2⟩
  keeps := fun _ _ _ ⟨K, hK, c⟩ k => ⟨K, PySem.W.Frag.In.keeps hK k, c⟩
theorem obsX_eq {n : Nat} {fa : List He.Fa} {fn : List He.DefD} {ts : List TbV} {g : Addr → Option Obj} {s : Shared} (h : ∀ a, g a = s.heap.get? a) : obsX n fa fn ts g = (hookX n fa fn ts).obs s := by
  have e : g = s.heap.get? := funext h
  subst e
  rfl
theorem SaysX.kd {fa : List He.Fa} {fn : List He.DefD} {ts : List TbV} {w : World} {K : PySem.W.Frag} {mg : Str → Option Value} (c : SaysX fa fn ts w K) {x : Str} {kvs : List (Str × Str)} (i : Nat) (h : ts[i]? = some (x, kvs)) (hm : mg x = some (.ref (He.ga K x))) : KdOk K w mg x kvs := by
  obtain ⟨es, n, kd⟩ := c.t.tab i (t := tabOf (x, kvs)) (by rw [List.getElem?_map, h]; rfl)
  refine ⟨_, es, n, kd, hm, fun q mq => ?_⟩
  have v := List.all_eq_true.mp c.vals _ (List.mem_of_getElem? h)
  obtain ⟨u, e, r⟩ := He.valsB_ok v (q := (q.1, .str q.2)) (List.mem_map.mpr ⟨q, mq, rfl⟩)
  obtain ⟨t, rfl⟩ := r
  exact ⟨t, e⟩
/-- the promise of a law whose function answers True -/
theorem law_sp {K : PySem.W.Frag} {F : FV} {H : Hp} {a : Addr} {ns : List Int} {E : XK} (hF : F [.sc ns] = some (.one (.d (.bool true)), [.sc ns])) (hS : SqL K H a (ns.map V.int)) : spV K F [.ref a] H (fun v _ => v = .bl true) E := by
  refine ⟨[], [.sc ns], fun _ => [], _, _, ?_, hF, ?_⟩
  · refine ⟨rfl, fun i r e => ?_, fun _ _ => rfl, fun _ => .nil, fun i j a m => (List.not_mem_nil m).elim, fun i a m => (List.not_mem_nil m).elim, fun a m => (List.not_mem_nil m).elim⟩
    cases i with
    | zero =>
      cases e
      exact ⟨rfl, a, rfl, hS.elim (fun h => .inl ⟨List.not_mem_nil, h⟩) .inr⟩
    | succ i => simp at e
  · rintro p' H' A' v _ _ ⟨as, h, _⟩
    cases h with
    | d dz _ => cases dz; rfl
end Vm

namespace K50
open PySem PySem.Spec PyProof.Rows L2 Gk Vm
abbrev dd (x : Str) (i : Nat) : He.DefD := ⟨(x, none), x, x, defArgs (topS i), defBody (topS i), defScope (topS i), [], []⟩
abbrev ddk (x : Str) (i : Nat) (k : List (Str × He.Dv)) : He.DefD := ⟨(x, none), x, x, defArgs (topS i), defBody (topS i), defScope (topS i), [], k⟩
def fn : List He.DefD := [dd "is_whole" 1, dd "is_rising" 2, dd "is_below" 3, dd "is_rising_below" 4, dd "goal_crossings" 6, dd "right_arms" 8, dd "gone_by" 9, ddk "starts" 10 [("goals", .non)], dd "is_ask" 13, dd "wanted" 14, dd "asked_crossings" 15, dd "asked_goals" 16, dd "fails" 17, dd "_law_pot" 19, dd "_law_take" 20, dd "_law_of" 21, dd "_law_names" 22, dd "_law_word" 23, dd "_law_web" 24, dd "_law_world" 25, dd "_law_ends_of_walk" 26, dd "_law_fails" 27, dd "_law_asking" 28, dd "_law_near" 29, dd "_law_is_crossings" 30, dd "_law_is_asking" 31, dd "_law_case_right" 32, dd "law" 33]
def fa : List He.Fa := biFa ++ [.glo "is_whole", .glo "is_rising", .glo "is_below", .glo "is_rising_below", .glo "goal_crossings", .glo "right_arms", .glo "gone_by", .glo "starts", .glo "is_ask", .glo "wanted", .glo "asked_crossings", .glo "asked_goals", .glo "fails", .glo "_law_pot", .glo "_law_take", .glo "_law_of", .glo "_law_names", .glo "_law_word", .glo "_law_web", .glo "_law_world", .glo "_law_ends_of_walk", .glo "_law_fails", .glo "_law_asking", .glo "_law_near", .glo "_law_is_crossings", .glo "_law_is_asking", .glo "_law_case_right", .glo "law", .glo "WANTED"]
def tb : List TbV := [("WANTED", kd_WANTED)]
abbrev R : PySem.W.OpenRow := PySem.W.OpenLaw.row PySem.Challenge.rw_woundwalks_k50_asks_and_worlds
abbrev hk : PySem.W.Hook := hookX 4 fa fn tb
def ob (s : PySem.W.SharedT) : He.AlT × Bool := obsX 4 fa fn tb (HandSHeadRun.getT s)
theorem ob_eq (s : PySem.W.SharedT) : ob s = hk.obs s.abs := obsX_eq (HandSHeadRun.getT_eq s)
def loose : List Str := ["is_whole", "is_rising", "is_below", "is_rising_below", "goal_crossings", "right_arms", "gone_by", "starts", "is_ask", "wanted", "asked_crossings", "asked_goals", "fails", "_law_pot", "_law_take", "_law_of", "_law_names", "_law_word", "_law_web", "_law_world", "_law_ends_of_walk", "_law_fails", "_law_asking", "_law_near", "_law_is_crossings", "_law_is_asking", "_law_case_right", "WANTED"]
theorem runB (b : Bool) (w : World) : HandSHeadRun.RunEq R (PySem.W.view R.prog [33]) hk ob 3000 loose (w.withFollow "special-get-raises" b) := by
  intro os
  cases b <;> kernel_rfl
theorem run (w : World) : HandSHeadRun.RunEq R (PySem.W.view R.prog [33]) hk ob 3000 loose w := by
  have h := runB (w.params.followText "special-get-raises") w
  rwa [World.withFollow_self] at h
section
variable {P : Program} {w : World} {K : PySem.W.Frag} {mg : Str → Option Value} {h : Heap} {f : Addr}
theorem facts (X : K.In h) (G : h.Ns mainGlobals mg) (hfa : mg ("law" : Str) = some (.ref f)) (c0 : SaysX fa fn tb w K) :
    ∃ fd : FuncData, (∀ (s : Shared) (v : Value), BindsTo s fd ⟨[v], []⟩ [("_law_script", v)]) ∧
      ∀ base : Heap, K.In base → base.Ns mainGlobals mg → FnG P w K mg base CX0 6 f fd ["_law_script"] (spV K F_law) := by
  have c := c0.t.d
  have dg := c0.dg
  obtain ⟨d0, F0⟩ := c.def_ 0 (d := dd "is_whole" 1) rfl
  obtain ⟨d1, F1⟩ := c.def_ 1 (d := dd "is_rising" 2) rfl
  obtain ⟨d2, F2⟩ := c.def_ 2 (d := dd "is_below" 3) rfl
  obtain ⟨d3, F3⟩ := c.def_ 3 (d := dd "is_rising_below" 4) rfl
  obtain ⟨d4, F4⟩ := c.def_ 4 (d := dd "goal_crossings" 6) rfl
  obtain ⟨d5, F5⟩ := c.def_ 5 (d := dd "right_arms" 8) rfl
  obtain ⟨d6, F6⟩ := c.def_ 6 (d := dd "gone_by" 9) rfl
  obtain ⟨d7, F7⟩ := c.def_ 7 (d := ddk "starts" 10 [("goals", .non)]) rfl
  obtain ⟨d8, F8⟩ := c.def_ 8 (d := dd "is_ask" 13) rfl
  obtain ⟨d9, F9⟩ := c.def_ 9 (d := dd "wanted" 14) rfl
  obtain ⟨d10, F10⟩ := c.def_ 10 (d := dd "asked_crossings" 15) rfl
  obtain ⟨d11, F11⟩ := c.def_ 11 (d := dd "asked_goals" 16) rfl
  obtain ⟨d12, F12⟩ := c.def_ 12 (d := dd "fails" 17) rfl
  obtain ⟨d13, F13⟩ := c.def_ 13 (d := dd "_law_pot" 19) rfl
  obtain ⟨d14, F14⟩ := c.def_ 14 (d := dd "_law_take" 20) rfl
  obtain ⟨d15, F15⟩ := c.def_ 15 (d := dd "_law_of" 21) rfl
  obtain ⟨d16, F16⟩ := c.def_ 16 (d := dd "_law_names" 22) rfl
  obtain ⟨d17, F17⟩ := c.def_ 17 (d := dd "_law_word" 23) rfl
  obtain ⟨d18, F18⟩ := c.def_ 18 (d := dd "_law_web" 24) rfl
  obtain ⟨d19, F19⟩ := c.def_ 19 (d := dd "_law_world" 25) rfl
  obtain ⟨d20, F20⟩ := c.def_ 20 (d := dd "_law_ends_of_walk" 26) rfl
  obtain ⟨d21, F21⟩ := c.def_ 21 (d := dd "_law_fails" 27) rfl
  obtain ⟨d22, F22⟩ := c.def_ 22 (d := dd "_law_asking" 28) rfl
  obtain ⟨d23, F23⟩ := c.def_ 23 (d := dd "_law_near" 29) rfl
  obtain ⟨d24, F24⟩ := c.def_ 24 (d := dd "_law_is_crossings" 30) rfl
  obtain ⟨d25, F25⟩ := c.def_ 25 (d := dd "_law_is_asking" 31) rfl
  obtain ⟨d26, F26⟩ := c.def_ 26 (d := dd "_law_case_right" 32) rfl
  obtain ⟨d27, F27⟩ := c.def_ 27 (d := dd "law" 33) rfl
  have B : Bi mg := bi_of X G fun i g hi => c.fact i (f := g) (by
    show (biFa ++ _)[i]? = some g
    rw [List.getElem?_append_left (List.getElem?_eq_some_iff.mp hi).1]
    exact hi)
  have g0 := He.glo_ok X G (c.fact 23 (f := .glo "is_whole") rfl)
  have g1 := He.glo_ok X G (c.fact 24 (f := .glo "is_rising") rfl)
  have g2 := He.glo_ok X G (c.fact 25 (f := .glo "is_below") rfl)
  have g3 := He.glo_ok X G (c.fact 26 (f := .glo "is_rising_below") rfl)
  have g4 := He.glo_ok X G (c.fact 27 (f := .glo "goal_crossings") rfl)
  have g5 := He.glo_ok X G (c.fact 28 (f := .glo "right_arms") rfl)
  have g6 := He.glo_ok X G (c.fact 29 (f := .glo "gone_by") rfl)
  have g7 := He.glo_ok X G (c.fact 30 (f := .glo "starts") rfl)
  have g8 := He.glo_ok X G (c.fact 31 (f := .glo "is_ask") rfl)
  have g9 := He.glo_ok X G (c.fact 32 (f := .glo "wanted") rfl)
  have g10 := He.glo_ok X G (c.fact 33 (f := .glo "asked_crossings") rfl)
  have g11 := He.glo_ok X G (c.fact 34 (f := .glo "asked_goals") rfl)
  have g12 := He.glo_ok X G (c.fact 35 (f := .glo "fails") rfl)
  have g13 := He.glo_ok X G (c.fact 36 (f := .glo "_law_pot") rfl)
  have g14 := He.glo_ok X G (c.fact 37 (f := .glo "_law_take") rfl)
  have g15 := He.glo_ok X G (c.fact 38 (f := .glo "_law_of") rfl)
  have g16 := He.glo_ok X G (c.fact 39 (f := .glo "_law_names") rfl)
  have g17 := He.glo_ok X G (c.fact 40 (f := .glo "_law_word") rfl)
  have g18 := He.glo_ok X G (c.fact 41 (f := .glo "_law_web") rfl)
  have g19 := He.glo_ok X G (c.fact 42 (f := .glo "_law_world") rfl)
  have g20 := He.glo_ok X G (c.fact 43 (f := .glo "_law_ends_of_walk") rfl)
  have g21 := He.glo_ok X G (c.fact 44 (f := .glo "_law_fails") rfl)
  have g22 := He.glo_ok X G (c.fact 45 (f := .glo "_law_asking") rfl)
  have g23 := He.glo_ok X G (c.fact 46 (f := .glo "_law_near") rfl)
  have g24 := He.glo_ok X G (c.fact 47 (f := .glo "_law_is_crossings") rfl)
  have g25 := He.glo_ok X G (c.fact 48 (f := .glo "_law_is_asking") rfl)
  have g26 := He.glo_ok X G (c.fact 49 (f := .glo "_law_case_right") rfl)
  have e := hfa.symm.trans (He.glo_ok X G (c.fact 50 (f := .glo "law") rfl))
  cases e
  have T_WANTED : KdOk K w mg "WANTED" kd_WANTED := c0.kd 0 rfl (He.glo_ok X G (c.fact 51 (f := .glo "WANTED") rfl))
  have b27 := FunD.bindsA (ps := ["_law_script"]) F27 fun _ _ _ _ _ _ us hl => match us, hl with | [_], _ => rfl
  refine ⟨d27, fun s v => b27 s [v] rfl, fun base _ _ => ?_⟩
  have hd := He.eqO_ok dg
  have b0 := F0.bindsN (ps := ["thing"]) fun _ _ _ _ _ _ us hl => match us, hl with | [_], _ => rfl
  have b1 := F1.bindsN (ps := ["things"]) fun _ _ _ _ _ _ us hl => match us, hl with | [_], _ => rfl
  have b2 := F2.bindsN (ps := ["many", "thing"]) fun _ _ _ _ _ _ us hl => match us, hl with | [_, _], _ => rfl
  have b3 := F3.bindsN (ps := ["many", "thing"]) fun _ _ _ _ _ _ us hl => match us, hl with | [_, _], _ => rfl
  have b4 := F4.bindsN (ps := ["web", "goals"]) fun _ _ _ _ _ _ us hl => match us, hl with | [_, _], _ => rfl
  have b5 := F5.bindsN (ps := ["web", "world"]) fun _ _ _ _ _ _ us hl => match us, hl with | [_, _], _ => rfl
  have b6 := F6.bindsN (ps := ["right", "start", "row"]) fun _ _ _ _ _ _ us hl => match us, hl with | [_, _, _], _ => rfl
  have k7 : KBn K d7 ["web", "world", "row", "goals"] 3 ["goals"] (fun us ws => us ++ ws) (fun vs zs => vs ++ zs) := kbn_mk F7 (fun r1 r2 => r1.append r2) fun _ _ _ _ _ _ us ws h1 h2 => match us, ws, h1, h2 with | [_, _, _], [_], _, _ => rfl
  obtain ⟨ds7, rv7, bd7⟩ := F7.binds0 (ps := ["web", "world", "row", "goals"]) 3 (by intro z; cases z) rfl fun D _ _ _ _ _ us ks h1 h2 => match us, ks, h1, h2 with | [_, _, _], [_], _, _ => ⟨_, _, _, _, _, _, rfl, rfl, rfl⟩
  have b8 := F8.bindsN (ps := ["web", "thing"]) fun _ _ _ _ _ _ us hl => match us, hl with | [_, _], _ => rfl
  have b9 := F9.bindsN (ps := ["ask"]) fun _ _ _ _ _ _ us hl => match us, hl with | [_], _ => rfl
  have b10 := F10.bindsN (ps := ["web", "ask"]) fun _ _ _ _ _ _ us hl => match us, hl with | [_, _], _ => rfl
  have b11 := F11.bindsN (ps := ["ask"]) fun _ _ _ _ _ _ us hl => match us, hl with | [_], _ => rfl
  have b12 := F12.bindsN (ps := ["web", "world", "word", "ask"]) fun _ _ _ _ _ _ us hl => match us, hl with | [_, _, _, _], _ => rfl
  have b13 := F13.bindsN (ps := ["_law_script", "_law_k"]) fun _ _ _ _ _ _ us hl => match us, hl with | [_, _], _ => rfl
  have b14 := F14.bindsN (ps := ["_law_pot_here", "_law_upto"]) fun _ _ _ _ _ _ us hl => match us, hl with | [_, _], _ => rfl
  have b15 := F15.bindsN (ps := ["_law_pot_here", "_law_some"]) fun _ _ _ _ _ _ us hl => match us, hl with | [_, _], _ => rfl
  have b16 := F16.bindsN (ps := ["_law_pot_here", "_law_many"]) fun _ _ _ _ _ _ us hl => match us, hl with | [_, _], _ => rfl
  have b17 := F17.bindsN (ps := ["_law_pot_here", "_law_names_here", "_law_most"]) fun _ _ _ _ _ _ us hl => match us, hl with | [_, _, _], _ => rfl
  have b18 := F18.bindsN (ps := ["_law_pot_here", "_law_n", "_law_names_here", "_law_most"]) fun _ _ _ _ _ _ us hl => match us, hl with | [_, _, _, _], _ => rfl
  have b19 := F19.bindsN (ps := ["_law_pot_here", "_law_web_here"]) fun _ _ _ _ _ _ us hl => match us, hl with | [_, _], _ => rfl
  have b20 := F20.bindsN (ps := ["_law_web_here", "_law_world_here", "_law_row"]) fun _ _ _ _ _ _ us hl => match us, hl with | [_, _, _], _ => rfl
  have b21 := F21.bindsN (ps := ["_law_web_here", "_law_world_here", "_law_row", "_law_asking_here"]) fun _ _ _ _ _ _ us hl => match us, hl with | [_, _, _, _], _ => rfl
  have b22 := F22.bindsN (ps := ["_law_pot_here", "_law_n"]) fun _ _ _ _ _ _ us hl => match us, hl with | [_, _], _ => rfl
  have b23 := F23.bindsN (ps := ["_law_pot_here", "_law_n", "_law_asking_here"]) fun _ _ _ _ _ _ us hl => match us, hl with | [_, _, _], _ => rfl
  have b24 := F24.bindsN (ps := ["_law_n", "_law_thing"]) fun _ _ _ _ _ _ us hl => match us, hl with | [_, _], _ => rfl
  have b25 := F25.bindsN (ps := ["_law_n", "_law_thing"]) fun _ _ _ _ _ _ us hl => match us, hl with | [_, _], _ => rfl
  have b26 := F26.bindsN (ps := ["_law_pot_here"]) fun _ _ _ _ _ _ us hl => match us, hl with | [_], _ => rfl
  have o0 : FnG P w K mg base CX0 1 _ d0 ["thing"] (spV K F_is_whole) := ok_is_whole F0 B 
  have o1 : FnG P w K mg base CX0 1 _ d1 ["things"] (spV K F_is_rising) := ok_is_rising F1 B 
  have o2 : FnG P w K mg base CX0 2 _ d2 ["many", "thing"] (spV K F_is_below) := ok_is_below F2 B ⟨_, _, o0, g0, F0.kp, b0⟩
  have o3 : FnG P w K mg base CX0 3 _ d3 ["many", "thing"] (spV K F_is_rising_below) := ok_is_rising_below F3 B ⟨_, _, o1, g1, F1.kp, b1⟩ ⟨_, _, o2, g2, F2.kp, b2⟩
  have o4 : FnG P w K mg base CX0 1 _ d4 ["web", "goals"] (spV K F_goal_crossings) := ok_goal_crossings F4 B 
  have o5 : FnG P w K mg base CX0 1 _ d5 ["web", "world"] (spV K F_right_arms) := ok_right_arms F5 B 
  have o6 : FnG P w K mg base CX0 1 _ d6 ["right", "start", "row"] (spV K F_gone_by) := ok_gone_by F6 B 
  have o7 : FnG P w K mg base CX0 2 _ d7 ["web", "world", "row", "goals"] (spV K F_starts) := ok_starts F7 B ⟨_, _, o6, g6, F6.kp, b6⟩ ⟨_, _, o4, g4, F4.kp, b4⟩ ⟨_, _, o5, g5, F5.kp, b5⟩
  have o8 : FnG P w K mg base CX0 4 _ d8 ["web", "thing"] (spV K F_is_ask) := ok_is_ask F8 B ⟨_, _, o3, g3, F3.kp, b3⟩ ⟨_, _, o2, g2, F2.kp, b2⟩
  have o9 : FnG P w K mg base CX0 1 _ d9 ["ask"] (spV K F_wanted) := ok_wanted F9 B T_WANTED
  have o10 : FnG P w K mg base CX0 1 _ d10 ["web", "ask"] (spV K F_asked_crossings) := ok_asked_crossings F10 B 
  have o11 : FnG P w K mg base CX0 1 _ d11 ["ask"] (spV K F_asked_goals) := ok_asked_goals F11 B 
  have o12 : FnG P w K mg base CX0 3 _ d12 ["web", "world", "word", "ask"] (spV K F_fails) := ok_fails F12 B ⟨_, _, o10, g10, F10.kp, b10⟩ ⟨_, _, o11, g11, F11.kp, b11⟩ ⟨_, _, _, o7, g7, F7.kp, k7⟩
  have o13 : FnG P w K mg base CX0 1 _ d13 ["_law_script", "_law_k"] (spV K F_law_pot) := ok_law_pot F13 B hd
  have o14 : FnG P w K mg base CX0 1 _ d14 ["_law_pot_here", "_law_upto"] (spV K F_law_take) := ok_law_take F14 B 
  have o15 : FnG P w K mg base CX0 2 _ d15 ["_law_pot_here", "_law_some"] (spV K F_law_of) := ok_law_of F15 B ⟨_, _, o14, g14, F14.kp, b14⟩
  have o16 : FnG P w K mg base CX0 3 _ d16 ["_law_pot_here", "_law_many"] (spV K F_law_names) := ok_law_names F16 B ⟨_, _, o15, g15, F15.kp, b15⟩ ⟨_, _, o14, g14, F14.kp, b14⟩
  have o17 : FnG P w K mg base CX0 3 _ d17 ["_law_pot_here", "_law_names_here", "_law_most"] (spV K F_law_word) := ok_law_word F17 B ⟨_, _, o15, g15, F15.kp, b15⟩ ⟨_, _, o14, g14, F14.kp, b14⟩
  have o18 : FnG P w K mg base CX0 2 _ d18 ["_law_pot_here", "_law_n", "_law_names_here", "_law_most"] (spV K F_law_web) := ok_law_web F18 B ⟨_, _, o14, g14, F14.kp, b14⟩
  have o19 : FnG P w K mg base CX0 3 _ d19 ["_law_pot_here", "_law_web_here"] (spV K F_law_world) := ok_law_world F19 B ⟨_, _, o15, g15, F15.kp, b15⟩
  have o20 : FnG P w K mg base CX0 1 _ d20 ["_law_web_here", "_law_world_here", "_law_row"] (spV K F_law_ends_of_walk) := ok_law_ends_of_walk F20 B 
  have o21 : FnG P w K mg base CX0 2 _ d21 ["_law_web_here", "_law_world_here", "_law_row", "_law_asking_here"] (spV K F_law_fails) := ok_law_fails F21 B ⟨_, _, o20, g20, F20.kp, b20⟩
  have o22 : FnG P w K mg base CX0 3 _ d22 ["_law_pot_here", "_law_n"] (spV K F_law_asking) := ok_law_asking F22 B ⟨_, _, o15, g15, F15.kp, b15⟩ ⟨_, _, o14, g14, F14.kp, b14⟩
  have o23 : FnG P w K mg base CX0 3 _ d23 ["_law_pot_here", "_law_n", "_law_asking_here"] (spV K F_law_near) := ok_law_near F23 B ⟨_, _, o15, g15, F15.kp, b15⟩
  have o24 : FnG P w K mg base CX0 1 _ d24 ["_law_n", "_law_thing"] (spV K F_law_is_crossings) := ok_law_is_crossings F24 B 
  have o25 : FnG P w K mg base CX0 2 _ d25 ["_law_n", "_law_thing"] (spV K F_law_is_asking) := ok_law_is_asking F25 B ⟨_, _, o24, g24, F24.kp, b24⟩
  have o26 : FnG P w K mg base CX0 5 _ d26 ["_law_pot_here"] (spV K F_law_case_right) := ok_law_case_right F26 B ⟨_, _, o25, g25, F25.kp, b25⟩ ⟨_, _, o8, g8, F8.kp, b8⟩ ⟨_, _, o23, g23, F23.kp, b23⟩ ⟨_, _, o9, g9, F9.kp, b9⟩ ⟨_, _, o12, g12, F12.kp, b12⟩ ⟨_, _, o21, g21, F21.kp, b21⟩ ⟨_, _, o22, g22, F22.kp, b22⟩ ⟨_, _, o17, g17, F17.kp, b17⟩ ⟨_, _, o19, g19, F19.kp, b19⟩ ⟨_, _, o18, g18, F18.kp, b18⟩ ⟨_, _, o14, g14, F14.kp, b14⟩ ⟨_, _, o16, g16, F16.kp, b16⟩
  exact ok_law F27 B ⟨_, _, o26, g26, F26.kp, b26⟩ ⟨_, _, o13, g13, F13.kp, b13⟩
end
end K50
open PySem PySem.W PySem.Calls PyProof.Rows
theorem PySem.Challenge.cw_woundwalks_k50_asks_and_worlds_holds : PySem.Challenge.rw_woundwalks_k50_asks_and_worlds.Holds := by
  w_on; o_law
  refine HandSHeadRun.head_any (r := OpenLaw.row PySem.Challenge.rw_woundwalks_k50_asks_and_worlds) (q := view (OpenLaw.row PySem.Challenge.rw_woundwalks_k50_asks_and_worlds).prog [33]) (H := K50.hk) (ob := K50.ob) (M := 3000) (loose := K50.loose) (d := HandSHeadRun.topDef (OpenLaw.row PySem.Challenge.rw_woundwalks_k50_asks_and_worlds).prog 33) (kwd := []) K50.ob_eq
    (by kernel_rfl) (fun s => by kernel_rfl) K50.run (by kernel_rfl) (by kernel_rfl) (by kernel_rfl) (by rfl) (by first | assumption | decide +kernel) (by decide +kernel) ⟨rfl, rfl, rfl, rfl, rfl, by decide +kernel⟩ ?hw ?hc
  case hw => w_witness2
  case hc =>
    refine Gk.walkG (l := PySem.Challenge.rw_woundwalks_k50_asks_and_worlds) (n := 63) (k := 6) (x := "_law_script") (CX := L2.CX0) rfl (by decide) (by kernel_rfl) ⟨rfl, by decide, by decide⟩ ?F (fun _ _ _ _ z => z)
    intro w mg fa h Y G hmg0
    obtain ⟨K, KX, c⟩ := Y
    have hmg : mg ("law" : PySem.Str) = some (.ref fa) := by
      have e : (HandSHeadRun.topDef (OpenLaw.row PySem.Challenge.rw_woundwalks_k50_asks_and_worlds).prog 33).name = ("law" : PySem.Str) := by kernel_rfl
      rw [← e]
      exact hmg0
    obtain ⟨fd, hb, hF⟩ := K50.facts (P := (PySem.Challenge.rw_woundwalks_k50_asks_and_worlds).prog) (w := w) KX G hmg c
    exact ⟨K, fd, _, KX, hb, fun H a ns hl _ hS => Vm.law_sp (K50.law_ok hl) hS, hF⟩
