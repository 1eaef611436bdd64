import PyProof.Rows.All
import Wide.All
import OpenK.AllK
import Wide.FinOn
import HandS.ForMost
import HandS.HeadEnd
import KE.KIntText
import HandS.Wide
import HandS.IsInst
import HandS.TupAny
import HandS.Codes
import HandS.Defaults
import HandS.HeadHook2
import HandS.Head2
import HandS.DictComp
import KE.KDictPairs
import PyProof.ListStr
import HandS.SortInts
import HandS.Zip
import HandS.TupMul
import HandS.NestedK
import HandS.Conv
import HandS.Deep
import HandS.Records
import HandS.NoneIn
import HandS.TupLen
import KE.SortData
import HandS.More
import HandS.Style
import HandS.Rev
import KE.DataCmp
import KE.GoesEnum
import HandS.SetKeys
import KE.KDictCopyH
import HandS.Star
import HandS.Walk
import KE.KDictWalk
import HandS.MakeKwOnly
import KE.DataMinMax
import PyProof.TupleOfSeq
import PyProof.Transfer
import PyProof.P3In
import HandS.SetFor
import KE.KEqDict
import PyProof.DictFindH
import PyProof.EqKinds
import KE.KTupSum
import HandS.TupSets
import KE.KDictZip
import HandS.Zip0
import HandS.RevTup
import HandS.DictTup
import HandS.HeadHook3
import PySem.Challenge.RW_woundwalks_k67_who_knows_more
set_option Elab.async false
set_option linter.all false
set_option maxRecDepth 100000
set_option maxHeartbeats 0
namespace Gk
open PySem PySem.Spec PyProof.Rows L2
structure FnG (P : Program) (w : World) (K : PySem.W.Frag) (mg : Str → Option Value) (base : Heap)
    (CX : CXT) (k : Nat) (f : Addr) (fd : FuncData) (ps : List Str) (sp : Sp) : Prop where
  ar : ∀ vs H Q E, sp vs H Q E → vs.length = ps.length
  go : ∀ (A : Around) (outer : List Env) (s : Shared) (H : Hp) (args : Args) (us : List Value)
    (vs : List V) (Q : VK) (E : XK), A.guards = some [] → Room k A →
    Env0 P w K mg base A outer s H → BindsTo s fd args (ps.zip us) → Vals vs us → sp vs H Q E →
    codeAny (model P w) A (.call (.ref f) args) (CR CX outer P w H s Q E) s
section
variable {P : Program} {w : World} {K : PySem.W.Frag} {mg : Str → Option Value} {base : Heap} {CX : CXT}
theorem FnG.of {k : Nat} {f : Addr} {fd : FuncData} {ps : List Str} {sp : Sp}
    (F : FnOk P w K mg base CX k f fd ps sp) : FnG P w K mg base CX k f fd ps sp :=
  ⟨F.len, fun A outer s H args us vs Q E _ hr => F.run A outer s H args us vs Q E hr⟩
theorem fnG_body {k : Nat} {f : Addr} {name qual : Str} {params : Arguments} {body : List Stmt}
    {scope : Scope} {dV kV doc pm cdv ct oc : Value} {an od : Option Addr}
    {osl : Array (Option Value)} {N ps : List Str} {sp : Sp}
    (lk : K.lookup f = some ⟨oc, od, .func (PySem.W.fnOf name qual params body scope dV kV doc pm an cdv ct), osl⟩)
    (hcd : PySem.W.codeIn K cdv qual = true) (S : FnScope N ps scope)
    (ar : ∀ vs H Q E, sp vs H Q E → vs.length = ps.length)
    (hb : ∀ (A : Around) (outer : List Env) (s : Shared) (H : Hp) (vs : List V) (Q : VK) (E : XK),
      A.guards = some [] → Room k (A.deeper (envOfC qual scope s.heap.objs.size f cdv)) → sp vs H Q E →
      ∃ t, PSs (cxOf CX P w K mg base N qual scope f cdv A outer s H E) body t ∧
        t { nx := fun _ H' => Q .non H', rt := Q } (start N vs) H) :
    FnG P w K mg base CX (k + 1) f (PySem.W.fnOf name qual params body scope dV kV doc pm an cdv ct) ps sp := by
  constructor
  · exact ar
  intro A outer s H args us vs Q E hg room env bnd rel wish
  have kin : K.In s.heap := env.mod.kin.keeps (fun b o q => (env.bs b o q).1)
  have nol : s.heap.NoLimit := env.mod.nolimit.keeps (fun b o q => (env.bs b o q).1)
  apply codeAny_call_function room.depth (kin _ _ lk) rfl S.co S.gen rfl (PySem.W.codeRec_of kin hcd)
  apply bnd
  apply wpAny_newFunctionEnv_cells S.kind
  · rintro ⟨n, v⟩ hy
    cases S.par n (List.of_mem_zip hy).1 with
    | inl q => exact Or.inl q
    | inr q => exact Or.inr ⟨q, PySem.W.cellsFrom_some _ _ _ (Or.inl q)⟩
  rintro _ rfl s1 inn
  refine And.intro (nol.keeps inn.toInCall.keep) (codeAny_func ?_)
  obtain ⟨t, run, want⟩ := hb A outer s H vs Q E hg (room.deeper _) wish
  have inv := inv_start (CX := CX) (E := E) S room.hd env (ar _ _ _ _ wish) rel inn
  apply wpAny_mono (run.run [] s1 _ H _ inv want)
  · intro fl s' out
    cases fl with
    | ret u => obtain ⟨v, _, H', J, rv, q⟩ := out; exact ⟨v, H', J.os, J.bare, J.base, J.hok, rv, q⟩
    | next => obtain ⟨_, H', J, q⟩ := out; exact ⟨V.non, H', J.os, J.bare, J.base, J.hok, rfl, q⟩
    | brk => obtain ⟨_, _, _, q⟩ := out; exact q.elim
    | cont => obtain ⟨_, _, _, q⟩ := out; exact q.elim
  · exact fun _ _ q => q
end
section
variable {X : Cx} {CX : CXT} {k : Nat} {f : Addr} {fd : FuncData} {ps : List Str} {sp : Sp} {E : XK}
theorem runG {pins : List (Addr × Obj)} {σ : L2.St} {H : Hp} {s : Shared} {Q : VK} {us ds : List Value}
    {vs dvs : List V} (F : FnG X.prog X.w X.K X.mg X.base CX k f fd ps sp) (hg : X.A.guards = some [])
    (hr : Room k X.A) (hb : Binds X.K fd ps ds) (hd : Vals dvs ds) (hx : Passes CX X E)
    (I : L2.Inv X pins σ H s) (r : Vals vs us) (h : sp (vs ++ dvs) H Q E) :
    wpAny (model X.prog X.w) X.A (call (.ref f) us) (EP X pins σ Q) X.xe s := by
  have rel := r.append hd
  have hl : (us ++ ds).length = ps.length := rel.length.symm.trans (F.ar _ _ _ _ h)
  apply wpAny_call
  apply codeAny_mono (F.go X.A X.stack s H ⟨us, []⟩ _ _ Q E hg hr I.env0 (hb s us I.kIn hl) rel h)
  intro out s' q
  rcases out with e | fl
  · exact hx pins σ H s e s' I q
  · cases fl <;> first | exact I.after q | exact q.elim
/-- f(e, ..) of such a def -/
theorem pe_callG {x : Str} {p pos : Pos} {e : Expr} {es : List Expr} {t : TA} {ds : List Value} {dvs : List V}
    (F : FnG X.prog X.w X.K X.mg X.base CX k f fd ps sp) (hg : X.A.guards = some []) (hr : Room k X.A)
    (gl : Gl X x) (hm : X.mg x = some (.ref f)) (hk : PySem.W.keepIn X.K (.ref f) = true)
    (hb : Binds X.K fd ps ds) (hd : Vals dvs ds) (hx : Passes CX X E) (ha : PA X (e :: es) t)
    (hdb : (x == ("__debug__" : Str)) = false := by decide)
    (he : starEach (e :: es) X.env = (false, eval e X.env) :: starEach es X.env := by rfl)
    (hpl : (backTo pos (starEach es X.env)).any (·.1) = false := by rfl) :
    PE X (.Call (.Name x p) (e :: es) [] pos) (tCall sp dvs E t) := by
  constructor
  intro pins s σ H Q I h
  apply wpAny_Call_Name_kw
  apply ld_glob I gl hm _ hdb
  apply PySem.W.callWith_K (h₀ := X.base) I.ok.mod.kin hk _ he hpl
  apply thn (ha.run pos pins s σ H _ I h)
  rintro us s1 ⟨vs, H1, I1, r, q⟩
  exact ⟨I1.kIn, runG F hg hr hb hd hx I1 r q⟩
end
theorem lawG {P : Program} {w : World} {K : PySem.W.Frag} {mg mb : Str → Option Value} {CX : CXT} {k : Nat}
    {fa a : Addr} {fd : FuncData} {x : Str} {sp : Sp} {s₁ : Shared} {vs : List Value} {ns : List Int}
    (KX : K.In s₁.heap) (hns : s₁.heap.Ns mainGlobals mg) (hb : s₁.heap.Ns builtinsNs mb)
    (hbb : ∀ x : Str, x ≠ "__name__" → mb x = bootBuiltins x) (hlim : s₁.heap.NoLimit) (hg : s₁.gens = #[])
    (ha : s₁.heap.get? a = some { cls := .type "list", data := .seq vs.toArray }) (hi : IntsAre vs ns)
    (hl : ns.length ≤ sizeLine) (hr : Room k callerA)
    (F : ∀ base : Heap, K.In base → base.Ns mainGlobals mg → FnG P w K mg base CX k fa fd [x] sp)
    (hbind : ∀ (s : Shared) (u : Value), BindsTo s fd ⟨[u], []⟩ [(x, u)])
    (hsp : ∀ H : Hp, Only H → SqL K H a (ns.map V.int) → sp [.ref a] H (fun v _ => v = .bl true) fun _ _ _ => False)
    (hCX : ∀ H e s', CX [] H s₁ (fun _ _ _ => False) e s' → False) :
    codeAny (model P w) callerA (.call (.ref fa) ⟨[.ref a], []⟩) (fun r s' => r = .ok (.ret (.bool true)) ∧
      OldK s₁.heap s'.heap ∧ s'.os = s₁.os ∧ AllBare s'.gens) s₁ := by
  have main : ∀ H : Hp, Only H → SqL K H a (ns.map V.int) → HOk P w H s₁.heap →
      (∀ b u, H b = some u → b = a ∧ K.lookup a = none) →
      codeAny (model P w) callerA (.call (.ref fa) ⟨[.ref a], []⟩) (fun r s' => r = .ok (.ret (.bool true)) ∧
        OldK s₁.heap s'.heap ∧ s'.os = s₁.os ∧ AllBare s'.gens) s₁ := by
    intro H only seq hok here
    have free : ∀ b o, s₁.heap.get? b = some o → (∀ z n, o.data ≠ .seq z n) → H b = none := by
      intro b o e nd
      match q : H b with
      | none => rfl
      | some u =>
        obtain ⟨rfl, _⟩ := here b u q
        cases e.symm.trans ha
        exact (nd _ _ rfl).elim
    have nsK : ∀ {b : Addr} {m : Str → Option Value}, s₁.heap.Ns b m → (hidT s₁.heap H).Ns b m := by
      rintro b m ⟨o, es, ep, e, d, r⟩
      exact ⟨o, es, ep, hidT_get e (free b o e (fun z n z' => by rw [d] at z'; cases z')), d, r⟩
    have kin : K.In (hidT s₁.heap H) := by
      intro b o e
      apply hidT_get (KX b o e)
      match q : H b with
      | none => rfl
      | some u =>
        obtain ⟨rfl, z⟩ := here b u q
        cases z.symm.trans e
    have lim : (hidT s₁.heap H).NoLimit := by
      obtain ⟨mc, h1, h2⟩ := hlim
      exact ⟨mc, nsK h1, h2⟩
    have env : Env0 P w K mg (hidT s₁.heap H) callerA [] s₁ H := {
      frames := rfl
      mod := ⟨kin, nsK hns, ⟨mb, nsK hb, hbb⟩, lim⟩
      bs := fun b o e => of_hidT e
      bsz := Nat.le_of_eq (hidT_size _ _)
      funs := trivial
      frf := fun b z => absurd (show b ∈ ([] : List Addr) from z) List.not_mem_nil
      hok := hok
      bare := .of_eq hg }
    have call := (F _ kin (nsK hns)).go callerA [] s₁ H ⟨[.ref a], []⟩ [.ref a] [.ref a] _ _ rfl hr env
      (hbind s₁ (.ref a)) (.cons rfl .nil) (hsp H only seq)
    apply codeAny_mono call
    intro r s' out
    match r, out with
    | .error e, out => exact (hCX H e s' out).elim
    | .ok .next, out => exact False.elim out
    | .ok .brk, out => exact False.elim out
    | .ok .cont, out => exact False.elim out
    | .ok (.ret u), out =>
      obtain ⟨v, H', os, bare, un, hok', rv, rfl⟩ := out
      cases (show u = Value.bool true from rv)
      refine ⟨rfl, OldK.of_keep ?_, os, bare⟩
      intro b o e
      cases only b with
      | inl n => exact un.keep b o e n (fun z => absurd (show b ∈ ([] : List Addr) from z) List.not_mem_nil) List.not_mem_nil
      | inr n =>
        obtain ⟨ob, xs, z⟩ := n
        have e1 := (hok b _ z).1
        have e2 := (hok' b _ (un.frzs b ob _ z)).1
        rw [e2, ← e1, e]
  match hk : K.lookup a with
  | some o =>
    cases (KX a o hk).symm.trans ha
    apply main (fun _ => none) (fun _ => Or.inl rfl)
    · refine Or.inr ⟨_, vs.toArray, _, hk, rfl, rfl, rfl, ?_, ?_⟩
      · rw [List.size_toArray, hi.length]; exact hl
      · simpa using vals_ints hi
    · intro b u z
      exact absurd (show (none : Option HO) = some u from z) nofun
    · intro b u z
      exact absurd (show (none : Option HO) = some u from z) nofun
  | none =>
    apply main (upd (fun _ => none) a (.frz { cls := .type "list", data := .seq vs.toArray } (.lst (ns.map V.int))))
    · intro b
      by_cases e : b = a
      · subst e; exact Or.inr ⟨_, _, upd_same⟩
      · exact Or.inl (upd_ne e)
    · exact Or.inl (Or.inr ⟨_, upd_same⟩)
    · intro b u z
      by_cases e : b = a
      · subst e
        cases upd_same.symm.trans z
        refine ⟨ha, ?_, vs, _, vals_ints hi, ha⟩
        rw [List.length_map]; exact hl
      · cases (upd_ne (H := fun _ => none) e).symm.trans z
    · intro b u z
      by_cases e : b = a
      · exact ⟨e, hk⟩
      · cases (upd_ne (H := fun _ => none) e).symm.trans z
theorem walkG {l : PySem.W.OpenLaw} {n k : Nat} {q : Program} {loose : List Str}
    {XP : (Str → Option Value) → Heap → Prop} {YP : World → Heap → Prop} {d : DefRec} {CX : CXT} {x : Str}
    (hn : l.most = some n) (hn2 : n ≤ sizeLine) (hdf : d.params.defaults = []) (hr : Room k callerA)
    (F : ∀ (w : World) (mg : Str → Option Value) (fa : Addr) (h : Heap), YP w h → h.Ns mainGlobals mg →
      mg d.name = some (.ref fa) →
      ∃ (K : PySem.W.Frag) (fd : FuncData) (sp : Sp), K.In h ∧
        (∀ (s : Shared) (u : Value), BindsTo s fd ⟨[u], []⟩ [(x, u)]) ∧
        (∀ (H : Hp) (a : Addr) (ns : List Int), ns.length ≤ n → Only H → SqL K H a (ns.map V.int) →
          sp [.ref a] H (fun v _ => v = .bl true) fun _ _ _ => False) ∧
        ∀ base : Heap, K.In base → base.Ns mainGlobals mg → FnG l.prog w K mg base CX k fa fd [x] sp)
    (hCX : ∀ (H : Hp) (s : Shared) (e : Value) (s' : Shared), CX [] H s (fun _ _ _ => False) e s' → False) :
    PySem.W.WalkO q loose XP YP l.row.toRowW d [] (fun f vs => PySem.call f vs) := by
  apply Att.attach_call hn hdf
  intro w s₀ s₁ mg mb fa o pm cd doc a vs ns G Y _ _ _ hmg hobj hints hlen hgens
  obtain ⟨K, fd, sp, KX, hb, hsp, hF⟩ := F w mg fa _ Y G.T.g hmg
  exact lawG KX G.T.g G.T.b G.T.builtins G.T.nolimit hgens hobj hints (Nat.le_trans hlen hn2) hr hF hb
    (fun H hO hS => hsp H a ns hlen hO hS) (fun H e s' => hCX H s₁ e s')
end Gk
namespace Gk
open PySem PySem.Spec PyProof.Rows
open PySem.NumText PySem.W
/-- '1' and nine hundred noughts -/
def bigC : List Nat := 49 :: List.replicate 900 48
def bigS : PySem.Str := ⟨bigC.toArray⟩
theorem noughts : ∀ (n : Nat) (p : Array Nat),
    (List.replicate n 48).foldlM (step 10) (p, true) = some ((p.toList ++ List.replicate n 0).toArray, true)
  | 0, p => by simp
  | n + 1, p => by
    have e : step 10 (p, true) 48 = some (p.push 0, true) := rfl
    rw [List.replicate_succ, List.foldlM_cons, e]
    show (List.replicate n 48).foldlM (step 10) (p.push 0, true) = _
    rw [noughts n (p.push 0), List.replicate_succ]
    simp
theorem big_rev : bigC.reverse = List.replicate 900 48 ++ [49] := by
  unfold bigC
  rw [List.reverse_cons, List.reverse_replicate]
theorem big_sign : sign (bigC.dropWhile blank) = (false, bigC) := rfl
theorem big_core : core bigC = bigC := by
  unfold core
  rw [big_sign]
  show (List.dropWhile blank bigC.reverse).reverse = bigC
  have e : List.dropWhile blank bigC.reverse = bigC.reverse := by
    rw [big_rev, show 900 = 899 + 1 from rfl, List.replicate_succ, List.cons_append]
    rfl
  rw [e, List.reverse_reverse]
theorem big_neg : (sign (bigC.dropWhile blank)).1 = false := by rw [big_sign]
theorem ascii : ∀ n : Nat, (List.replicate n 48).all (· < 128) = true
  | 0 => rfl
  | n + 1 => by rw [List.replicate_succ, List.all_cons, ascii n]; rfl
theorem big_text : numTextOf bigS = bigC := by
  have h : bigS.cps.all (· < 128) = true := by
    unfold bigS bigC
    rw [← Array.all_toList]
    show (49 :: List.replicate 900 48).all _ = true
    rw [List.all_cons, ascii 900]
    rfl
  exact if_pos h
theorem all_on : ∀ n : Nat, (List.replicate n 48).takeWhile (· != 0) = List.replicate n 48
  | 0 => rfl
  | n + 1 => by
    rw [List.replicate_succ, List.takeWhile_cons]
    show 48 :: List.takeWhile _ (List.replicate n 48) = _
    rw [all_on n]
theorem big_seen : numSeenOf bigS = bigC := by
  show (numTextOf bigS).takeWhile (· != 0) = bigC
  rw [big_text]
  unfold bigC
  rw [List.takeWhile_cons]
  show 49 :: List.takeWhile _ (List.replicate 900 48) = _
  rw [all_on]
theorem big_len : bigC.length = 901 := by unfold bigC; rw [List.length_cons, List.length_replicate]
theorem digits_n (n : Nat) : digits? 10 (49 :: List.replicate n 48) = some ((1 :: List.replicate n 0).toArray) := by
  unfold digits?
  have e : step 10 (#[], false) 49 = some (#[1], true) := rfl
  rw [List.foldlM_cons, e]
  have e2 : (some (#[1], true) >>= fun s' => List.foldlM (step 10) s' (List.replicate n 48)) = List.foldlM (step 10) (#[1], true) (List.replicate n 48) := rfl
  rw [e2, noughts]
  rfl
theorem big_digits : digits? 10 bigC = some ((1 :: List.replicate 900 0).toArray) := digits_n 900
theorem grows : ∀ (n : Nat) (a : Nat), 0 < a → 0 < (List.replicate n 0).foldl (fun acc d => acc * 10 + d) a
  | 0, a, h => h
  | n + 1, a, h => by
    rw [List.replicate_succ, List.foldl_cons]
    exact grows n _ (by omega)
theorem big_worth : ∃ n, 0 < n ∧ PySem.intText? bigS = some n := by
  refine ⟨worth false ((1 :: List.replicate 900 0).toArray), ?_, ?_⟩
  · unfold worth
    have h := grows 900 (0 * 10 + 1) (by decide)
    simp only [List.foldl_toArray, List.foldl_cons]
    simp only [Bool.false_eq_true, if_false]
    exact Int.ofNat_lt.mpr h
  · unfold PySem.intText?
    rw [big_seen, big_text, big_core, big_digits, big_neg]
    rw [if_pos (by rw [big_len]; decide)]
    show (if (1 :: List.replicate 900 0).toArray.size ≤ 4300 then _ else _) = _
    rw [if_pos (by rw [List.size_toArray, List.length_cons, List.length_replicate]; decide)]
theorem big_long : ¬ ((numSeenOf bigS).length ≤ 640) := by rw [big_seen, big_len]; decide
theorem digits_wp {M : Model} {A : Around} {E : Value → Shared → Prop} {s : Shared} {Q : Nat → Shared → Prop}
    (hn : s.heap.NoDigits) (h : Q 4300 s) : wpAny M A Builtin.intMaxStrDigits Q E s := by
  obtain ⟨mc, hns, hnone⟩ := hn
  unfold Builtin.intMaxStrDigits
  apply wpAny_bind (wpAny_nsGet hns _)
  rw [hnone]
  exact wpAny_pure h
theorem big_from {M : Model} {A : Around} {E : Value → Shared → Prop} {s : Shared} {Q : Value → Shared → Prop} {v : Value} {text : List Nat} {n : Int}
    (hl : ¬ ((text.takeWhile (· != 0)).length ≤ 640))
    (hr : (int_private% "readNumeral") 4300 10 (text.takeWhile (· != 0)) = (int_private% "Numeral.value") n)
    (ha : ((text.takeWhile (· != 0)).length == text.length) = true)
    (hn : s.heap.NoDigits) (h : Q (.int n s.toks) { s with toks := s.toks + 1 }) :
    wpAny M A ((int_private% "intFromText") v text 10) Q E s := by
  obtain ⟨hp, g, d, tk, os⟩ := s
  repeat (any_goals (first
    | assumption
    | (with_reducible refine wpAny_ite_false (decide_eq_false hl) ?_)
    | (with_reducible refine wpAny_ite_true (decide_eq_true ha) ?_)
    | (with_reducible refine digits_wp hn ?_)
    | wp_step))
  all_goals (try rw [hr])
  all_goals (try dsimp only)
  repeat (any_goals (first
    | assumption
    | (with_reducible refine wpAny_ite_true (decide_eq_true ha) ?_)
    | wp_step))
set_option maxHeartbeats 4000000 in
theorem big_new {u : Tok} {n : Int} (hn : PySem.intText? bigS = some n) :
    Meets (Builtin.«int.__new__» ⟨[.type "int", .str bigS u], []⟩)
      (fun _ R s => s.heap.NoDigits ∧ R (.ok (.ret (.int n s.toks))) { s with toks := s.toks + 1 }) := by
  intro prog w A R s h
  obtain ⟨hd, h⟩ := h
  have hk : (int_private% "readNumeral") 4300 10 (numSeenOf bigS) = (int_private% "Numeral.value") n ∧ ((numSeenOf bigS).length == (numTextOf bigS).length) = true := by
    rcases read4300 bigS (by show bigC.toArray.size ≤ _; rw [List.size_toArray, big_len, sizeLine_eq]; decide) with ⟨m, h1, h2, h3⟩ | ⟨h1, _⟩
    · rw [hn] at h1
      injection h1 with h1
      subst h1
      exact ⟨h3, h2⟩
    · rw [hn] at h1
      cases h1
  have hl := big_long
  have f1 := F.conv_sub_int
  have f2 := F.madeHere_int
  have f3 := KIN.str_int
  have f4 := KIN.str_idx
  have f5 := KIN.str_trunc
  have f6 : typeOf (.str bigS u) = pure (.type "str") := rfl
  generalize bigS = x at *
  obtain ⟨hp, g, d, tk, os⟩ := s
  clear hn
  have hk2 := KIN.Hid.mk hk
  have hl2 := KIN.Hid.mk hl
  clear hk hl
  repeat (any_goals (first
    | assumption
    | ((with_reducible show wpAny _ _ ((int_private% "intFromText") _ _ _) _ _ _); refine big_from hl2.out hk2.out.1 hk2.out.2 hd ?_)
    | wp_step))
theorem call_big {prog : Program} {w : World} {A : Around} {E : Value → Shared → Prop} {s : Shared} {Q : Value → Shared → Prop} {t : Tok} {n : Int}
    (hn : PySem.intText? bigS = some n) (hd : s.heap.NoDigits) (h : Q (.int n s.toks) { s with toks := s.toks + 1 }) :
    wpAny (model prog w) A (call (.type "int") [.str bigS t]) Q E s :=
  call_int_1 (big_new hn) ⟨hd, typeIs_int _ _ _, h⟩
end Gk
namespace Gk
open PySem PySem.Spec PyProof.Rows L2
mutual
inductive Dx (p : List Addr) (H : Hp) : V → PyData → Prop
  | non : Dx p H .non .none
  | bl (b : Bool) : Dx p H (.bl b) (.bool b)
  | int (i : Int) : Dx p H (.int i) (.int i)
  | str (x : Str) : x.length ≤ 100000 → Dx p H (.str x) (.str x)
  | lst {a : Addr} {xs : List V} {ds : List PyData} : H a = some (.lst xs) → a ∉ p → xs.length ≤ 100000 → DxA p H xs ds → Dx p H (.ref a) (.list ds)
  | tup {a : Addr} {xs : List V} {ds : List PyData} : H a = some (.tup xs) → xs.length ≤ 100000 → DxA p H xs ds → Dx p H (.ref a) (.tuple ds)
  | dic0 {a : Addr} : H a = some (.dK []) → Dx p H (.ref a) (.dict [])
  | dic1 {a : Addr} {x : Str} {i : Int} : H a = some (.dK [(Sum.inr x, .int i)]) → Dx p H (.ref a) (.dict [(.str x, .int i)])
inductive DxA (p : List Addr) (H : Hp) : List V → List PyData → Prop
  | nil : DxA p H [] []
  | cons {v : V} {vs : List V} {d : PyData} {ds : List PyData} : Dx p H v d → DxA p H vs ds → DxA p H (v :: vs) (d :: ds)
end
/-- all that stood elsewhere than at p is as it was -/
def Keep (p : List Addr) (H H' : Hp) : Prop := ∀ b o, b ∉ p → H b = some o → H' b = some o
theorem Keep.refl (p : List Addr) (H : Hp) : Keep p H H := fun _ _ _ h => h
theorem Keep.trans {p : List Addr} {H H1 H2 : Hp} (a : Keep p H H1) (b : Keep p H1 H2) : Keep p H H2 := fun c o n h => b c o n (a c o n h)
theorem Keep.of {p : List Addr} {H H' : Hp} (s : Same H H') : Keep p H H' := fun b o _ h => s b o h
theorem Keep.free {p : List Addr} {H H' : Hp} (k : Keep p H H') {b : Addr} (n : b ∉ p) (h : H' b = none) : H b = none := by
  match q : H b with
  | none => rfl
  | some o => rw [k b o n q] at h; cases h
theorem same_new {H : Hp} {p : Addr} {o : HO} (h : H p = none) : Same H (upd H p o) := fun b x e => by
  rw [upd_ne (ne_of_none e h)]
  exact e
theorem Keep.sub {H H' : Hp} {N M : List Addr} (k : Keep N H H') (h : ∀ a ∈ N, a ∈ M) : Keep M H H' := fun b x n e => k b x (fun z => n (h b z)) e
/-- at each of these stands a list -/
def Lists (p : List Addr) (H : Hp) : Prop := ∀ a ∈ p, ∃ xs, H a = some (.lst xs)
theorem Lists.not {p : List Addr} {H : Hp} {a : Addr} {o : HO} (l : Lists p H) (h : H a = some o) (n : ∀ xs, o ≠ .lst xs) : a ∉ p := fun m => by
  obtain ⟨xs, e⟩ := l a m
  rw [h] at e
  exact n xs (Option.some.inj e)
mutual
theorem Dx.keep {p : List Addr} {H H' : Hp} (hp : Lists p H) (k : Keep p H H') : ∀ {v : V} {d : PyData}, Dx p H v d → Dx p H' v d
  | _, _, .non => .non
  | _, _, .bl b => .bl b
  | _, _, .int i => .int i
  | _, _, .str x h => .str x h
  | _, _, .lst h n l a => .lst (k _ _ n h) n l (DxA.keep hp k a)
  | _, _, .tup h l a => .tup (k _ _ (hp.not h (fun _ => nofun)) h) l (DxA.keep hp k a)
  | _, _, .dic0 h => .dic0 (k _ _ (hp.not h (fun _ => nofun)) h)
  | _, _, .dic1 h => .dic1 (k _ _ (hp.not h (fun _ => nofun)) h)
theorem DxA.keep {p : List Addr} {H H' : Hp} (hp : Lists p H) (k : Keep p H H') : ∀ {vs : List V} {ds : List PyData}, DxA p H vs ds → DxA p H' vs ds
  | _, _, .nil => .nil
  | _, _, .cons h t => .cons (Dx.keep hp k h) (DxA.keep hp k t)
end
mutual
theorem Dx.same {p : List Addr} {H H' : Hp} (k : Same H H') : ∀ {v : V} {d : PyData}, Dx p H v d → Dx p H' v d
  | _, _, .non => .non
  | _, _, .bl b => .bl b
  | _, _, .int i => .int i
  | _, _, .str x h => .str x h
  | _, _, .lst h n l a => .lst (k _ _ h) n l (DxA.same k a)
  | _, _, .tup h l a => .tup (k _ _ h) l (DxA.same k a)
  | _, _, .dic0 h => .dic0 (k _ _ h)
  | _, _, .dic1 h => .dic1 (k _ _ h)
theorem DxA.same {p : List Addr} {H H' : Hp} (k : Same H H') : ∀ {vs : List V} {ds : List PyData}, DxA p H vs ds → DxA p H' vs ds
  | _, _, .nil => .nil
  | _, _, .cons h t => .cons (Dx.same k h) (DxA.same k t)
end
theorem DxA.length {p : List Addr} {H : Hp} : ∀ {vs : List V} {ds : List PyData}, DxA p H vs ds → vs.length = ds.length
  | _, _, .nil => rfl
  | _, _, .cons _ t => congrArg Nat.succ (DxA.length t)
theorem DxA.append {p : List Addr} {H : Hp} : ∀ {vs ws : List V} {ds es : List PyData}, DxA p H vs ds → DxA p H ws es → DxA p H (vs ++ ws) (ds ++ es)
  | _, _, _, _, .nil, s => s
  | _, _, _, _, .cons h t, s => .cons h (DxA.append t s)
theorem DxA.take {p : List Addr} {H : Hp} : ∀ {vs : List V} {ds : List PyData} (n : Nat), DxA p H vs ds → DxA p H (vs.take n) (ds.take n)
  | _, _, 0, _ => .nil
  | _, _, _ + 1, .nil => .nil
  | _, _, n + 1, .cons h t => .cons h (DxA.take n t)
theorem DxA.drop {p : List Addr} {H : Hp} : ∀ {vs : List V} {ds : List PyData} (n : Nat), DxA p H vs ds → DxA p H (vs.drop n) (ds.drop n)
  | _, _, 0, s => s
  | _, _, _ + 1, .nil => .nil
  | _, _, n + 1, .cons _ t => DxA.drop n t
theorem DxA.get {p : List Addr} {H : Hp} : ∀ {vs : List V} {ds : List PyData} {i : Nat} {v : V}, DxA p H vs ds → vs[i]? = some v → ∃ d, ds[i]? = some d ∧ Dx p H v d
  | _, _, _, _, .nil, e => by simp at e
  | _, _, 0, _, .cons h _, e => by simp at e; subst e; exact ⟨_, rfl, h⟩
  | _, _, i + 1, v, .cons _ t, e => by
    obtain ⟨d, e1, e2⟩ := DxA.get (i := i) (v := v) t (by simpa using e)
    exact ⟨d, by simpa using e1, e2⟩
mutual
theorem Dx.new {p : List Addr} {H H' : Hp} {L : Addr} (hL : H L = none) (k : Same H H') : ∀ {v : V} {d : PyData}, Dx p H v d → Dx (L :: p) H' v d
  | _, _, .non => .non
  | _, _, .bl b => .bl b
  | _, _, .int i => .int i
  | _, _, .str x h => .str x h
  | _, _, .lst h n l a => .lst (k _ _ h) (fun z => (List.mem_cons.mp z).elim (fun e => by rw [e, hL] at h; cases h) n) l (DxA.new hL k a)
  | _, _, .tup h l a => .tup (k _ _ h) l (DxA.new hL k a)
  | _, _, .dic0 h => .dic0 (k _ _ h)
  | _, _, .dic1 h => .dic1 (k _ _ h)
theorem DxA.new {p : List Addr} {H H' : Hp} {L : Addr} (hL : H L = none) (k : Same H H') : ∀ {vs : List V} {ds : List PyData}, DxA p H vs ds → DxA (L :: p) H' vs ds
  | _, _, .nil => .nil
  | _, _, .cons h t => .cons (Dx.new hL k h) (DxA.new hL k t)
end
mutual
def listless : PyData → Bool
  | .list _ => false
  | .tuple xs => listlessA xs
  | _ => true
def listlessA : List PyData → Bool
  | [] => true
  | x :: xs => listless x && listlessA xs
end
section
variable {X : Cx} {pins : List (Addr × Obj)} {σ : L2.St} {H : Hp} {s : Shared}
mutual
theorem Dx.reads (I : L2.Inv X pins σ H s) {p : List Addr} : ∀ (d : PyData) (v : V) (u : Value), Dx p H v d → RelV v u → ∃ as, Reads s.heap u d as ∧ (listless d = true → sysModules ∉ as)
  | .none, _, _, h, r => by
    cases h; cases r
    exact ⟨_, Reads.none, fun _ => List.not_mem_nil⟩
  | .bool b, _, _, h, r => by
    cases h; cases r
    exact ⟨_, Reads.bool b, fun _ => List.not_mem_nil⟩
  | .int i, _, _, h, r => by
    cases h
    obtain ⟨t, rfl⟩ := r
    exact ⟨_, Reads.int i t, fun _ => List.not_mem_nil⟩
  | .str x, _, _, h, r => by
    cases h
    obtain ⟨t, rfl⟩ := r
    exact ⟨_, Reads.str x t, fun _ => List.not_mem_nil⟩
  | .list ds, _, _, h, r => by
    cases h with
    | lst hs _ _ ha =>
      cases r
      obtain ⟨_, its, n, rv, e⟩ := I.hok _ _ hs
      obtain ⟨as, hr, _⟩ := DxA.readsA I ds _ its ha rv
      exact ⟨_, Reads.list e rfl rfl (by simpa using hr), fun z => by cases z⟩
  | .tuple ds, _, _, h, r => by
    cases h with
    | tup hs _ ha =>
      cases r
      obtain ⟨_, its, rv, o, ho, hc, n, hd⟩ := I.hok _ _ hs
      obtain ⟨as, hr, hl⟩ := DxA.readsA I ds _ its ha rv
      exact ⟨_, Reads.tuple ho hc hd (by simpa using hr), fun z => hl z⟩
  | .dict kvs, _, _, h, r => by
    cases h with
    | dic0 hs =>
      cases r
      obtain ⟨_, hy, vs, rv, o, es, ep, ho, hx, hd, _, pr, _⟩ := I.hok _ _ hs
      cases rv
      have e0 : es.toList = [] := by
        generalize es.toList = l at pr
        cases pr
        rfl
      refine ⟨_, Reads.dict (as := []) (bs := []) ho hx.1 hd (by rw [e0]; exact .nil) (by rw [e0]; exact .nil), fun _ z => ?_⟩
      rcases List.mem_cons.mp z with q | q
      · rw [← q] at hy; simp at hy
      · exact List.not_mem_nil q
    | dic1 hs =>
      cases r
      obtain ⟨_, hy, vs, rv, o, es, ep, ho, hx, hd, _, pr, _⟩ := I.hok _ _ hs
      match vs, rv with
      | [(ke, ve)], .cons r1 .nil =>
        have h1 : Sum.inr _ = ke := r1.1
        obtain ⟨t, h2⟩ : ∃ t, ve = Value.int _ t := r1.2
        subst h1
        subst h2
        generalize hl : es.toList = l at pr
        cases pr with
        | cons k1 k2 k3 =>
          cases k3
          rename_i en
          obtain ⟨t2, e2⟩ := Value.isStrOf_shape (show Value.isStrOf _ en.key = true from k1)
          refine ⟨_, Reads.dict (as := []) (bs := []) ho hx.1 hd (by rw [hl]; exact .cons (as := []) (by dsimp only; rw [e2]; exact .str _ _) .nil) (by rw [hl]; exact .cons (as := []) (by dsimp only; rw [k2]; exact .int _ _) .nil), fun _ z => ?_⟩
          rcases List.mem_cons.mp z with q | q
          · rw [← q] at hy; simp at hy
          · exact List.not_mem_nil q
termination_by d => sizeOf d
theorem DxA.readsA (I : L2.Inv X pins σ H s) {p : List Addr} : ∀ (ds : List PyData) (vs : List V) (us : List Value), DxA p H vs ds → Vals vs us → ∃ as, ReadsAll s.heap us ds as ∧ (listlessA ds = true → sysModules ∉ as)
  | [], _, _, h, r => by
    cases h; cases r
    exact ⟨_, ReadsAll.nil, fun _ => List.not_mem_nil⟩
  | d :: ds, _, _, h, r => by
    cases h with
    | cons h1 h2 =>
      cases r with
      | cons r1 r2 =>
        obtain ⟨as, q1, l1⟩ := Dx.reads I d _ _ h1 r1
        obtain ⟨bs, q2, l2⟩ := DxA.readsA I ds _ _ h2 r2
        refine ⟨_, ReadsAll.cons q1 q2, fun z => ?_⟩
        have z' : (listless d && listlessA ds) = true := by simpa [listlessA] using z
        rw [Bool.and_eq_true] at z'
        intro hm
        rcases List.mem_append.mp hm with q | q
        · exact l1 z'.1 q
        · exact l2 z'.2 q
termination_by ds => sizeOf ds
end
end
theorem textFrom_le : ∀ (ts : List Str) (k : Nat) (acc : Str), (textFrom k acc ts).length ≤ acc.length + piled ts
  | [], _, acc => Nat.le_add_right _ _
  | t :: r, k, acc => by
    have ih := textFrom_le r (k + 1) (acc ++ (if k > 0 then ", " else "" : String) ++ t)
    have e : (acc ++ (if k > 0 then ", " else "" : String) ++ t).length ≤ acc.length + 2 + t.length := by
      rw [strLen_append, strLen_append]
      have z : (Str.ofString (if k > 0 then ", " else "" : String)).length ≤ 2 := by split <;> decide
      omega
    rw [piled_cons]
    show (textFrom (k + 1) _ r).length ≤ _
    omega
theorem listText_le (ts : List Str) : (listText ts).length ≤ piled ts + 2 := by
  have h := textFrom_le ts 0 "["
  unfold listText
  rw [strLen_append]
  have e1 : (Str.ofString "]").length = 1 := by decide
  have e2 : (Str.ofString "[").length = 1 := by decide
  omega
theorem join_le (ts : List Str) : (Str.join ", " ts).length ≤ piled ts := by
  match ts with
  | [] => exact Nat.zero_le _
  | t :: r =>
    have h := join_length_add (t :: r) (by simp)
    omega
theorem tupleText_le (ts : List Str) : (tupleText ts).length ≤ piled ts + 3 := by
  have h := join_le ts
  unfold tupleText
  rw [strLen_append, strLen_append]
  have e1 : (Str.ofString "(").length = 1 := by decide
  have e2 : (Str.ofString (if ts.length == 1 then ",)" else ")" : String)).length ≤ 2 := by split <;> decide
  omega
theorem piled_le {n : Nat} : ∀ (ds : List PyData), (∀ d ∈ ds, d.shown.length ≤ n) → piled (PyData.shownAll ds) ≤ ds.length * (n + 2)
  | [], _ => by simp [PyData.shownAll, piled_nil]
  | d :: ds, h => by
    have ih := piled_le ds fun e he => h e (List.mem_cons_of_mem _ he)
    have h1 := h d (List.mem_cons_self ..)
    simp only [PyData.shownAll]
    rw [piled_cons, List.length_cons, Nat.succ_mul]
    omega
theorem shown_list_le {n : Nat} {ds : List PyData} (h : ∀ d ∈ ds, d.shown.length ≤ n) : (PyData.list ds).shown.length ≤ ds.length * (n + 2) + 2 := by
  have h1 := piled_le ds h
  have h2 := listText_le (PyData.shownAll ds)
  simp only [PyData.shown]
  omega
theorem shown_tuple_le {n : Nat} {ds : List PyData} (h : ∀ d ∈ ds, d.shown.length ≤ n) : (PyData.tuple ds).shown.length ≤ ds.length * (n + 2) + 3 := by
  have h1 := piled_le ds h
  have h2 := tupleText_le (PyData.shownAll ds)
  simp only [PyData.shown]
  omega
/-- what can be shown -/
structure Shows (d : PyData) : Prop where
  ok : d.showable = true
  deep : d.depth ≤ 30
  size : d.shown.length ≤ 16000000
  clean : d.hasDict = false ∨ listless d = true
theorem big_line : (16000000 : Nat) ≤ sizeLine := by rw [sizeLine_eq]; decide
section
variable {X : Cx}
def rRepr (p : List Addr) : List V → Hp → VK → Prop := fun xs H Q => ∃ v d, xs = [v] ∧ Dx p H v d ∧ Shows d ∧ Q (.str d.shown) H
theorem call_reprD {k : Nat} (p : List Addr) (hg : X.A.guards = some []) (hr : Room k X.A) : CallR X (.builtin "repr") (rRepr p) := by
  intro pins s σ H xs us Q I r h
  obtain ⟨v, d, rfl, hd, hs, q⟩ := h
  obtain ⟨u, rfl, ru⟩ := vals1 r
  have hz : d.shown.length ≤ sizeLine := Nat.le_trans hs.size big_line
  have hu : X.A.units + (d.depth + 1) < cLine := by
    have h1 := hr.un
    have h2 := hs.deep
    omega
  obtain ⟨as, hr, hl⟩ := Dx.reads I d v u hd ru
  have heap : ∀ a, u = .ref a → wpAny (model X.prog X.w) X.A (call (.builtin "repr") [u]) (EP X pins σ Q) X.xe s := by
    rintro a rfl
    refine repr_of_reads' hr hs.ok (fun z => ?_) hg hu (fun _ _ e => e) (fun h' t tk hk => ?_) hz
    · rcases hs.clean with c | c
      · rw [c] at z; cases z
      · exact hl c
    · exact ⟨.str _, H, I.kept (t' := tk) hk, ⟨t, rfl⟩, q⟩
  cases hd with
  | non => cases ru; exact PySem.P.repr_of_none ⟨.str _, H, I.tok _, ⟨_, rfl⟩, q⟩
  | bl b => cases ru; exact PySem.P.repr_of_bool ⟨.str _, H, I.tok _, ⟨_, by simp only [PyData.shown]; split <;> rfl⟩, q⟩
  | int i =>
    obtain ⟨t, rfl⟩ := ru
    exact PySem.P.repr_of_int (by simpa [PyData.showable] using hs.ok) ⟨.str _, H, I.tok _, ⟨_, rfl⟩, q⟩
  | str x _ =>
    obtain ⟨t, rfl⟩ := ru
    exact PySem.P.repr_of_str ⟨.str _, H, I.tok _, ⟨_, rfl⟩, q⟩ hz
  | lst _ _ _ _ => exact heap _ ru
  | tup _ _ _ => exact heap _ ru
  | dic0 _ => exact heap _ ru
  | dic1 _ => exact heap _ ru
def repS (z : Str) (n : Nat) : Str := ⟨(List.replicate n z.cps.toList).flatten.toArray⟩
theorem foldl_cat (z : Array Nat) : ∀ (n : Nat) (acc : Array Nat), (List.replicate n z).foldl (· ++ ·) acc = (acc.toList ++ (List.replicate n z.toList).flatten).toArray
  | 0, acc => by simp
  | n + 1, acc => by
    rw [List.replicate_succ, List.foldl_cons, foldl_cat z n, List.replicate_succ, List.flatten_cons]
    simp
theorem repS_zero (z : Str) : repS z 0 = Str.empty := rfl
theorem repS_one (z : Str) : repS z 1 = z := by
  unfold repS
  obtain ⟨⟨l⟩⟩ := z
  simp
theorem repS_empty {z : Str} (h : z.length = 0) (n : Nat) : repS z n = z := by
  obtain ⟨⟨l⟩⟩ := z
  have e : l = [] := List.length_eq_zero_iff.mp h
  subst e
  unfold repS
  simp
theorem repS_fold (z : Str) (n : Nat) : (⟨(List.replicate n z.cps).foldl (· ++ ·) #[]⟩ : Str) = repS z n := by
  unfold repS
  rw [foldl_cat]
  simp
theorem repS_length (z : Str) (n : Nat) : (repS z n).length = n * z.length := by
  show (List.replicate n z.cps.toList).flatten.toArray.size = n * z.cps.size
  rw [List.size_toArray, List.length_flatten, List.map_replicate, List.sum_replicate_nat, Array.length_toList]
theorem op_mulStr : OpR X (binaryOp .Mult) (fun x y H Q => ∃ (z : Str) (k : Nat), x = .str z ∧ y = .int (k : Int) ∧ z.length * k ≤ 10000000 ∧ k ≤ 10000000 ∧ z.length ≤ 10000000 ∧ Q (.str (repS z k)) H) := by
  intro pins s σ H x y v u Q I rx ry h
  obtain ⟨z, k, rfl, rfl, hz, hk, hl, q⟩ := h
  obtain ⟨t, rfl⟩ := rx
  obtain ⟨t', rfl⟩ := ry
  refine PySem.P.mul_str ?_ (fun h1 h2 => ?_) (fun h1 h2 => ?_) ?_
  · rw [decide_eq_false (by omega), decide_eq_false (by omega)]; rfl
  · have : (1 : Int) ≤ k := by omega
    have h3 : (10000000 : Int) ≤ (2 ^ 63 - 1) / (k : Int) := by
      apply (Int.le_ediv_iff_mul_le (by omega)).mpr
      omega
    omega
  · show decide (z.length * ((k : Int).toNat) > sizeLine) = false
    have := big_line
    exact decide_eq_false (by rw [show ((k : Int).toNat) = k from rfl]; omega)
  · by_cases h0 : k = 0
    · subst h0
      rw [if_pos (by decide)]
      exact ⟨by decide, .str _, H, I.tok _, ⟨_, rfl⟩, by rw [repS_zero] at q; exact q⟩
    · rw [if_neg (by omega)]
      by_cases h1 : ((k : Int) == 1 || z.length == 0) = true
      · rw [if_pos h1]
        have e : repS z k = z := by
          rw [Bool.or_eq_true, beq_iff_eq, beq_iff_eq] at h1
          rcases h1 with h1 | h1
          · have : k = 1 := by omega
            rw [this, repS_one]
          · exact repS_empty h1 k
        rw [e] at q
        exact ⟨.str _, H, I, ⟨_, rfl⟩, q⟩
      · rw [if_neg h1]
        rw [show ((k : Int).toNat) = k from rfl, repS_fold]
        refine ⟨?_, .str _, H, I.tok _, ⟨_, rfl⟩, q⟩
        have := big_line
        rw [repS_length, Nat.mul_comm]
        omega
theorem noDigits_of {K : PySem.W.Frag} {h : Heap} (X : K.In h) (L : h.NoLimit)
    (e : PySem.W.nsIn K cStatics "sys.int_max_str_digits" = some none) : h.NoDigits := by
  obtain ⟨mc, G, _⟩ := L
  refine ⟨mc, G, ?_⟩
  obtain ⟨o, es, ep, ho, hd, _, hf⟩ := G
  rw [← hf]
  unfold PySem.W.nsIn at e
  cases q : K.lookup cStatics with
  | none => rw [q] at e; cases e
  | some ob =>
    have z := X _ _ q
    rw [ho] at z
    cases z
    obtain ⟨c1, c2, c3, c4⟩ := o
    cases (show c3 = _ from hd)
    rw [q] at e
    dsimp only at e
    unfold nsFind findBy
    rw [← Array.find?_toList]
    cases f : es.toList.find? (fun x => x.key.isStr "sys.int_max_str_digits") with
    | none => rfl
    | some en => rw [f] at e; cases e
variable {CX : CXT} {k n : Nat} {f : Addr} {fd : FuncData} {ps ks : List Str} {sp : Sp} {E : XK} {x : Str} {p pos : Pos}
  {kws : List Keyword} {tk : TA} {g : List Value → List Value → List Value} {gV : List V → List V → List V}
theorem kbn_mk {K : PySem.W.Frag} {y qual : Str} {params : Arguments} {body : List Stmt} {scope : Scope} {kwd : List (Str × V)}
    (F : FunD K y qual params body scope [] kwd f fd)
    (hrel : ∀ {vs zs : List V} {us ws : List Value}, Vals vs us → Vals zs ws → Vals (gV vs zs) (g us ws))
    (h : ∀ (kV doc pm : Value) (an : Option Addr) (cdv ct : Value) (us ws : List Value), us.length = n → ws.length = ks.length →
      bindArgs (PySem.W.fnOf y qual params body scope .none kV doc pm an cdv ct) ⟨us, ks.zip ws⟩ = pure (ps.zip (g us ws))) :
    KBn K fd ps n ks g gV := by
  obtain ⟨oc, od, dV, kV, doc, pm, an, cdv, ct, osl, rfl, lk, hcd, hD, hK⟩ := F.ex
  rcases hD with ⟨_, rfl⟩ | ⟨e, _⟩
  · exact ⟨fun s us ws X l1 l2 => .of_eq (h kV doc pm an cdv ct us ws l1 l2), hrel⟩
  · exact absurd rfl e
end
section
variable {P : Program} {w : World} {K : PySem.W.Frag} {mg : Str → Option Value} {base : Heap}
theorem okGD {CX : CXT} {x qual : Str} {params : Arguments} {body : List Stmt} {scope : Scope} {dvs : List V} {kws : List (Str × V)}
    {f : Addr} {fd : FuncData} {N ps : List Str} {k : Nat} {sp : Sp}
    (F : FunD K x qual params body scope dvs kws f fd) (S : FnScope N ps scope)
    (ar : ∀ vs H Q E, sp vs H Q E → vs.length = ps.length)
    (hb : ∀ (cdv : Value) (A : Around) (outer : List Env) (s : Shared) (H : Hp) (vs : List V) (Q : VK) (E : XK),
      A.guards = some [] → Room k (A.deeper (envOfC qual scope s.heap.objs.size f cdv)) → sp vs H Q E →
      ∃ t, PSs (cxOf CX P w K mg base N qual scope f cdv A outer s H E) body t ∧
        t { nx := fun _ H' => Q .non H', rt := Q } (start N vs) H) :
    FnG P w K mg base CX (k + 1) f fd ps sp := by
  obtain ⟨_, _, _, _, _, _, _, cdv, _, _, rfl, lk, hcd, _, _⟩ := F.ex
  exact fnG_body lk hcd S ar fun A outer s H vs Q E hg hr hsp => hb cdv A outer s H vs Q E hg hr hsp
end
structure Bi (mg : Str → Option Value) : Prop where
  len : mg "len" = none
  range : mg "range" = none
  isinstance : mg "isinstance" = none
  all : mg "all" = none
  any : mg "any" = none
  abs : mg "abs" = none
  int : mg "int" = none
  max : mg "max" = none
  min : mg "min" = none
  repr : mg "repr" = none
  tuple : mg "tuple" = none
  list : mg "list" = none
  str : mg "str" = none
  sorted : mg "sorted" = none
  sum : mg "sum" = none
  zip : mg "zip" = none
  enumerate : mg "enumerate" = none
  reversed : mg "reversed" = none
  divmod : mg "divmod" = none
  dict : mg "dict" = none
  set : mg "set" = none
  bool : mg "bool" = none
  ValueError : mg "ValueError" = none
def biFa : List He.Fa := [.free "len", .free "range", .free "isinstance", .free "all", .free "any", .free "abs", .free "int",
  .free "max", .free "min", .free "repr", .free "tuple", .free "list", .free "str", .free "sorted", .free "sum", .free "zip",
  .free "enumerate", .free "reversed", .free "divmod", .free "dict", .free "set", .free "bool", .free "ValueError"]
theorem bi_of {K : PySem.W.Frag} {h : Heap} {mg : Str → Option Value} (X : K.In h) (G : h.Ns mainGlobals mg)
    (c : ∀ (i : Nat) (f : He.Fa), biFa[i]? = some f → f.ok K = true) : Bi mg :=
  ⟨He.free_ok X G (c 0 _ rfl), He.free_ok X G (c 1 _ rfl), He.free_ok X G (c 2 _ rfl), He.free_ok X G (c 3 _ rfl),
   He.free_ok X G (c 4 _ rfl), He.free_ok X G (c 5 _ rfl), He.free_ok X G (c 6 _ rfl), He.free_ok X G (c 7 _ rfl),
   He.free_ok X G (c 8 _ rfl), He.free_ok X G (c 9 _ rfl), He.free_ok X G (c 10 _ rfl), He.free_ok X G (c 11 _ rfl),
   He.free_ok X G (c 12 _ rfl), He.free_ok X G (c 13 _ rfl), He.free_ok X G (c 14 _ rfl), He.free_ok X G (c 15 _ rfl),
   He.free_ok X G (c 16 _ rfl), He.free_ok X G (c 17 _ rfl), He.free_ok X G (c 18 _ rfl), He.free_ok X G (c 19 _ rfl),
   He.free_ok X G (c 20 _ rfl), He.free_ok X G (c 21 _ rfl), He.free_ok X G (c 22 _ rfl)⟩
def ClG (P : Program) (w : World) (K : PySem.W.Frag) (mg : Str → Option Value) (base : Heap) (k : Nat) (x : Str) (ps : List Str) (sp : Sp) : Prop :=
  ∃ f fd, FnG P w K mg base CX0 k f fd ps sp ∧ mg x = some (.ref f) ∧ PySem.W.keepIn K (.ref f) = true ∧ Binds K fd ps []
section
variable {X : Cx} {k j n : Nat} {x : Str} {ps ks : List Str} {sp : Sp} {p pos : Pos} {e : Expr} {es : List Expr} {t tk : TA} {kws : List Keyword} {gV : List V → List V → List V}
theorem pe_clG (c : ClG X.prog X.w X.K X.mg X.base k x ps sp) (gd : X.A.guards = some []) (hr : Room j X.A) (hk : k ≤ j) (hg : Gl X x) (ha : PA X (e :: es) t)
    (hdb : (x == ("__debug__" : Str)) = false := by decide)
    (he : starEach (e :: es) X.env = (false, eval e X.env) :: starEach es X.env := by rfl)
    (hpl : (backTo pos (starEach es X.env)).any (·.1) = false := by rfl) :
    PE X (.Call (.Name x p) (e :: es) [] pos) (tCall sp [] E0 t) :=
  let ⟨_, _, F, hm, kp, b⟩ := c
  pe_callG F gd (hr.mono hk) hg hm kp b .nil pass0 ha hdb he hpl
end
def dig (K : PySem.W.Frag) : Bool := He.eqO (PySem.W.nsIn K cStatics "sys.int_max_str_digits") (some none)
end Gk
namespace Gk
open PySem PySem.Spec PyProof.Rows L2
theorem setT {X : Cx} {pins : List (Addr × Obj)} {σ : L2.St} {H : Hp} {s : Shared} {E : Value → Shared → Prop} {D b : Addr}
    {kvs : List (List Key × V)} {k : List Key} {v : V} {r : Value} {Q : Unit → Shared → Prop} (hu : X.A.units + 1 < cLine)
    (I : L2.Inv X pins σ H s) (hD : H D = some (.dT kvs)) (hb : H b = some (.tup (k.map kV))) (hz : kvs.length < sizeLine) (rv : RelV v r)
    (h : ∀ s', L2.Inv X pins σ (upd H D (.dT (putK kvs k v))) s' → Q () s') :
    wpAny (model X.prog X.w) X.A (dictSet D (.ref b) r) Q E s := by
  obtain ⟨zl, hd, xs, rel, dd⟩ := dt_of I.hok hD
  have hxs : xs.length ≤ sizeLine := (Paired.length rel) ▸ zl
  have hput : (putK kvs k v).length ≤ sizeLine := Nat.le_trans (length_putK kvs k v) hz
  have room : (tupleKind (mixKind X.prog X.w)).room X.A := by
    show X.A.units < cLine
    omega
  apply wpAny_dictSet_heap (hsz := hxs) room (key_of I.hok hb) dd
  intro h' dd' hs
  apply h
  obtain ⟨q, es, ep, hq, h2, h3, h4, _, h5⟩ := dd'
  apply d_write I (by rw [hD]; trivial) hs ⟨q, hq⟩
  refine ⟨hput, hd, _, KT.keeps (rel.put k hb rv) ?_, q, es, ep, hq, h2, h3, h4, h5⟩
  intro c ys ec
  exact (upd_ne (ne_of ec hD nofun)).trans ec
/-- what is asked of {k: v for ..}: D is the new dict -/
def tDcT (wi : TI) (g : TG) (tt : TT) (tk tv : TE) (vs : List Nat) : TE := fun σ H Q =>
  wi σ H fun J H1 => ∀ D, H1 D = none → ∃ W : Nat → Nat → Hp → Prop, (∃ m, W 0 m (upd H1 D (.dT []))) ∧
    ∀ i m H, W i m H → (J.stop i H ∧ Q (.ref D) H) ∨
      (J.go i H ∧ ∃ Nx : Hp → Prop, (∀ H', Nx H' → ∃ m', m' < m ∧ W (i + 1) m' H') ∧
        ∀ x H', J.yld i H x H' → g x (wipe σ vs) H' fun σ2 H2 => wipe σ2 vs = wipe σ vs ∧ tt σ2 H2 fun b H3 =>
          if b = true then tk σ2 H3 fun y H4 => tv σ2 H4 fun z H5 =>
            ∃ kvs k c, y = .ref c ∧ H5 c = some (.tup (List.map kV k)) ∧ H5 D = some (.dT kvs) ∧ kvs.length < sizeLine ∧
              Nx (upd H5 D (.dT (putK kvs k z)))
          else Nx H3)
section
variable {X : Cx} {kx vx tg iter : Expr} {ifs : List Expr} {scope : Scope} {own : List (Str × Nat)} {pos : Pos} {wi : TI} {g : TG} {tt : TT} {tk tv : TE}
theorem pe_dcT (hu : X.A.units + 1 < cLine) (calm : X.calm = true) (nd : X.N.Nodup) (hi : PI X tg iter wi) (ok : BlkOk X.N X.env.scope scope own)
    (hg : ∀ (s : Shared) (H : Hp) (C : Addr) (cl : List (Str × Addr)) (fp : List Addr),
      PG (X.blk s H scope (compEnvC scope cl C X.env) fp) tg g)
    (ht : ∀ (s : Shared) (H : Hp) (C : Addr) (cl : List (Str × Addr)) (fp : List Addr),
      PTs (X.blk s H scope (compEnvC scope cl C X.env) fp) ifs tt)
    (hk : ∀ (s : Shared) (H : Hp) (C : Addr) (cl : List (Str × Addr)) (fp : List Addr),
      PE (X.blk s H scope (compEnvC scope cl C X.env) fp) kx tk)
    (he : ∀ (s : Shared) (H : Hp) (C : Addr) (cl : List (Str × Addr)) (fp : List Addr),
      PE (X.blk s H scope (compEnvC scope cl C X.env) fp) vx tv)
    (fold : ∀ x, foldedSetIterable iter X.env x = pure x := by intro _; rfl) :
    PE X (.DictComp kx vx [⟨tg, iter, ifs, 0⟩] scope pos) (tDcT wi g tt tk tv (own.map (·.2))) := by
  constructor
  intro pins s σ H Q I want
  rw [arm_eval_DictComp]
  have cells : ∀ y ∈ scope.names, y.2 = .free → ∃ c, X.env.cells.lookup y.1 = some c := by
    intro y hy e
    exact (ok.free y hy e).elim (fun k => I.ok.has _ (.inl k)) (fun k => I.ok.has _ (.inr k))
  apply wpAny_comprehension_free (use := none) rfl fold (closure_ok cells) ok.kind
  · intro y hy e
    rw [ok.uniq y hy, e]
  apply thn (hi.run pins s σ H _ I want)
  intro xv s1 hx
  apply thn hx
  rintro itv s2 ⟨it, fp, tn, J, H2, rfl, I2, T, st2, f2, q⟩
  refine wpAny_newObj_type (newEnv_comp ?_)
  obtain ⟨D, hD⟩ : ∃ D, D = s2.heap.objs.size := ⟨_, rfl⟩
  rw [← hD]
  have free : H2 D = none := I2.hok.fresh (Nat.le_of_eq hD.symm)
  obtain ⟨W, ⟨m0, w0⟩, turn⟩ := q D free
  obtain ⟨s3, es3⟩ : ∃ s3 : Shared, s3 = { s2 with heap := s2.heap.push { cls := .type "dict", data := .dict #[] } } := ⟨_, rfl⟩
  have I3 : L2.Inv X pins σ (upd H2 D (.dT [])) s3 := by
    rw [es3]
    apply I2.laid (t' := s2.toks) (fun b o e => Heap.get?_push_of_some _ e) (Nat.le_of_eq hD.symm)
    rw [hD]
    exact dt_empty s2.heap I2.big
  have h3 : s3.heap = s2.heap.push { cls := .type "dict", data := .dict #[] } := by rw [es3]
  have low : ∀ b ∈ fp, b < s2.heap.objs.size := by
    intro b hb
    obtain ⟨o, e, _⟩ := T.obj _ _ st2 b hb
    exact Heap.lt_size e
  have f3 : ∀ b ∈ fp, FpOk X pins (upd H2 D (.dT [])) b ∧ b < s3.heap.objs.size := by
    intro b hb
    have lt := low b hb
    have ne : b ≠ D := by rw [hD]; exact Nat.ne_of_lt lt
    refine ⟨⟨(upd_ne ne).trans (f2 b hb).1, (f2 b hb).2⟩, ?_⟩
    rw [h3, Heap.size_push]
    exact Nat.lt_succ_of_lt lt
  have st3 : tn 0 s3.heap := by
    apply T.keep _ _ _ st2
    intro b _ o e
    rw [h3]
    exact Heap.get?_push_of_some _ e
  have I4 := block_start I3 ok nd f3
  have nofp : ∀ b ∈ fp, upd H2 D (.dT []) b = none := fun b hb => (f3 b hb).1.1
  have rules := And.intro (hg s3 (upd H2 D (.dT [])) s3.heap.objs.size (cellsFrom (s3.heap.objs.size + 1) scope.names (cloFrom X.env.cells scope.names [])) fp)
    (And.intro (ht s3 (upd H2 D (.dT [])) s3.heap.objs.size (cellsFrom (s3.heap.objs.size + 1) scope.names (cloFrom X.env.cells scope.names [])) fp)
    (And.intro (hk s3 (upd H2 D (.dT [])) s3.heap.objs.size (cellsFrom (s3.heap.objs.size + 1) scope.names (cloFrom X.env.cells scope.names [])) fp)
      (he s3 (upd H2 D (.dT [])) s3.heap.objs.size (cellsFrom (s3.heap.objs.size + 1) scope.names (cloFrom X.env.cells scope.names [])) fp)))
  rw [← es3]
  show codeAny _ _ (.compStart _ 0 (.ref it) (.ref D) (compEnvC scope (cellsFrom (s3.heap.objs.size + 1) scope.names (cloFrom X.env.cells scope.names [])) s3.heap.objs.size X.env))
    (compPost (model X.prog X.w) X.A X.xe none _ (.ref D) s3.heap.objs.size)
    { s3 with heap := pushCells (s3.heap.push { cls := .type "dict", data := .dict #[] }) scope.names }
  obtain ⟨ce, hce⟩ : ∃ ce, ce = compEnvC scope (cellsFrom (s3.heap.objs.size + 1) scope.names (cloFrom X.env.cells scope.names [])) s3.heap.objs.size X.env := ⟨_, rfl⟩
  have own0 : ce.locals = s3.heap.objs.size := by rw [hce]; rfl
  rw [← hce] at I4 rules ⊢
  obtain ⟨H3, hH3⟩ : ∃ H3, H3 = upd H2 D (.dT []) := ⟨_, rfl⟩
  rw [← hH3] at I3 I4 rules w0 nofp f3
  obtain ⟨s4, hs4⟩ : ∃ s4 : Shared, s4 = { s3 with heap := pushCells (s3.heap.push { cls := .type "dict", data := .dict #[] }) scope.names } := ⟨_, rfl⟩
  rw [← hs4] at I4 ⊢
  have st4 : tn 0 s4.heap := by
    apply T.keep _ _ _ st3
    intro b _ o e
    rw [hs4]
    exact pushCells_keeps _ _ _ _ (Heap.get?_push_of_some _ e)
  have foot : ∀ {σ' : L2.St} {H' : Hp} {s' : Shared}, L2.Inv (X.blk s3 H3 scope ce fp) [] σ' H' s' → (∀ b ∈ fp, H' b = none) →
      ∀ b ∈ fp, FpOk (X.blk s3 H3 scope ce fp) [] H' b := by
    intro σ' H' s' J' hn b hb
    refine ⟨hn b hb, (J'.ok.exf b hb).1, J'.ok.exfs b hb, .inl hb, fun x c e => (J'.ok.exf b hb).2 x c e, ?_⟩
    intro p hp
    exact absurd (show p ∈ ([] : List (Addr × Obj)) ++ [] from hp) (by simp)
  have loop : codeAny (model X.prog X.w) X.A (.compLoop (.DictComp kx vx [⟨tg, iter, ifs, 0⟩] scope pos) 0 (.ref it) (.ref D) ce)
      (compPost (model X.prog X.w) X.A X.xe none (EP X pins σ Q) (.ref D) s3.heap.objs.size) s4 := by
    apply compLoop_anyD (fun n s' => ∃ i H', L2.Inv (X.blk s3 H3 scope ce fp) [] (wipe σ (own.map (·.2))) H' s' ∧
      tn i s'.heap ∧ (∀ b ∈ fp, H' b = none) ∧ W i n H') _ m0 ⟨0, H3, I4, st4, nofp, w0⟩
    rintro n s5 ⟨i, H5, I5, st5, n5, w5⟩
    rcases turn i n H5 w5 with ⟨stop, done⟩ | ⟨go, Nx, hNx, step⟩
    · apply thnF (T.done (X.blk s3 H3 scope ce fp) rfl rfl rfl calm i [] s5 _ H5 (fun _ _ => False) I5 (foot I5 n5) st5 stop)
      rintro r s6 ⟨rfl, I6⟩
      have back : L2.Inv X pins σ H5 s6 := by
        apply I3.call' (ch := fp) I6.os I6.base I6.hok I6.bare
        intro b hb
        have z := (f3 b hb).1.2
        exact ⟨z.2.2.1, z.1, z.2.2.2.1, z.2.2.2.2⟩
      have nC : H5 s3.heap.objs.size = none := own0 ▸ (show H5 ce.locals = none from I6.free)
      obtain ⟨m, hn, _⟩ := I6.loc
      have hn' : s6.heap.Ns s3.heap.objs.size m := own0 ▸ (show s6.heap.Ns ce.locals m from hn)
      obtain ⟨g0, g1, g2, g3, g4, g5⟩ := I3.fpOk (Nat.le_refl _) nC
      refine ⟨m, hn', fun h'' sb => ⟨.ref D, H5, ?_, rfl, done⟩⟩
      exact back.turned (t' := s6.toks) (fun b o hb e => (sb.2 b hb).trans e) g0 g1 g3 g4 g5
    · apply thnF (T.item (X.blk s3 H3 scope ce fp) rfl rfl rfl calm i [] s5 _ H5 (fun _ _ => False) I5 (foot I5 n5) st5 go)
      rintro r s6 ⟨u, rfl, h6⟩
      apply thnF h6
      rintro _ s7 ⟨x, H7, I7, r7, y7, st7, n7⟩
      have P7 := I7.pinned (foot I7 n7) (T.obj _ _ st7)
      apply thnF (rules.1.run _ s7 _ H7 x u _ P7 r7 (step x H7 y7))
      rintro _ s8 ⟨σ8, H8, I8, hw8, q8⟩
      apply thnF (rules.2.1.run _ s8 σ8 H8 _ I8 q8)
      rintro b s9 ⟨H9, I9, q9⟩
      have fin : ∀ {s' : Shared} {H' : Hp}, L2.Inv (X.blk s3 H3 scope ce fp) ([] ++ pinsAt fp s7.heap) σ8 H' s' → Nx H' →
          ∃ m, m < n ∧ ∃ i H', L2.Inv (X.blk s3 H3 scope ce fp) [] (wipe σ (own.map (·.2))) H' s' ∧ tn i s'.heap ∧ (∀ b ∈ fp, H' b = none) ∧ W i m H' := by
        intro s' H' J' nx
        obtain ⟨m', hm, w'⟩ := hNx H' nx
        have pin' : ∀ b ∈ fp, ∀ o, s7.heap.get? b = some o → s'.heap.get? b = some o ∧ H' b = none := by
          intro b hb o e
          have z := J'.pin (b, o) (List.mem_append_right _ (List.mem_append_right _ (mem_pinsAt hb e)))
          exact ⟨z.1, z.2.1⟩
        have hl : (wipe σ (own.map (·.2))).length = σ8.length := by rw [← hw8, wipe_length]
        refine ⟨m', hm, i + 1, H', (J'.unpinned (pins := [])).weak hl ?_, ?_, ?_, w'⟩
        · intro j v e
          rw [← hw8] at e
          exact (wipe_some e).1
        · exact T.keep _ _ _ st7 fun b hb o e => (pin' b hb o e).1
        · intro b hb
          obtain ⟨o, e, _⟩ := T.obj _ _ st7 b hb
          exact (pin' b hb o e).2
      cases b with
      | false =>
        simp only [Bool.false_eq_true, if_false] at q9 ⊢
        exact fin I9 q9
      | true =>
        simp only [if_true] at q9 ⊢
        apply thnF (rules.2.2.1.run _ s9 σ8 H9 _ I9 q9)
        rintro zk s10 ⟨yk, H10, I10, r10, q10⟩
        apply thnF (rules.2.2.2.run _ s10 σ8 H10 _ I10 q10)
        rintro zv s11 ⟨yv, H11, I11, r11, kvs, k, c, rfl, hc11, hD11, hz11, nx⟩
        cases (show zk = Value.ref c from r10)
        exact setT (X := X.blk s3 H3 scope ce fp) hu I11 hD11 hc11 hz11 r11 fun s12 I12 => fin I12 nx
  exact codeAny_compStart_dict loop (T.self X.A 0 _ _ _ st4 loop)
end
end Gk
namespace Gk
open PySem PySem.Spec PyProof.Rows L2
def mergeT (es : List (List Key × Addr × V)) : List (List Key × V) := es.foldl (fun acc e => putK acc e.1 e.2.2) []
/-- a pair of a key and a value -/
def PairT (H : Hp) (p : Addr) (e : List Key × Addr × V) : Prop := H p = some (.tup [.ref e.2.1, e.2.2]) ∧ H e.2.1 = some (.tup (e.1.map kV))
def rDictT : List V → Hp → VK → Prop := fun xs H Q => ∃ (a : Addr) (ps : List Addr) (es : List (List Key × Addr × V)),
  xs = [.ref a] ∧ H a = some (.lst (ps.map V.ref)) ∧ Paired (PairT H) ps es ∧ ∀ q, H q = none → Q (.ref q) (upd H q (.dT (mergeT es)))
section
variable {X : Cx} {pins : List (Addr × Obj)} {σ : L2.St} {H : Hp} {s : Shared}
def RelE (e : List Key × Addr × V) (f : List Key × Addr × Value) : Prop := e.1 = f.1 ∧ e.2.1 = f.2.1 ∧ RelV e.2.2 f.2.2
theorem ents (I : L2.Inv X pins σ H s) : ∀ {ps : List Addr} {es : List (List Key × Addr × V)}, Paired (PairT H) ps es →
    ∃ fs : List (List Key × Addr × Value), Paired RelE es fs ∧ fs.length = ps.length ∧
      ∀ (j : Nat) (q : List Key × Addr × Value), fs[j]? = some q → ∃ b, ps[j]? = some b ∧ s.heap.IsTuple b #[.ref q.2.1, q.2.2]
  | _, _, .nil => ⟨[], .nil, rfl, fun j q e => by simp at e⟩
  | p :: ps, e :: es, .cons h t => by
    obtain ⟨fs, r, hl, hp⟩ := ents I t
    obtain ⟨_, its, rv, ht⟩ := I.hok _ _ h.1
    obtain ⟨u, y, rfl, ru, ry⟩ := vals2 rv
    cases (show u = Value.ref _ from ru)
    refine ⟨(e.1, e.2.1, y) :: fs, .cons ⟨rfl, rfl, ry⟩ r, by rw [List.length_cons, List.length_cons, hl], fun j q eq => ?_⟩
    cases j with
    | zero =>
      cases (Option.some.inj eq)
      obtain ⟨o, h1, h2, n, h3⟩ := ht
      exact ⟨p, rfl, ⟨o, h1, h2, n, h3⟩⟩
    | succ j =>
      obtain ⟨b, e1, e2⟩ := hp j q (by simpa using eq)
      exact ⟨b, by simpa using e1, e2⟩
theorem stored_all {H : Hp} : ∀ {es : List (List Key × Addr × V)} {fs : List (List Key × Addr × Value)} {acc : List (List Key × V)} {bcc : List (List Key × Addr × Value)},
    Paired RelE es fs → (∀ e ∈ es, H e.2.1 = some (.tup (e.1.map kV))) → KT H acc bcc →
    KT H (es.foldl (fun acc e => putK acc e.1 e.2.2) acc) (storedAllH bcc fs)
  | _, _, _, _, .nil, _, k => k
  | e :: es, f :: fs, acc, bcc, .cons h t, hk, k => by
    obtain ⟨h1, h2, h3⟩ := h
    have he := hk e (List.mem_cons_self ..)
    have := stored_all (acc := putK acc e.1 e.2.2) (bcc := storedH bcc f.1 f.2.1 f.2.2) t (fun x hx => hk x (List.mem_cons_of_mem _ hx)) (by
      rw [← h1, ← h2]
      exact k.put e.1 he h3)
    exact this
theorem merge_len : ∀ (es : List (List Key × Addr × V)) (acc : List (List Key × V)), (es.foldl (fun acc e => putK acc e.1 e.2.2) acc).length ≤ acc.length + es.length
  | [], acc => Nat.le_refl _
  | e :: es, acc => by
    have h1 := merge_len es (putK acc e.1 e.2.2)
    have h2 := length_putK acc e.1 e.2.2
    rw [List.length_cons]
    show (es.foldl _ (putK acc e.1 e.2.2)).length ≤ _
    omega
end
theorem keys_in {H : Hp} : ∀ {ps : List Addr} {es : List (List Key × Addr × V)}, Paired (PairT H) ps es → ∀ e ∈ es, H e.2.1 = some (.tup (e.1.map kV))
  | _, _, .nil, e, he => (List.not_mem_nil he).elim
  | _, _, .cons h t, e, he => (List.mem_cons.mp he).elim (fun z => by rw [z]; exact h.2) (keys_in t e)
theorem rel_mem : ∀ {es : List (List Key × Addr × V)} {fs : List (List Key × Addr × Value)}, Paired RelE es fs → ∀ x ∈ fs, ∃ e ∈ es, e.1 = x.1 ∧ e.2.1 = x.2.1
  | _, _, .nil, x, hx => (List.not_mem_nil hx).elim
  | _, _, .cons h t, x, hx => (List.mem_cons.mp hx).elim (fun z => ⟨_, List.mem_cons_self .., by rw [z]; exact ⟨h.1, h.2.1⟩⟩) fun z => by
    obtain ⟨e, he, q⟩ := rel_mem t x z
    exact ⟨e, List.mem_cons_of_mem _ he, q⟩
theorem call_dictT {X : Cx} (calm : X.calm = true) (hu : X.A.units + 5 < cLine) : CallR X (.type "dict") rDictT := by
  intro pins s σ H xs us Q I r q
  obtain ⟨a, ps, es, rfl, ha, hp, q⟩ := q
  obtain ⟨u, rfl, rx⟩ := vals1 r
  cases (show u = Value.ref a from rx)
  obtain ⟨hz, its, n, rv, ho⟩ := I.hok _ _ ha
  have ei := refs_at rv
  subst ei
  obtain ⟨fs, rel, hl, hpr⟩ := ents I hp
  rw [List.length_map] at hz
  have hle := Paired.length hp
  have hkeys := keys_in hp
  have hfs : ∀ x ∈ fs, ∃ e ∈ es, e.1 = x.1 ∧ e.2.1 = x.2.1 := rel_mem rel
  have big := sizeLine_eq
  apply call_dict_pairsH (knd := tupleKind (mixKind X.prog X.w)) (ps := fs)
    (PairArg.list a (ps.map Value.ref).toArray (fun j => ps.getD j 0) (fs.map fun q => (Value.ref q.2.1, q.2.2))) (I.ok.hd calm)
  · show X.A.units + 1 + 1 < cLine
    omega
  · refine ⟨⟨_, n, ho, rfl, rfl, rfl⟩, by simp [hl], ?_⟩
    intro j k v e
    rw [List.getElem?_map] at e
    cases ej : fs[j]? with
    | none => rw [ej] at e; cases e
    | some q =>
      rw [ej] at e
      cases e
      obtain ⟨b, e1, e2⟩ := hpr j q ej
      have eb : ps.getD j 0 = b := by rw [List.getD_eq_getElem?_getD, e1]; rfl
      refine ⟨?_, .inl ?_⟩
      · show (ps.map Value.ref).toArray[j]? = some (Value.ref (ps.getD j 0))
        rw [List.getElem?_toArray, List.getElem?_map, e1, eb]
        rfl
      · show s.heap.IsTuple (ps.getD j 0) _
        rw [eb]
        exact e2
  · refine ⟨by rw [List.length_map], ?_⟩
    intro i key v e
    have e' : (fs.map fun q => (Value.ref q.2.1, q.2.2))[i]? = some (key, v) := e
    rw [List.getElem?_map] at e'
    cases ej : fs[i]? with
    | none => rw [ej] at e'; cases e'
    | some q =>
      rw [ej] at e'
      cases e'
      exact ⟨q.1, q.2.1, rfl, rfl⟩
  · intro h' kept x hx
    obtain ⟨e, he, e1, e2⟩ := hfs x hx
    have hk := key_of I.hok (hkeys e he)
    rw [e1, e2] at hk
    obtain ⟨o, items, m, g1, g2, g3, g4⟩ := hk
    exact ⟨o, items, m, kept _ _ (Nat.ne_of_lt (Heap.lt_size g1)) List.not_mem_nil g1, g2, g3, g4⟩
  · rw [List.length_map, hl]
    exact hz
  · intro h' tk hd' kept
    obtain ⟨o, en, ep, g1, g2, g3, g4, _, g6⟩ := hd'
    have new : ∀ H', (∀ b ys, H b = some (.tup ys) → H' b = some (.tup ys)) → ObjOk X.prog X.w H' h' s.heap.objs.size (.dT (mergeT es)) := fun H' ht => by
      refine ⟨?_, beq_eq_false_iff_ne.mpr (Nat.ne_of_gt I.big), _, KT.keeps (stored_all rel hkeys .nil) ht, o, en, ep, g1, g2, g3, g4, g6⟩
      have := merge_len es []
      show (es.foldl _ []).length ≤ _
      rw [List.length_nil] at this
      omega
    have hn := I.hok.fresh (Nat.le_refl s.heap.objs.size)
    refine ⟨.ref s.heap.objs.size, upd H s.heap.objs.size (.dT (mergeT es)), I.laid (t' := tk) (fun b u e => kept b u List.not_mem_nil e) (Nat.le_refl _) (new _ ?_), rfl, q _ hn⟩
    intro b ys e
    rw [upd_ne (ne_of_none e hn)]
    exact e
end Gk
namespace Gk
open PySem PySem.Spec PyProof.Rows L2
theorem vals_of : ∀ {xs : List V} {us : List Value}, xs.length = us.length → (∀ (j : Nat) (x : V) (u : Value), xs[j]? = some x → us[j]? = some u → RelV x u) → Vals xs us
  | [], [], _, _ => .nil
  | [], _ :: _, e, _ => by simp at e
  | _ :: _, [], e, _ => by simp at e
  | x :: xs, u :: us, e, h => .cons (h 0 x u rfl rfl) (vals_of (by simpa using e) fun j y v h1 h2 => h (j + 1) y v (by simpa using h1) (by simpa using h2))
section
variable {X : Cx}
def signsV (z : Str) : List V := z.cps.toList.map fun c => V.str ⟨#[c]⟩
theorem call_listS (calm : X.calm = true) : CallR X (.type "list") (fun xs H Q => ∃ z : Str, xs = [.str z] ∧ z.length ≤ 100000 ∧ ∀ l, H l = none → Q (.ref l) (upd H l (.lst (signsV z)))) := by
  intro pins s σ H xs us Q I r q
  obtain ⟨z, rfl, hz, q⟩ := q
  obtain ⟨u, rfl, t, rfl⟩ := vals1 r
  have hs : z.cps.size ≤ sizeLine := by
    have h : z.cps.size ≤ 100000 := hz
    rw [sizeLine_eq]
    omega
  apply call_list_str (I.ok.hd calm) z t (hn := hs)
  intro h' tk acc c' hk hS hacc
  have hn := I.hok.fresh (Nat.le_refl s.heap.objs.size)
  refine ⟨.ref s.heap.objs.size, upd H s.heap.objs.size (.lst (signsV z)), I.laid (t' := tk) hk (Nat.le_refl _) ?_, rfl, q _ hn⟩
  refine ⟨?_, acc.toList, c', vals_of ?_ ?_, by simpa using hS⟩
  · show (z.cps.toList.map _).length ≤ _
    rw [List.length_map, Array.length_toList]
    exact hs
  · show (z.cps.toList.map _).length = _
    rw [List.length_map, Array.length_toList, Array.length_toList, hacc.1]
  · intro j x u hx hu
    obtain ⟨c, t', hc, rfl⟩ := hacc.2 j u (by simpa using hu)
    have hx' : (z.cps.toList.map fun c => V.str ⟨#[c]⟩)[j]? = some x := hx
    rw [List.getElem?_map, Array.getElem?_toList, hc] at hx'
    cases hx'
    exact ⟨t', rfl⟩
end
end Gk
namespace Gk
open PySem PySem.Spec PyProof.Rows L2
section
variable {X : Cx}
theorem ix_tupH : IxR X (fun x y H Q => ∃ p xs i v, x = .ref p ∧ y = .int i ∧ H p = some (.tup xs) ∧ atI xs i = some v ∧ Q v H) := by
  intro value slice pins s σ H x y v u Q I rx ry h hs
  obtain ⟨p, xs, i, z, e1, e2, hp, ha, q⟩ := h
  exact ix_tup value slice pins s σ H x y v u Q I rx ry ⟨p, xs, i, z, e1, e2, .inl (.inl hp), ha, q⟩ hs
theorem ix_lstH : IxR X (fun x y H Q => ∃ p xs i v, x = .ref p ∧ y = .int i ∧ H p = some (.lst xs) ∧ atI xs i = some v ∧ Q v H) := by
  intro value slice pins s σ H x y v u Q I rx ry h hs
  obtain ⟨p, xs, i, z, e1, e2, hp, ha, q⟩ := h
  exact ix_list value slice pins s σ H x y v u Q I rx ry ⟨p, xs, i, z, e1, e2, .inl (.inl hp), ha, q⟩ hs
def HasSeq (H : Hp) (p : Addr) (xs : List V) : Prop := H p = some (.lst xs) ∨ H p = some (.tup xs)
theorem HasSeq.sq {K : PySem.W.Frag} {H : Hp} {p : Addr} {xs : List V} (h : HasSeq H p xs) : SqL K H p xs ∨ SqT K H p xs :=
  h.elim (fun z => .inl (.inl (.inl z))) fun z => .inr (.inl (.inl z))
theorem list_ofH : CallR X (.type "list") (fun xs H Q => ∃ p ys, xs = [.ref p] ∧ HasSeq H p ys ∧ ∀ l, H l = none → Q (.ref l) (upd H l (.lst ys))) := by
  intro pins s σ H xs us Q I r h
  obtain ⟨p, ys, e, hp, q⟩ := h
  exact call_list_of pins s σ H xs us Q I r ⟨p, ys, e, hp.sq, q⟩
theorem len_H : CallR X (.builtin "len") (fun xs H Q => ∃ p ys, xs = [.ref p] ∧ HasSeq H p ys ∧ Q (.int ys.length) H) := by
  intro pins s σ H xs us Q I r h
  obtain ⟨p, ys, e, hp, q⟩ := h
  exact call_len_seq pins s σ H xs us Q I r ⟨p, ys, e, hp.sq, q⟩
theorem in_H : OpR X (compareOp .In) (fun x y H Q => ∃ p xs, y = .ref p ∧ HasSeq H p xs ∧ flatV x = true ∧ xs.all flatV = true ∧ Q (.bl (inV x xs)) H) := by
  intro pins s σ H x y v u Q I rx ry h
  obtain ⟨p, xs, e, hp, f1, f2, q⟩ := h
  exact op_in_seq pins s σ H x y v u Q I rx ry ⟨p, xs, e, hp.sq, f1, f2, q⟩
end
end Gk
namespace Gk
open PySem PySem.Spec PyProof.Rows L2
theorem hu5_of {k : Nat} {A : Around} (h : Room k A) : A.units + 5 < cLine := by
  have := h.un
  omega
end Gk
namespace Gk
open PySem PySem.Spec PyProof.Rows L2
end Gk
namespace Gk
open PySem PySem.Spec PyProof.Rows L2
end Gk
namespace Vm
open PySem PySem.Spec PyProof.Rows L2
def tabsG : List NdefX.NTab := []
end Vm
namespace Vm
open PySem PySem.Spec PyProof.Rows L2 Gk
abbrev LIM : Nat := 1000000
abbrev SLIM : Nat := 16000000
/-- data; a dict's keys are ints and texts, or tuples of these -/
inductive Da where
  | none
  | bool (b : Bool)
  | int (i : Int)
  | str (s : Str)
  | list (xs : List Da)
  | tuple (xs : List Da)
  | dk (kvs : List (Key × Da))
  | dt (kvs : List (List Key × Da))
/-- a list of the module's own top -/
def KL (K : PySem.W.Frag) (a : Addr) (xs : List V) : Prop :=
  ∃ (o : Obj) (its : Array Value) (n : Nat), K.lookup a = some o ∧ o.cls = .type "list" ∧ o.dict = none ∧ o.data = .seq its n ∧ its.size ≤ sizeLine ∧ Vals xs its.toList
def KeyOk : Key → Prop
  | .inl _ => True
  | .inr s => s.length ≤ SLIM
mutual
inductive Dz (K : PySem.W.Frag) (p : List Addr) (H : Hp) : V → Da → Prop
  | non : Dz K p H .non .none
  | bl (b : Bool) : Dz K p H (.bl b) (.bool b)
  | int (i : Int) : Dz K p H (.int i) (.int i)
  | str (x : Str) : x.length ≤ SLIM → Dz K p H (.str x) (.str x)
  | lst {a : Addr} {xs : List V} {ds : List Da} : a ∉ p → H a = some (.lst xs) → xs.length ≤ LIM → DzA K p H xs ds → Dz K p H (.ref a) (.list ds)
  | tup {a : Addr} {xs : List V} {ds : List Da} : H a = some (.tup xs) → xs.length ≤ LIM → DzA K p H xs ds → Dz K p H (.ref a) (.tuple ds)
  | dk {a : Addr} {xs : List (Key × V)} {ds : List (Key × Da)} : a ∉ p → Rd H a (.dK xs) → xs.length ≤ LIM → DzK K p H xs ds → Dz K p H (.ref a) (.dk ds)
  | dt {a : Addr} {xs : List (List Key × V)} {ds : List (List Key × Da)} : a ∉ p → Rd H a (.dT xs) → xs.length ≤ LIM → DzT K p H xs ds → Dz K p H (.ref a) (.dt ds)
inductive DzA (K : PySem.W.Frag) (p : List Addr) (H : Hp) : List V → List Da → Prop
  | nil : DzA K p H [] []
  | cons {v : V} {vs : List V} {d : Da} {ds : List Da} : Dz K p H v d → DzA K p H vs ds → DzA K p H (v :: vs) (d :: ds)
inductive DzK (K : PySem.W.Frag) (p : List Addr) (H : Hp) : List (Key × V) → List (Key × Da) → Prop
  | nil : DzK K p H [] []
  | cons {k : Key} {v : V} {r : List (Key × V)} {d : Da} {s : List (Key × Da)} : KeyOk k → Dz K p H v d → DzK K p H r s → DzK K p H ((k, v) :: r) ((k, d) :: s)
inductive DzT (K : PySem.W.Frag) (p : List Addr) (H : Hp) : List (List Key × V) → List (List Key × Da) → Prop
  | nil : DzT K p H [] []
  | cons {k : List Key} {v : V} {r : List (List Key × V)} {d : Da} {s : List (List Key × Da)} : (∀ x ∈ k, KeyOk x) ∧ k.length ≤ LIM → Dz K p H v d → DzT K p H r s → DzT K p H ((k, v) :: r) ((k, d) :: s)
end
def HO.isTbl : HO → Bool
  | .tbl _ => true
  | _ => false
structure Tr (p : List Addr) (H : Hp) (p' : List Addr) (H' : Hp) : Prop where
  mt : ∀ a u, HO.isTbl u = false → a ∉ p → Rd H a u → Rd H' a u ∧ a ∉ p'
  ls : ∀ a xs, a ∉ p → H a = some (.lst xs) → H' a = some (.lst xs)
  tp : ∀ a xs, H a = some (.tup xs) → H' a = some (.tup xs)
  fz : ∀ a o u, a ∉ p → H a = some (.frz o u) → H' a = some (.frz o u)
section
variable {K : PySem.W.Frag} {p p' : List Addr} {H H' : Hp}
mutual
theorem Dz.tr (t : Tr p H p' H') : ∀ {v : V} {d : Da}, Dz K p H v d → Dz K p' H' v d
  | _, _, .non => .non
  | _, _, .bl b => .bl b
  | _, _, .int i => .int i
  | _, _, .str x h => .str x h
  | _, _, .lst n r l h => .lst (t.mt _ _ rfl n (.inl r)).2 (t.ls _ _ n r) l (DzA.tr t h)
  | _, _, .tup r l h => .tup (t.tp _ _ r) l (DzA.tr t h)
  | _, _, .dk n r l h => .dk (t.mt _ _ rfl n r).2 (t.mt _ _ rfl n r).1 l (DzK.tr t h)
  | _, _, .dt n r l h => .dt (t.mt _ _ rfl n r).2 (t.mt _ _ rfl n r).1 l (DzT.tr t h)
theorem DzA.tr (t : Tr p H p' H') : ∀ {v : List V} {d : List Da}, DzA K p H v d → DzA K p' H' v d
  | _, _, .nil => .nil
  | _, _, .cons h r => .cons (Dz.tr t h) (DzA.tr t r)
theorem DzK.tr (t : Tr p H p' H') : ∀ {v : List (Key × V)} {d : List (Key × Da)}, DzK K p H v d → DzK K p' H' v d
  | _, _, .nil => .nil
  | _, _, .cons k h r => .cons k (Dz.tr t h) (DzK.tr t r)
theorem DzT.tr (t : Tr p H p' H') : ∀ {v : List (List Key × V)} {d : List (List Key × Da)}, DzT K p H v d → DzT K p' H' v d
  | _, _, .nil => .nil
  | _, _, .cons k h r => .cons k (Dz.tr t h) (DzT.tr t r)
end
theorem DzA.length : ∀ {v : List V} {d : List Da}, DzA K p H v d → v.length = d.length
  | _, _, .nil => rfl
  | _, _, .cons _ r => congrArg (· + 1) (DzA.length r)
theorem DzK.length : ∀ {v : List (Key × V)} {d : List (Key × Da)}, DzK K p H v d → v.length = d.length
  | _, _, .nil => rfl
  | _, _, .cons _ _ r => congrArg (· + 1) (DzK.length r)
theorem DzT.length : ∀ {v : List (List Key × V)} {d : List (List Key × Da)}, DzT K p H v d → v.length = d.length
  | _, _, .nil => rfl
  | _, _, .cons _ _ r => congrArg (· + 1) (DzT.length r)
theorem DzA.append : ∀ {v w : List V} {d e : List Da}, DzA K p H v d → DzA K p H w e → DzA K p H (v ++ w) (d ++ e)
  | _, _, _, _, .nil, s => s
  | _, _, _, _, .cons h r, s => .cons h (DzA.append r s)
theorem DzA.take : ∀ {v : List V} {d : List Da} (n : Nat), DzA K p H v d → DzA K p H (v.take n) (d.take n)
  | _, _, 0, _ => .nil
  | _, _, _ + 1, .nil => .nil
  | _, _, n + 1, .cons h r => .cons h (DzA.take n r)
theorem DzA.drop : ∀ {v : List V} {d : List Da} (n : Nat), DzA K p H v d → DzA K p H (v.drop n) (d.drop n)
  | _, _, 0, r => r
  | _, _, _ + 1, .nil => .nil
  | _, _, n + 1, .cons _ r => DzA.drop n r
theorem DzA.get : ∀ {v : List V} {d : List Da} {i : Nat} {x : Da}, DzA K p H v d → d[i]? = some x → ∃ y, v[i]? = some y ∧ Dz K p H y x
  | _, _, _, _, .nil, e => by simp at e
  | _, _, 0, _, .cons h _, e => by simp at e; subst e; exact ⟨_, rfl, h⟩
  | _, _, i + 1, x, .cons _ r, e => by
    obtain ⟨y, h1, h2⟩ := DzA.get (i := i) (x := x) r (by simpa using e)
    exact ⟨y, by simpa using h1, h2⟩
theorem DzA.set : ∀ {v : List V} {d : List Da} (i : Nat) {y : V} {x : Da}, DzA K p H v d → Dz K p H y x → DzA K p H (v.set i y) (d.set i x)
  | _, _, _, _, _, .nil, _ => .nil
  | _, _, 0, _, _, .cons _ r, h => .cons h r
  | _, _, i + 1, _, _, .cons h r, q => .cons h (DzA.set i r q)
theorem DzA.reverse {v : List V} {d : List Da} (h : DzA K p H v d) : DzA K p H v.reverse d.reverse := by
  induction v generalizing d with
  | nil => cases h; exact .nil
  | cons a r ih =>
    cases h with
    | cons h1 h2 =>
      rw [List.reverse_cons, List.reverse_cons]
      exact (ih h2).append (.cons h1 .nil)
end
end Vm
namespace Vm
open PySem PySem.Spec PyProof.Rows L2 Gk
/-- what stands at a, exactly, or seen through a lock -/
def Ho (lk : Bool) (H : Hp) (a : Addr) (u : HO) : Prop := if lk = true then Rd H a u else H a = some u
/-- an own list or dict whose parts are data -/
def Top (K : PySem.W.Frag) (p : List Addr) (H : Hp) (lk : Bool) (a : Addr) : Da → Prop
  | .list xs => ∃ vs, H a = some (.lst vs) ∧ vs.length ≤ LIM ∧ DzA K p H vs xs
  | .dk kvs => ∃ xs, Ho lk H a (.dK xs) ∧ xs.length ≤ LIM ∧ DzK K p H xs kvs
  | .dt kvs => ∃ xs, Ho lk H a (.dT xs) ∧ xs.length ≤ LIM ∧ DzT K p H xs kvs
  | _ => False
inductive KidsK (K : PySem.W.Frag) (p : List Addr) (H : Hp) : List (Key × V) → List (Key × Da) → List Addr → Prop
  | nil : KidsK K p H [] [] []
  | cons {k : Key} {c : Addr} {r : List (Key × V)} {x : Da} {s : List (Key × Da)} {as : List Addr} : KeyOk k → Top K p H false c x → KidsK K p H r s as → KidsK K p H ((k, .ref c) :: r) ((k, x) :: s) (c :: as)
inductive KidsT (K : PySem.W.Frag) (p : List Addr) (H : Hp) : List (List Key × V) → List (List Key × Da) → List Addr → Prop
  | nil : KidsT K p H [] [] []
  | cons {k : List Key} {c : Addr} {r : List (List Key × V)} {x : Da} {s : List (List Key × Da)} {as : List Addr} : (∀ x ∈ k, KeyOk x) ∧ k.length ≤ LIM → Top K p H false c x → KidsT K p H r s as → KidsT K p H ((k, .ref c) :: r) ((k, x) :: s) (c :: as)
/-- an own dict whose values are own things -/
def Nest (K : PySem.W.Frag) (p : List Addr) (H : Hp) (lk : Bool) (a : Addr) (as : List Addr) : Da → Prop
  | .dk kvs => ∃ xs, Ho lk H a (.dK xs) ∧ xs.length ≤ LIM ∧ KidsK K p H xs kvs as
  | .dt kvs => ∃ xs, Ho lk H a (.dT xs) ∧ xs.length ≤ LIM ∧ KidsT K p H xs kvs as
  | _ => False
/-- a slot: unset, data, an own thing (fx: the name stays with it; lk: it is not changed), a nested one, the script -/
inductive AV where
  | un
  | d (x : Da)
  | r (fx lk : Bool) (x : Da)
  | n (fx lk : Bool) (x : Da)
  | sc (ns : List Int)
  | g (φ : List Addr → Hp → Addr → Prop)
abbrev AS := List AV
def AV.isRoot : AV → Bool
  | .r _ _ _ => true
  | .n _ _ _ => true
  | _ => false
def AV.isFix : AV → Bool
  | .r f _ _ => f
  | .n f _ _ => f
  | _ => false
def AV.isLk : AV → Bool
  | .r _ l _ => l
  | .n _ l _ => l
  | _ => false
/-- what a slot shows -/
def AV.see : AV → Option Da
  | .d x => some x
  | .r _ _ x => some x
  | _ => none
/-- what a slot holds for good -/
def AV.get : AV → Option Da
  | .d x => some x
  | _ => none
def SlotR (K : PySem.W.Frag) (p : List Addr) (H : Hp) (o : Option V) (f : List Addr) : AV → Prop
  | .un => f = []
  | .d x => f = [] ∧ ∃ v, o = some v ∧ Dz K p H v x
  | .r _ lk x => ∃ a, o = some (.ref a) ∧ f = [a] ∧ Top K p H lk a x
  | .n _ lk x => ∃ a as, o = some (.ref a) ∧ f = a :: as ∧ Nest K p H lk a as x
  | .sc ns => f = [] ∧ ∃ a, o = some (.ref a) ∧ ((a ∉ p ∧ Rd H a (.lst (ns.map V.int))) ∨ KL K a (ns.map V.int))
  | .g φ => f = [] ∧ ∃ a, o = some (.ref a) ∧ φ p H a ∧ ∀ p1 H1 p2 H2, Tr p1 H1 p2 H2 → φ p1 H1 a → φ p2 H2 a
/-- the tables of code: they stand, and no slot owns them -/
def TabP (p : List Addr) (H : Hp) : Prop := NdefX.TabsN tabsG H ∧ ∀ q ∈ tabsG, q.1 ∉ p
abbrev FT := Nat → List Addr
structure Rel (K : PySem.W.Frag) (p : List Addr) (H : Hp) (σ : L2.St) (α : AS) (A : FT) : Prop where
  len : σ.length = α.length
  sl : ∀ (i : Nat) (r : AV), α[i]? = some r → SlotR K p H (σ[i]?).join (A i) r
  out : ∀ i : Nat, α[i]? = none → A i = []
  nd : ∀ i, (A i).Nodup
  dj : ∀ i j a, a ∈ A i → a ∈ A j → i = j
  inp : ∀ i a, a ∈ A i → a ∈ p
  al : ∀ a ∈ p, H a ≠ none
  tb : TabP p H
def HO.isDict : HO → Bool
  | .dK _ => true
  | .dT _ => true
  | _ => false
/-- what was there is there; a dict of data may have been locked for good -/
def Kept (p : List Addr) (b : Addr) (o : HO) (H' : Hp) : Prop := H' b = some o ∨ (b ∉ p ∧ HO.isDict o = true ∧ ∃ od, H' b = some (.frz od o))
/-- a slot that stays: its flags; a locked one is as it was -/
structure Kin (r r' : AV) : Prop where
  fx : r'.isFix = r.isFix
  lk : r'.isLk = r.isLk
  rt : r'.isRoot = r.isRoot
  eq : r.isLk = true → r' = r
theorem Kin.refl {r : AV} : Kin r r := ⟨rfl, rfl, rfl, fun _ => rfl⟩
theorem Kin.trans {r s t : AV} (a : Kin r s) (b : Kin s t) : Kin r t := ⟨b.fx.trans a.fx, b.lk.trans a.lk, b.rt.trans a.rt, fun h => (b.eq (a.lk.trans h)).trans (a.eq h)⟩
structure Step (p : List Addr) (H : Hp) (σ : L2.St) (α : AS) (A : FT) (p' : List Addr) (H' : Hp) (σ' : L2.St) (α' : AS) (A' : FT) : Prop where
  keep : ∀ b o, HO.isTbl o = false → H b = some o → (∀ i, b ∉ A i) → Kept p b o H'
  dom : ∀ b, H' b = none → H b = none
  new : ∀ i b, b ∈ A' i → b ∈ A i ∨ H b = none
  sub : ∀ b ∈ p', b ∈ p ∨ H b = none
  mono : ∀ b ∈ p, b ∈ p' ∨ ∃ i, b ∈ A i
  ln : α'.length = α.length
  fix : ∀ (i : Nat) (r : AV), α[i]? = some r → r.isFix = true → σ'[i]? = σ[i]? ∧ ∃ r', α'[i]? = some r' ∧ Kin r r'
  nof : ∀ (i : Nat) (r : AV), α'[i]? = some r → r.isFix = true → ∃ q, α[i]? = some q ∧ q.isFix = true
section
variable {K : PySem.W.Frag} {p p' p2 : List Addr} {H H' H2 : Hp} {σ σ' σ2 : L2.St} {α α' α2 : AS} {A A' A2 : FT}
theorem isRoot_of_isFix {r : AV} (h : r.isFix = true) : r.isRoot = true := by
  cases r <;> first | rfl | cases h
theorem Rd.ne_none {a : Addr} {u : HO} (h : Rd H a u) : H a ≠ none := by
  rcases h with h | ⟨_, h⟩ <;> rw [h] <;> intro z <;> cases z
theorem Rd.same {a : Addr} (s : ∀ o, H a = some o → H' a = some o) {u : HO} (h : Rd H a u) : Rd H' a u := by
  rcases h with h | ⟨o, h⟩
  · exact .inl (s _ h)
  · exact .inr ⟨o, s _ h⟩
theorem Ho.rd {lk : Bool} {a : Addr} {u : HO} (h : Ho lk H a u) : Rd H a u := by
  unfold Ho at h
  split at h
  · exact h
  · exact .inl h
theorem Ho.ex {a : Addr} {u : HO} (h : Ho false H a u) : H a = some u := by
  unfold Ho at h
  rwa [if_neg (by simp)] at h
theorem Ho.of {lk : Bool} {a : Addr} {u : HO} (h : H a = some u) : Ho lk H a u := by
  unfold Ho
  split
  · exact .inl h
  · exact h
theorem Ho.lkd {a : Addr} {u : HO} (h : Rd H a u) : Ho true H a u := by
  unfold Ho
  rw [if_pos rfl]
  exact h
theorem Ho.same {lk : Bool} {a : Addr} (s : ∀ o, H a = some o → H' a = some o) {u : HO} (h : Ho lk H a u) : Ho lk H' a u := by
  cases lk with
  | true => exact .lkd (Rd.same s h.rd)
  | false => exact .of (s _ h.ex)
theorem Top.tr {lk : Bool} {a : Addr} {x : Da} (t : Tr p H p' H') (s : ∀ o, H a = some o → H' a = some o) (h : Top K p H lk a x) : Top K p' H' lk a x := by
  cases x with
  | list xs => obtain ⟨vs, h1, h2, h3⟩ := h; exact ⟨vs, s _ h1, h2, h3.tr t⟩
  | dk xs => obtain ⟨vs, h1, h2, h3⟩ := h; exact ⟨vs, h1.same s, h2, h3.tr t⟩
  | dt xs => obtain ⟨vs, h1, h2, h3⟩ := h; exact ⟨vs, h1.same s, h2, h3.tr t⟩
  | _ => exact h.elim
theorem Top.lock {lk : Bool} {a : Addr} {x : Da} (h : Top K p H lk a x) : Top K p H true a x := by
  cases x with
  | list xs => exact h
  | dk xs => obtain ⟨vs, h1, h2, h3⟩ := h; exact ⟨vs, .lkd h1.rd, h2, h3⟩
  | dt xs => obtain ⟨vs, h1, h2, h3⟩ := h; exact ⟨vs, .lkd h1.rd, h2, h3⟩
  | _ => exact h.elim
theorem Top.mut {lk : Bool} {a : Addr} {x : Da} (h : Top K p H lk a x) : ∃ u, Rd H a u ∧ ((∃ vs, u = .lst vs) ∨ (∃ vs, u = .dK vs) ∨ ∃ vs, u = .dT vs) := by
  cases x with
  | list xs => obtain ⟨vs, h1, h2, h3⟩ := h; exact ⟨_, .inl h1, .inl ⟨_, rfl⟩⟩
  | dk xs => obtain ⟨vs, h1, h2, h3⟩ := h; exact ⟨_, h1.rd, .inr (.inl ⟨_, rfl⟩)⟩
  | dt xs => obtain ⟨vs, h1, h2, h3⟩ := h; exact ⟨_, h1.rd, .inr (.inr ⟨_, rfl⟩)⟩
  | _ => exact h.elim
theorem KidsK.tr (t : Tr p H p' H') : ∀ {r : List (Key × V)} {s : List (Key × Da)} {as : List Addr}, (∀ c ∈ as, ∀ o, H c = some o → H' c = some o) → KidsK K p H r s as → KidsK K p' H' r s as
  | _, _, _, _, .nil => .nil
  | _, _, _, k, .cons h1 h2 h3 => .cons h1 (h2.tr t (k _ (List.mem_cons_self ..))) (KidsK.tr t (fun c m => k c (List.mem_cons_of_mem _ m)) h3)
theorem KidsT.tr (t : Tr p H p' H') : ∀ {r : List (List Key × V)} {s : List (List Key × Da)} {as : List Addr}, (∀ c ∈ as, ∀ o, H c = some o → H' c = some o) → KidsT K p H r s as → KidsT K p' H' r s as
  | _, _, _, _, .nil => .nil
  | _, _, _, k, .cons h1 h2 h3 => .cons h1 (h2.tr t (k _ (List.mem_cons_self ..))) (KidsT.tr t (fun c m => k c (List.mem_cons_of_mem _ m)) h3)
theorem Nest.tr {lk : Bool} {a : Addr} {as : List Addr} {x : Da} (t : Tr p H p' H') (s : ∀ c ∈ a :: as, ∀ o, H c = some o → H' c = some o) (h : Nest K p H lk a as x) : Nest K p' H' lk a as x := by
  cases x with
  | dk xs => obtain ⟨vs, h1, h2, h3⟩ := h; exact ⟨vs, h1.same (s a (List.mem_cons_self ..)), h2, h3.tr t fun c m => s c (List.mem_cons_of_mem _ m)⟩
  | dt xs => obtain ⟨vs, h1, h2, h3⟩ := h; exact ⟨vs, h1.same (s a (List.mem_cons_self ..)), h2, h3.tr t fun c m => s c (List.mem_cons_of_mem _ m)⟩
  | _ => exact h.elim
theorem Nest.lock {lk : Bool} {a : Addr} {as : List Addr} {x : Da} (h : Nest K p H lk a as x) : Nest K p H true a as x := by
  cases x with
  | dk xs => obtain ⟨vs, h1, h2, h3⟩ := h; exact ⟨vs, .lkd h1.rd, h2, h3⟩
  | dt xs => obtain ⟨vs, h1, h2, h3⟩ := h; exact ⟨vs, .lkd h1.rd, h2, h3⟩
  | _ => exact h.elim
theorem KidsK.mut : ∀ {r : List (Key × V)} {s : List (Key × Da)} {as : List Addr}, KidsK K p H r s as → ∀ c ∈ as, ∃ u, Rd H c u ∧ ((∃ vs, u = .lst vs) ∨ (∃ vs, u = .dK vs) ∨ ∃ vs, u = .dT vs)
  | _, _, _, .nil, _, m => (List.not_mem_nil m).elim
  | _, _, _, .cons h1 h2 h3, c, m => by
    rcases List.mem_cons.mp m with rfl | m
    · exact h2.mut
    · exact KidsK.mut h3 c m
theorem KidsT.mut : ∀ {r : List (List Key × V)} {s : List (List Key × Da)} {as : List Addr}, KidsT K p H r s as → ∀ c ∈ as, ∃ u, Rd H c u ∧ ((∃ vs, u = .lst vs) ∨ (∃ vs, u = .dK vs) ∨ ∃ vs, u = .dT vs)
  | _, _, _, .nil, _, m => (List.not_mem_nil m).elim
  | _, _, _, .cons h1 h2 h3, c, m => by
    rcases List.mem_cons.mp m with rfl | m
    · exact h2.mut
    · exact KidsT.mut h3 c m
theorem Nest.mut {lk : Bool} {a : Addr} {as : List Addr} {x : Da} (h : Nest K p H lk a as x) : ∀ c ∈ a :: as, ∃ u, Rd H c u ∧ ((∃ vs, u = .lst vs) ∨ (∃ vs, u = .dK vs) ∨ ∃ vs, u = .dT vs) := fun c m => by
  cases x with
  | dk xs =>
    obtain ⟨vs, h1, h2, h3⟩ := h
    rcases List.mem_cons.mp m with rfl | m
    · exact ⟨_, h1.rd, .inr (.inl ⟨_, rfl⟩)⟩
    · exact h3.mut c m
  | dt xs =>
    obtain ⟨vs, h1, h2, h3⟩ := h
    rcases List.mem_cons.mp m with rfl | m
    · exact ⟨_, h1.rd, .inr (.inr ⟨_, rfl⟩)⟩
    · exact h3.mut c m
  | _ => exact h.elim
theorem SlotR.tr {o : Option V} {f : List Addr} {r : AV} (t : Tr p H p' H') (s : ∀ c ∈ f, ∀ u, H c = some u → H' c = some u) (h : SlotR K p H o f r) : SlotR K p' H' o f r := by
  cases r with
  | un => exact h
  | d x => obtain ⟨rfl, v, e, h⟩ := h; exact ⟨rfl, v, e, h.tr t⟩
  | r fx lk x => obtain ⟨a, e, rfl, h⟩ := h; exact ⟨a, e, rfl, h.tr t (s a (List.mem_cons_self ..))⟩
  | n fx lk x => obtain ⟨a, as, e, rfl, h⟩ := h; exact ⟨a, as, e, rfl, h.tr t s⟩
  | sc ns =>
    obtain ⟨rfl, a, e, h⟩ := h
    refine ⟨rfl, a, e, h.elim (fun z => .inl ?_) .inr⟩
    have := t.mt a _ rfl z.1 z.2
    exact ⟨this.2, this.1⟩
  | g φ => obtain ⟨rfl, a, e, h, k⟩ := h; exact ⟨rfl, a, e, k _ _ _ _ t h, k⟩
theorem SlotR.mut {o : Option V} {f : List Addr} {r : AV} (h : SlotR K p H o f r) : ∀ c ∈ f, ∃ u, Rd H c u ∧ ((∃ vs, u = .lst vs) ∨ (∃ vs, u = .dK vs) ∨ ∃ vs, u = .dT vs) := fun c m => by
  cases r with
  | un => rw [show f = [] from h] at m; exact (List.not_mem_nil m).elim
  | d x => rw [h.1] at m; exact (List.not_mem_nil m).elim
  | r fx lk x => obtain ⟨a, e, rfl, h⟩ := h; cases List.mem_singleton.mp m; exact h.mut
  | n fx lk x => obtain ⟨a, as, e, rfl, h⟩ := h; exact h.mut c m
  | sc ns => rw [h.1] at m; exact (List.not_mem_nil m).elim
  | g φ => rw [h.1] at m; exact (List.not_mem_nil m).elim
theorem Rel.has_slot (R : Rel K p H σ α A) {i : Nat} {a : Addr} (h : a ∈ A i) : ∃ r, α[i]? = some r := by
  cases e : α[i]? with
  | some r => exact ⟨r, rfl⟩
  | none => rw [R.out i e] at h; exact (List.not_mem_nil h).elim
theorem Rel.not_tup (R : Rel K p H σ α A) {i : Nat} {a : Addr} {xs : List V} (h : a ∈ A i) (t : H a = some (.tup xs)) : False := by
  obtain ⟨r, e⟩ := R.has_slot h
  obtain ⟨u, q, z⟩ := (R.sl i r e).mut a h
  rcases q with q | ⟨o, q⟩
  · rw [t] at q
    cases q
    rcases z with ⟨_, z⟩ | ⟨_, z⟩ | ⟨_, z⟩ <;> cases z
  · rw [t] at q; cases q
theorem Rel.own_tbl (R : Rel K p H σ α A) {i : Nat} {a : Addr} {u : HO} (h : a ∈ A i) (e : H a = some u) : HO.isTbl u = false := by
  obtain ⟨r, er⟩ := R.has_slot h
  obtain ⟨v, q, z⟩ := (R.sl i r er).mut a h
  rcases q with q | ⟨o, q⟩
  · rw [e] at q
    cases q
    rcases z with ⟨_, rfl⟩ | ⟨_, rfl⟩ | ⟨_, rfl⟩ <;> rfl
  · rw [e] at q
    cases q
    rfl
theorem Kept.ex {b : Addr} {o : HO} (h : Kept p b o H') (n : HO.isDict o = false) : H' b = some o := by
  rcases h with h | ⟨_, z, _⟩
  · exact h
  · rw [n] at z; cases z
theorem Kept.exp {b : Addr} {o : HO} (h : Kept p b o H') (n : b ∈ p) : H' b = some o := by
  rcases h with h | ⟨z, _⟩
  · exact h
  · exact (z n).elim
theorem Step.rd (S : Step p H σ α A p' H' σ' α' A') {b : Addr} {u : HO} (hu : HO.isTbl u = false) (h : Rd H b u) (n : ∀ i, b ∉ A i) : Rd H' b u := by
  rcases h with h | ⟨o, h⟩
  · rcases S.keep b _ hu h n with z | ⟨_, _, od, z⟩
    · exact .inl z
    · exact .inr ⟨od, z⟩
  · exact .inr ⟨o, (S.keep b _ rfl h n).ex rfl⟩
theorem Step.tr (R : Rel K p H σ α A) (S : Step p H σ α A p' H' σ' α' A') : Tr p H p' H' := by
  refine ⟨fun a u hu n r => ⟨S.rd hu r fun i h => n (R.inp i a h), fun m => ?_⟩, fun a xs n r => (S.keep a _ rfl r fun i h => n (R.inp i a h)).ex rfl, fun a xs r => (S.keep a _ rfl r fun i h => R.not_tup h r).ex rfl, fun a o u n r => (S.keep a _ rfl r fun i h => n (R.inp i a h)).ex rfl⟩
  rcases S.sub a m with z | z
  · exact n z
  · exact Rd.ne_none r z
theorem Step.refl : Step p H σ α A p H σ α A :=
  ⟨fun _ _ _ h _ => .inl h, fun _ h => h, fun i b h => .inl h, fun _ h => .inl h, fun _ h => .inl h, rfl, fun i r h f => ⟨rfl, r, h, .refl⟩, fun i r h f => ⟨r, h, f⟩⟩
theorem Step.trans (R : Rel K p H σ α A) (S : Step p H σ α A p' H' σ' α' A') (T : Step p' H' σ' α' A' p2 H2 σ2 α2 A2) : Step p H σ α A p2 H2 σ2 α2 A2 where
  keep := fun b o ht h n => by
    have n' : ∀ i, b ∉ A' i := fun i r => by
      rcases S.new i b r with z | z
      · exact n i z
      · rw [h] at z; cases z
    rcases S.keep b o ht h n with z | ⟨z1, z2, od, z3⟩
    · rcases T.keep b o ht z n' with w | ⟨w1, w2, w3⟩
      · exact .inl w
      · refine .inr ⟨fun m => ?_, w2, w3⟩
        rcases S.mono b m with y | ⟨i, y⟩
        · exact w1 y
        · exact n i y
    · exact .inr ⟨z1, z2, od, (T.keep b _ rfl z3 n').ex rfl⟩
  dom := fun b h => S.dom b (T.dom b h)
  new := fun i b h => by
    rcases T.new i b h with z | z
    · exact S.new i b z
    · exact .inr (S.dom b z)
  sub := fun b h => by
    rcases T.sub b h with z | z
    · exact S.sub b z
    · exact .inr (S.dom b z)
  mono := fun b h => by
    rcases S.mono b h with z | z
    · rcases T.mono b z with w | ⟨i, w⟩
      · exact .inl w
      · rcases S.new i b w with y | y
        · exact .inr ⟨i, y⟩
        · exact (R.al b h y).elim
    · exact .inr z
  ln := T.ln.trans S.ln
  fix := fun i r h f => by
    obtain ⟨e1, r1, h1, f1⟩ := S.fix i r h f
    obtain ⟨e2, r2, h2, f2⟩ := T.fix i r1 h1 (f1.fx.trans f)
    exact ⟨e2.trans e1, r2, h2, f1.trans f2⟩
  nof := fun i r h f => by
    obtain ⟨q, h1, f1⟩ := T.nof i r h f
    exact S.nof i q h1 f1
theorem tr_same (s : Same H H') : Tr p H p H' := ⟨fun a u _ n r => ⟨Rd.same (fun o e => s a o e) r, n⟩, fun a xs _ r => s a _ r, fun a xs r => s a _ r, fun a o u _ r => s a _ r⟩
theorem tr_new {L : Addr} (hL : H L = none) (s : Same H H') : Tr p H (L :: p) H' :=
  ⟨fun a u _ n r => ⟨Rd.same (fun o e => s a o e) r, fun m => by
    rcases List.mem_cons.mp m with z | z
    · subst z; exact Rd.ne_none r hL
    · exact n z⟩, fun a xs _ r => s a _ r, fun a xs r => s a _ r, fun a o u _ r => s a _ r⟩
theorem tr_less {q : List Addr} (h : ∀ b ∈ q, b ∈ p) : Tr p H q H := ⟨fun a u _ n r => ⟨r, fun m => n (h a m)⟩, fun a xs _ r => r, fun a xs r => r, fun a o u _ r => r⟩
theorem TabP.same (T : TabP p H) (s : ∀ b o, H b = some o → H' b = some o) : TabP p H' := ⟨T.1.ext s, T.2⟩
/-- what writes at no table and no code -/
theorem TabP.put (T : TabP p H) {q : List Addr} {a : Addr} (s : ∀ b o, b ≠ a → H b = some o → H' b = some o) (na : ∀ o, H a = some o → HO.isTbl o = false ∧ ∀ φ, o ≠ .ext φ) (hq : ∀ b ∈ q, b ∈ p ∨ H b = none) : TabP q H' := by
  refine ⟨fun t mt => ?_, fun t mt m => ?_⟩
  · obtain ⟨ps, h1, h2, h3⟩ := T.1 t mt
    refine ⟨ps, s _ _ (fun z => by rw [z] at h1; have := (na _ h1).1; cases this) h1, h2, fun pos cv hc => ?_⟩
    obtain ⟨c, e1, e2⟩ := h3 pos cv hc
    exact ⟨c, e1, s _ _ (fun z => by rw [z] at e2; exact (na _ e2).2 _ rfl) e2⟩
  · obtain ⟨ps, h1, _⟩ := T.1 t mt
    rcases hq _ m with z | z
    · exact T.2 t mt z
    · rw [h1] at z; cases z
theorem TabP.sub (T : TabP p H) {q : List Addr} (hq : ∀ b ∈ q, b ∈ p ∨ H b = none) : TabP q H := ⟨T.1, fun t mt m => by
  obtain ⟨ps, h1, _⟩ := T.1 t mt
  rcases hq _ m with z | z
  · exact T.2 t mt z
  · rw [h1] at z; cases z⟩
theorem Rel.same (R : Rel K p H σ α A) (s : Same H H') : Rel K p H' σ α A :=
  ⟨R.len, fun i r e => (R.sl i r e).tr (tr_same s) fun c _ u e => s c u e, R.out, R.nd, R.dj, R.inp, fun a m z => R.al a m (Same.free s z), R.tb.same s⟩
theorem Step.same (s : Same H H') : Step p H σ α A p H' σ α A :=
  ⟨fun b o _ h _ => .inl (s b o h), fun b h => Same.free s h, fun i b h => .inl h, fun _ h => .inl h, fun _ h => .inl h, rfl, fun i r h f => ⟨rfl, r, h, .refl⟩, fun i r h f => ⟨r, h, f⟩⟩
/-- changing slot i -/
def setF (A : FT) (i : Nat) (f : List Addr) : FT := fun j => if j = i then f else A j
theorem setF_same {i : Nat} {f : List Addr} : setF A i f i = f := by unfold setF; rw [if_pos rfl]
theorem setF_ne {i j : Nat} {f : List Addr} (h : j ≠ i) : setF A i f j = A j := by unfold setF; rw [if_neg h]
theorem setF_mem {i j : Nat} {f : List Addr} {a : Addr} (h : a ∈ setF A i f j) : (j = i ∧ a ∈ f) ∨ (j ≠ i ∧ a ∈ A j) := by
  unfold setF at h
  split at h
  · exact .inl ⟨by assumption, h⟩
  · exact .inr ⟨by assumption, h⟩
theorem Rel.lt (R : Rel K p H σ α A) {i : Nat} {r : AV} (h : α[i]? = some r) : i < σ.length := by
  rw [R.len]; exact (List.getElem?_eq_some_iff.mp h).1
theorem Rel.in_al (R : Rel K p H σ α A) {i : Nat} {a : Addr} (h : a ∈ A i) : H a ≠ none := R.al a (R.inp i a h)
/-- the general change of one slot: its value, kind and footprint; the heap is so that all else stands -/
theorem rel_put {i : Nat} {q r : AV} {o : Option V} {f : List Addr} (R : Rel K p H σ α A) (hi : α[i]? = some q) (hs : SlotR K p H o f r) (hnd : f.Nodup) (hin : ∀ a ∈ f, a ∈ p) (hdj : ∀ a ∈ f, ∀ j, j ≠ i → a ∉ A j) :
    Rel K p H (σ.set i o) (α.set i r) (setF A i f) := by
  have hia : i < α.length := (List.getElem?_eq_some_iff.mp hi).1
  have his : i < σ.length := R.lt hi
  refine ⟨by rw [List.length_set, List.length_set, R.len], fun j s h => ?_, fun j h => ?_, fun j => ?_, fun j k a h1 h2 => ?_, fun j a h => ?_, R.al, R.tb⟩
  · by_cases e : j = i
    · subst e
      rw [List.getElem?_set_self hia] at h
      cases h
      rw [setF_same, List.getElem?_set_self his]
      exact hs
    · rw [List.getElem?_set_ne (fun z => e z.symm)] at h
      rw [setF_ne e, List.getElem?_set_ne (fun z => e z.symm)]
      exact R.sl j s h
  · have e : j ≠ i := fun z => by subst z; rw [List.getElem?_set_self hia] at h; cases h
    rw [List.getElem?_set_ne (fun z => e z.symm)] at h
    rw [setF_ne e]
    exact R.out j h
  · by_cases e : j = i
    · subst e; rw [setF_same]; exact hnd
    · rw [setF_ne e]; exact R.nd j
  · rcases setF_mem h1 with ⟨rfl, m1⟩ | ⟨n1, m1⟩ <;> rcases setF_mem h2 with ⟨rfl, m2⟩ | ⟨n2, m2⟩
    · rfl
    · exact (hdj a m1 k n2 m2).elim
    · exact (hdj a m2 j n1 m1).elim
    · exact R.dj j k a m1 m2
  · rcases setF_mem h with ⟨rfl, m⟩ | ⟨_, m⟩
    · exact hin a m
    · exact R.inp j a m
theorem step_put {i : Nat} {q r : AV} {o : Option V} {f : List Addr} (R : Rel K p H σ α A) (hi : α[i]? = some q) (hf : q.isFix = false) (hr : r.isFix = false) (hin : ∀ a ∈ f, a ∈ A i ∨ H a = none) :
    Step p H σ α A p H (σ.set i o) (α.set i r) (setF A i f) := by
  have hia : i < α.length := (List.getElem?_eq_some_iff.mp hi).1
  refine ⟨fun _ _ _ h _ => .inl h, fun _ h => h, fun j b h => ?_, fun _ h => .inl h, fun _ h => .inl h, by rw [List.length_set], fun j s h g => ?_, fun j s h g => ?_⟩
  · rcases setF_mem h with ⟨rfl, m⟩ | ⟨_, m⟩
    · exact hin b m
    · exact .inl m
  · have e : j ≠ i := fun z => by subst z; rw [hi] at h; cases h; rw [hf] at g; cases g
    rw [List.getElem?_set_ne (fun z => e z.symm), List.getElem?_set_ne (fun z => e z.symm)]
    exact ⟨rfl, s, h, .refl⟩
  · by_cases e : j = i
    · subst e
      rw [List.getElem?_set_self hia] at h
      cases h
      rw [hr] at g; cases g
    · rw [List.getElem?_set_ne (fun z => e z.symm)] at h
      exact ⟨s, h, g⟩
end
end Vm
namespace Vm
open PySem PySem.Spec PyProof.Rows L2 Gk
inductive Lc where
  | d (x : Da)
  | s (i : Nat)
abbrev ME := AS → Option (Lc × AS)
abbrev MT := AS → Option (Bool × AS)
abbrev MA := AS → Option (List Lc × AS)
def res (α : AS) : Lc → Option Da
  | .d x => some x
  | .s i => (α[i]?).bind AV.see
def resA (α : AS) : List Lc → Option (List Da)
  | [] => some []
  | l :: r => (res α l).bind fun x => (resA α r).bind fun xs => some (x :: xs)
def LocR (K : PySem.W.Frag) (p : List Addr) (H : Hp) (σ : L2.St) (v : V) : Lc → Prop
  | .d x => Dz K p H v x
  | .s i => σ[i]? = some (some v)
def LocA (K : PySem.W.Frag) (p : List Addr) (H : Hp) (σ : L2.St) : List V → List Lc → Prop := Paired fun v l => LocR K p H σ v l
inductive Vz (K : PySem.W.Frag) (p : List Addr) (H : Hp) : V → Da → Prop
  | of {v : V} {x : Da} : Dz K p H v x → Vz K p H v x
  | top {a : Addr} {x : Da} : Top K p H true a x → Vz K p H (.ref a) x
abbrev VzA (K : PySem.W.Frag) (p : List Addr) (H : Hp) : List V → List Da → Prop := Paired fun v x => Vz K p H v x
structure RefE (K : PySem.W.Frag) (t : TE) (m : ME) : Prop where
  go : ∀ p H σ α A l α' Q, Rel K p H σ α A → m α = some (l, α') →
    (∀ p' H' A' v, Rel K p' H' σ α' A' → Step p H σ α A p' H' σ α' A' → LocR K p' H' σ v l → Q v H') → t σ H Q
structure RefT (K : PySem.W.Frag) (t : TT) (m : MT) : Prop where
  go : ∀ p H σ α A b α' Q, Rel K p H σ α A → m α = some (b, α') →
    (∀ p' H' A', Rel K p' H' σ α' A' → Step p H σ α A p' H' σ α' A' → Q b H') → t σ H Q
structure RefA (K : PySem.W.Frag) (t : TA) (m : MA) : Prop where
  go : ∀ p H σ α A l α' Q, Rel K p H σ α A → m α = some (l, α') →
    (∀ p' H' A' vs, Rel K p' H' σ α' A' → Step p H σ α A p' H' σ α' A' → LocA K p' H' σ vs l → Q vs H') → t σ H Q
section
variable {K : PySem.W.Frag} {p p' p2 : List Addr} {H H' H2 : Hp} {σ σ' σ2 : L2.St} {α α' α2 : AS} {A A' A2 : FT}
theorem LocR.step {v : V} {l : Lc} (R : Rel K p H σ α A) (S : Step p H σ α A p' H' σ α' A') (h : LocR K p H σ v l) : LocR K p' H' σ v l := by
  cases l with
  | d x => exact Dz.tr (S.tr R) h
  | s i => exact h
theorem LocA.step {v : List V} {l : List Lc} (R : Rel K p H σ α A) (S : Step p H σ α A p' H' σ α' A') (h : LocA K p H σ v l) : LocA K p' H' σ v l := by
  induction h with
  | nil => exact .nil
  | cons h _ ih => exact .cons (LocR.step R S h) ih
theorem join_of {i : Nat} {v : V} (h : σ[i]? = some (some v)) : (σ[i]?).join = some v := by rw [h]; rfl
theorem res_vz {v : V} {l : Lc} {x : Da} (R : Rel K p H σ α A) (h : LocR K p H σ v l) (e : res α l = some x) : Vz K p H v x := by
  cases l with
  | d y => cases e; exact .of h
  | s i =>
    have h' : σ[i]? = some (some v) := h
    simp only [res, Option.bind_eq_some_iff] at e
    obtain ⟨r, q, e⟩ := e
    have z := R.sl i r q
    rw [join_of h'] at z
    cases r with
    | d y =>
      cases e
      obtain ⟨_, w, e1, e2⟩ := z
      cases e1
      exact .of e2
    | r fx lk y =>
      cases e
      obtain ⟨a, e1, _, e2⟩ := z
      cases e1
      exact .top e2.lock
    | _ => cases e
theorem resA_vz {vs : List V} {ls : List Lc} (R : Rel K p H σ α A) (h : LocA K p H σ vs ls) : ∀ {xs : List Da}, resA α ls = some xs → VzA K p H vs xs := by
  induction h with
  | nil => intro xs e; cases e; exact .nil
  | cons h _ ih =>
    intro xs e
    simp only [resA, Option.bind_eq_some_iff] at e
    obtain ⟨x, e1, ys, e2, e3⟩ := e
    cases e3
    exact .cons (res_vz R h e1) (ih e2)
def eC (x : Da) : ME := fun α => some (.d x, α)
def eV (i : Nat) : ME := fun α => match α[i]? with
  | some .un => none
  | none => none
  | _ => some (.s i, α)
theorem ref_int {i : Int} : RefE K (tC (.int i)) (eC (.int i)) := ⟨fun p H σ α A l α' Q R e h => by cases e; exact h p H A _ R .refl (.int i)⟩
theorem ref_bl {b : Bool} : RefE K (tC (.bl b)) (eC (.bool b)) := ⟨fun p H σ α A l α' Q R e h => by cases e; exact h p H A _ R .refl (.bl b)⟩
theorem ref_str {x : Str} (hx : x.length ≤ SLIM) : RefE K (tC (.str x)) (eC (.str x)) := ⟨fun p H σ α A l α' Q R e h => by cases e; exact h p H A _ R .refl (.str x hx)⟩
theorem Rel.has (R : Rel K p H σ α A) {i : Nat} {r : AV} (h : α[i]? = some r) (n : r ≠ .un) : ∃ v, σ[i]? = some (some v) := by
  have hi := R.lt h
  have z := R.sl i r h
  rw [List.getElem?_eq_getElem hi] at z ⊢
  have : ∃ v, σ[i] = some v := by
    cases r with
    | un => exact (n rfl).elim
    | d x => obtain ⟨_, v, e, _⟩ := z; exact ⟨v, e⟩
    | r f l x => obtain ⟨a, e, _⟩ := z; exact ⟨.ref a, e⟩
    | n f l x => obtain ⟨a, _, e, _⟩ := z; exact ⟨.ref a, e⟩
    | sc ns => obtain ⟨_, a, e, _⟩ := z; exact ⟨.ref a, e⟩
    | g φ => obtain ⟨_, a, e, _⟩ := z; exact ⟨.ref a, e⟩
  obtain ⟨v, e⟩ := this
  exact ⟨v, by rw [e]⟩
theorem ref_var {i : Nat} : RefE K (tVar i) (eV i) := ⟨fun p H σ α A l α' Q R e h => by
  unfold eV at e
  have key : ∀ r, α[i]? = some r → r ≠ .un → some (Lc.s i, α) = some (l, α') → tVar i σ H Q := fun r q n e => by
    cases e
    obtain ⟨v, hv⟩ := R.has q n
    exact ⟨v, hv, h p H A v R .refl hv⟩
  split at e
  · cases e
  · cases e
  · rename_i n1 n2
    cases q : α[i]? with
    | none => exact (n2 q).elim
    | some r => exact key r q (fun z => by subst z; exact n1 q) e⟩
def RefR2 (K : PySem.W.Frag) (r : R2) (f : Da → Da → Option Da) : Prop :=
  ∀ p H x y a b c Q, (∀ a ∈ p, H a ≠ none) → Vz K p H x a → Vz K p H y b → f a b = some c → (∀ v H', Same H H' → Dz K p H' v c → Q v H') → r x y H Q
def RefRA (K : PySem.W.Frag) (r : List V → Hp → VK → Prop) (f : List Da → Option Da) : Prop :=
  ∀ p H xs as c Q, (∀ a ∈ p, H a ≠ none) → VzA K p H xs as → f as = some c → (∀ v H', Same H H' → Dz K p H' v c → Q v H') → r xs H Q
def eOp (f : Da → Da → Option Da) (ma mb : ME) : ME := fun α =>
  (ma α).bind fun x => (mb x.2).bind fun y => (res y.2 x.1).bind fun a => (res y.2 y.1).bind fun b => (f a b).bind fun c => some (.d c, y.2)
def eUn (f : Da → Option Da) (ma : ME) : ME := fun α => (ma α).bind fun x => (res x.2 x.1).bind fun a => (f a).bind fun c => some (.d c, x.2)
def eCB (f : List Da → Option Da) (ma : MA) : ME := fun α => (ma α).bind fun x => (resA x.2 x.1).bind fun a => (f a).bind fun c => some (.d c, x.2)
theorem ref_op {r : R2} {f : Da → Da → Option Da} {ta tb : TE} {ma mb : ME} (hr : RefR2 K r f) (ha : RefE K ta ma) (hb : RefE K tb mb) : RefE K (tOp r ta tb) (eOp f ma mb) :=
  ⟨fun p H σ α A l α' Q R e h => by
    simp only [eOp, Option.bind_eq_some_iff] at e
    obtain ⟨⟨l1, α1⟩, e1, ⟨l2, α2⟩, e2, a, e3, b, e4, c, e5, e6⟩ := e
    cases e6
    refine ha.go p H σ α A l1 α1 _ R e1 fun p1 H1 A1 v R1 S1 q1 => ?_
    refine hb.go p1 H1 σ α1 A1 l2 α2 _ R1 e2 fun p2 H2 A2 w R2 S2 q2 => ?_
    refine hr p2 H2 v w a b c _ R2.al (res_vz R2 (q1.step R1 S2) e3) (res_vz R2 q2 e4) e5 fun z H3 s q => ?_
    exact h p2 H3 A2 z (R2.same s) ((S1.trans R S2).trans R (.same s)) q⟩
theorem ref_cb {r : List V → Hp → VK → Prop} {f : List Da → Option Da} {ta : TA} {ma : MA} (hr : RefRA K r f) (ha : RefA K ta ma) : RefE K (tCB r ta) (eCB f ma) :=
  ⟨fun p H σ α A l α' Q R e h => by
    simp only [eCB, Option.bind_eq_some_iff] at e
    obtain ⟨⟨l1, α1⟩, e1, a, e3, c, e5, e6⟩ := e
    cases e6
    refine ha.go p H σ α A l1 α1 _ R e1 fun p1 H1 A1 v R1 S1 q1 => ?_
    refine hr p1 H1 v a c _ R1.al (resA_vz R1 q1 e3) e5 fun z H3 s q => ?_
    exact h p1 H3 A1 z (R1.same s) (S1.trans R (.same s)) q⟩
def aNil : MA := fun α => some ([], α)
def aCons (ma : ME) (mr : MA) : MA := fun α => (ma α).bind fun x => (mr x.2).bind fun y => some (x.1 :: y.1, y.2)
theorem ref_nil : RefA K tNil aNil := ⟨fun p H σ α A l α' Q R e h => by cases e; exact h p H A [] R .refl .nil⟩
theorem ref_cons {ta : TE} {tr : TA} {ma : ME} {mr : MA} (ha : RefE K ta ma) (hr : RefA K tr mr) : RefA K (tCons ta tr) (aCons ma mr) :=
  ⟨fun p H σ α A l α' Q R e h => by
    simp only [aCons, Option.bind_eq_some_iff] at e
    obtain ⟨⟨l1, α1⟩, e1, ⟨l2, α2⟩, e2, e6⟩ := e
    cases e6
    refine ha.go p H σ α A l1 α1 _ R e1 fun p1 H1 A1 v R1 S1 q1 => ?_
    refine hr.go p1 H1 σ α1 A1 l2 α2 _ R1 e2 fun p2 H2 A2 w R2 S2 q2 => ?_
    exact h p2 H2 A2 (v :: w) R2 (S1.trans R S2) (.cons (LocR.step R1 S2 q1) q2)⟩
def own (α : AS) : Lc → Option Da
  | .d x => some x
  | .s i => (α[i]?).bind AV.get
def ownA (α : AS) : List Lc → Option (List Da)
  | [] => some []
  | l :: r => (own α l).bind fun x => (ownA α r).bind fun xs => some (x :: xs)
theorem own_dz {v : V} {l : Lc} {x : Da} (R : Rel K p H σ α A) (h : LocR K p H σ v l) (e : own α l = some x) : Dz K p H v x := by
  cases l with
  | d y => cases e; exact h
  | s i =>
    have h' : σ[i]? = some (some v) := h
    simp only [own, Option.bind_eq_some_iff] at e
    obtain ⟨r, q, e⟩ := e
    have z := R.sl i r q
    rw [join_of h'] at z
    cases r <;> first | cases e | skip
    obtain ⟨_, w, e1, e2⟩ := z
    cases e1
    exact e2
theorem vz_bl {v : V} {b : Bool} (h : Vz K p H v (.bool b)) : v = .bl b := by
  cases h with
  | of h => cases h; rfl
  | top h => exact h.elim
theorem vz_int {v : V} {i : Int} (h : Vz K p H v (.int i)) : v = .int i := by
  cases h with
  | of h => cases h; rfl
  | top h => exact h.elim
theorem vz_str {v : V} {z : Str} (h : Vz K p H v (.str z)) : v = .str z ∧ z.length ≤ SLIM := by
  cases h with
  | of h => cases h; exact ⟨rfl, by assumption⟩
  | top h => exact h.elim
theorem vz_non {v : V} (h : Vz K p H v .none) : v = .non := by
  cases h with
  | of h => cases h; rfl
  | top h => exact h.elim
theorem vz_lst {v : V} {ds : List Da} (h : Vz K p H v (.list ds)) : ∃ a vs, v = .ref a ∧ H a = some (.lst vs) ∧ vs.length ≤ LIM ∧ DzA K p H vs ds := by
  cases h with
  | of h => cases h with
    | lst n r l q => exact ⟨_, _, rfl, r, l, q⟩
  | top h => obtain ⟨vs, h1, h2, h3⟩ := h; exact ⟨_, vs, rfl, h1, h2, h3⟩
theorem vz_tup {v : V} {ds : List Da} (h : Vz K p H v (.tuple ds)) : ∃ a vs, v = .ref a ∧ H a = some (.tup vs) ∧ vs.length ≤ LIM ∧ DzA K p H vs ds := by
  cases h with
  | of h => cases h with
    | tup r l q => exact ⟨_, _, rfl, r, l, q⟩
  | top h => exact h.elim
theorem vz_dk {v : V} {ds : List (Key × Da)} (h : Vz K p H v (.dk ds)) : ∃ a xs, v = .ref a ∧ Rd H a (.dK xs) ∧ xs.length ≤ LIM ∧ DzK K p H xs ds := by
  cases h with
  | of h => cases h with
    | dk n r l q => exact ⟨_, _, rfl, r, l, q⟩
  | top h => obtain ⟨vs, h1, h2, h3⟩ := h; exact ⟨_, vs, rfl, h1.rd, h2, h3⟩
theorem vz_dt {v : V} {ds : List (List Key × Da)} (h : Vz K p H v (.dt ds)) : ∃ a xs, v = .ref a ∧ Rd H a (.dT xs) ∧ xs.length ≤ LIM ∧ DzT K p H xs ds := by
  cases h with
  | of h => cases h with
    | dt n r l q => exact ⟨_, _, rfl, r, l, q⟩
  | top h => obtain ⟨vs, h1, h2, h3⟩ := h; exact ⟨_, vs, rfl, h1.rd, h2, h3⟩
theorem ownA_dz {vs : List V} {ls : List Lc} (R : Rel K p H σ α A) (h : LocA K p H σ vs ls) : ∀ {xs : List Da}, ownA α ls = some xs → DzA K p H vs xs := by
  induction h with
  | nil => intro xs e; cases e; exact .nil
  | cons h _ ih =>
    intro xs e
    simp only [ownA, Option.bind_eq_some_iff] at e
    obtain ⟨x, e1, ys, e2, e3⟩ := e
    cases e3
    exact .cons (own_dz R h e1) (ih e2)
theorem line_of {n : Nat} (h : n ≤ LIM) : n ≤ sizeLine := Nat.le_trans h (by rw [sizeLine_eq]; decide)
theorem line_lt {n : Nat} (h : n ≤ LIM) : n < sizeLine := Nat.lt_of_le_of_lt h (by rw [sizeLine_eq]; decide)
def eTup (ma : MA) : ME := fun α => (ma α).bind fun x => (ownA x.2 x.1).bind fun xs => if xs.length ≤ LIM then some (.d (.tuple xs), x.2) else none
theorem ref_tup {ta : TA} {ma : MA} (ha : RefA K ta ma) : RefE K (tTup ta) (eTup ma) :=
  ⟨fun p H σ α A l α' Q R e h => by
    simp only [eTup, Option.bind_eq_some_iff] at e
    obtain ⟨⟨l1, α1⟩, e1, xs, e2, e3⟩ := e
    split at e3
    · rename_i hl
      cases e3
      refine ha.go p H σ α A l1 α1 _ R e1 fun p1 H1 A1 v R1 S1 q1 => ?_
      have z := ownA_dz R1 q1 e2
      have hv : v.length ≤ LIM := by rw [z.length]; exact hl
      refine ⟨line_of hv, fun a ha => ?_⟩
      have s := same_new (o := .tup v) ha
      exact h p1 _ A1 _ (R1.same s) (S1.trans R (.same s)) (.tup upd_same hv (z.tr (tr_same s)))
    · cases e3⟩
theorem not_in_of_none {a : Addr} (R : Rel K p H σ α A) (h : H a = none) : a ∉ p := fun m => R.al a m h
def tOfE (ma : ME) : MT := fun α => (ma α).bind fun x => (res x.2 x.1).bind fun a => match a with
  | .bool b => some (b, x.2)
  | _ => none
theorem ref_test {ta : TE} {ma : ME} (ha : RefE K ta ma) : RefT K (tTest ta) (tOfE ma) :=
  ⟨fun p H σ α A l α' Q R e h => by
    simp only [tOfE, Option.bind_eq_some_iff] at e
    obtain ⟨⟨l1, α1⟩, e1, a, e2, e3⟩ := e
    split at e3
    · cases e3
      refine ha.go p H σ α A l1 α1 _ R e1 fun p1 H1 A1 v R1 S1 q1 => ?_
      have z := vz_bl (res_vz R1 q1 e2)
      subst z
      exact ⟨_, rfl, h p1 H1 A1 R1 S1⟩
    · cases e3⟩
theorem ref_tB {ta : TE} {ma : ME} (ha : RefE K ta ma) : RefT K (tB ta) (tOfE ma) := ⟨fun p H σ α A l α' Q R e h => (ref_test ha).go p H σ α A l α' Q R e h⟩
def mNot (m : MT) : MT := fun α => (m α).bind fun x => some (!x.1, x.2)
def mAnd (m n : MT) : MT := fun α => (m α).bind fun x => if x.1 = true then n x.2 else some (false, x.2)
def mOr (m n : MT) : MT := fun α => (m α).bind fun x => if x.1 = true then some (true, x.2) else n x.2
theorem ref_not {t : TT} {m : MT} (h : RefT K t m) : RefT K (tNot t) (mNot m) :=
  ⟨fun p H σ α A b α' Q R e q => by
    simp only [mNot, Option.bind_eq_some_iff] at e
    obtain ⟨⟨c, α1⟩, e1, e2⟩ := e
    cases e2
    exact h.go p H σ α A c _ _ R e1 fun p1 H1 A1 R1 S1 => q p1 H1 A1 R1 S1⟩
theorem ref_and {t u : TT} {m n : MT} (h : RefT K t m) (g : RefT K u n) : RefT K (tAnd t u) (mAnd m n) :=
  ⟨fun p H σ α A b α' Q R e q => by
    simp only [mAnd, Option.bind_eq_some_iff] at e
    obtain ⟨⟨c, α1⟩, e1, e2⟩ := e
    refine h.go p H σ α A c α1 _ R e1 fun p1 H1 A1 R1 S1 => ?_
    cases c with
    | true =>
      refine iteT ?_
      exact g.go p1 H1 σ α1 A1 b α' _ R1 e2 fun p2 H2 A2 R2 S2 => q p2 H2 A2 R2 (S1.trans R S2)
    | false =>
      simp at e2
      obtain ⟨rfl, rfl⟩ := e2
      exact iteF (q p1 H1 A1 R1 S1)⟩
theorem ref_or {t u : TT} {m n : MT} (h : RefT K t m) (g : RefT K u n) : RefT K (tOr t u) (mOr m n) :=
  ⟨fun p H σ α A b α' Q R e q => by
    simp only [mOr, Option.bind_eq_some_iff] at e
    obtain ⟨⟨c, α1⟩, e1, e2⟩ := e
    refine h.go p H σ α A c α1 _ R e1 fun p1 H1 A1 R1 S1 => ?_
    cases c with
    | true =>
      simp at e2
      obtain ⟨rfl, rfl⟩ := e2
      exact iteT (q p1 H1 A1 R1 S1)
    | false =>
      refine iteF ?_
      exact g.go p1 H1 σ α1 A1 b α' _ R1 (by simpa using e2) fun p2 H2 A2 R2 S2 => q p2 H2 A2 R2 (S1.trans R S2)⟩
def eAnd (ma mb : ME) : ME := fun α => (tOfE ma α).bind fun x => if x.1 = true then mb x.2 else some (.d (.bool false), x.2)
theorem ref_andV {ta tb : TE} {ma mb : ME} (ha : RefE K ta ma) (hb : RefE K tb mb) : RefE K (tAndV ta tb) (eAnd ma mb) :=
  ⟨fun p H σ α A l α' Q R e q => by
    simp only [eAnd, Option.bind_eq_some_iff] at e
    obtain ⟨⟨c, α1⟩, e1, e2⟩ := e
    refine (ref_test ha).go p H σ α A c α1 (fun k H1 => if k = true then tb σ H1 Q else Q (.bl false) H1) R e1 fun p1 H1 A1 R1 S1 => ?_
    cases c with
    | true => exact iteT (hb.go p1 H1 σ α1 A1 l α' _ R1 e2 fun p2 H2 A2 v R2 S2 z => q p2 H2 A2 v R2 (S1.trans R S2) z)
    | false =>
      simp at e2
      obtain ⟨rfl, rfl⟩ := e2
      exact iteF (q p1 H1 A1 _ R1 S1 (.bl false))⟩
end
end Vm
namespace Vm
open PySem PySem.Spec PyProof.Rows L2 Gk
abbrev MG := Da → AS → Option AS
abbrev MGs := List Da → AS → Option AS
structure RefG (K : PySem.W.Frag) (g : TG) (m : MG) : Prop where
  go : ∀ p H σ α A v x α' Q, Rel K p H σ α A → Dz K p H v x → m x α = some α' →
    (∀ p' H' σ' A', Rel K p' H' σ' α' A' → Step p H σ α A p' H' σ' α' A' → Q σ' H') → g v σ H Q
structure RefGs (K : PySem.W.Frag) (g : TGs) (m : MGs) : Prop where
  go : ∀ p H σ α A v x α' Q, Rel K p H σ α A → DzA K p H v x → m x α = some α' →
    (∀ p' H' σ' A', Rel K p' H' σ' α' A' → Step p H σ α A p' H' σ' α' A' → Q σ' H') → g v σ H Q
/-- slot i holds x from now on -/
def setD (i : Nat) (x : Da) (α : AS) : Option AS := match α[i]? with
  | some r => if r.isFix = true then none else some (α.set i (.d x))
  | none => none
section
variable {K : PySem.W.Frag} {p p' p2 : List Addr} {H H' H2 : Hp} {σ σ' σ2 : L2.St} {α α' α2 α0 : AS} {A A' A2 : FT}
theorem setD_some {i : Nat} {x : Da} (h : setD i x α = some α') : ∃ r, α[i]? = some r ∧ r.isFix = false ∧ α' = α.set i (.d x) := by
  unfold setD at h
  split at h
  · rename_i r e
    split at h
    · cases h
    · rename_i n
      cases h
      exact ⟨r, e, by simpa using n, rfl⟩
  · cases h
theorem rel_setD {i : Nat} {v : V} {x : Da} {r : AV} (R : Rel K p H σ α A) (d : Dz K p H v x) (hi : α[i]? = some r) (hf : r.isFix = false) :
    Rel K p H (σ.set i (some v)) (α.set i (.d x)) (setF A i []) ∧ Step p H σ α A p H (σ.set i (some v)) (α.set i (.d x)) (setF A i []) :=
  ⟨rel_put R hi ⟨rfl, v, rfl, d⟩ .nil (fun _ m => (List.not_mem_nil m).elim) (fun _ m => (List.not_mem_nil m).elim), step_put R hi hf rfl (fun _ m => (List.not_mem_nil m).elim)⟩
theorem ref_gName {i : Nat} : RefG K (gName i) (setD i) := ⟨fun p H σ α A v x α' Q R d e h => by
  obtain ⟨r, e1, e2, rfl⟩ := setD_some e
  have ⟨a, b⟩ := rel_setD R d e1 e2
  exact h p H _ _ a b⟩
def gsNil : MGs := fun xs α => match xs with
  | [] => some α
  | _ => none
def gsCons (m : MG) (r : MGs) : MGs := fun xs α => match xs with
  | x :: ys => (m x α).bind fun β => r ys β
  | [] => none
def gTupD (n : Nat) (m : MGs) : MG := fun x α => match x with
  | .tuple xs => if xs.length = n then m xs α else none
  | _ => none
theorem ref_gNil : RefGs K gNil gsNil := ⟨fun p H σ α A v x α' Q R d e h => by
  cases d with
  | nil => cases e; exact ⟨rfl, h p H σ A R .refl⟩
  | cons _ _ => cases e⟩
theorem ref_gCons {g : TG} {u : TGs} {m : MG} {r : MGs} (hg : RefG K g m) (hu : RefGs K u r) : RefGs K (gCons g u) (gsCons m r) := ⟨fun p H σ α A v x α' Q R d e h => by
  cases d with
  | nil => cases e
  | cons d1 d2 =>
    simp only [gsCons, Option.bind_eq_some_iff] at e
    obtain ⟨β, e1, e2⟩ := e
    refine ⟨_, _, rfl, hg.go p H σ α A _ _ β _ R d1 e1 fun p1 H1 σ1 A1 R1 S1 => ?_⟩
    exact hu.go p1 H1 σ1 β A1 _ _ α' _ R1 (d2.tr (S1.tr R)) e2 fun p2 H2 σ2 A2 R2 S2 => h p2 H2 σ2 A2 R2 (S1.trans R S2)⟩
theorem ref_gTup {n : Nat} {u : TGs} {r : MGs} (hu : RefGs K u r) : RefG K (gTup K n u) (gTupD n r) := ⟨fun p H σ α A v x α' Q R d e h => by
  unfold gTupD at e
  split at e
  · split at e
    · rename_i hn
      cases d with
      | tup hs hl ds =>
        exact ⟨_, _, rfl, .of hs, by rw [ds.length]; exact hn, hu.go p H σ α A _ _ α' _ R ds e h⟩
    · cases e
  · cases e⟩
def AV.lock : AV → AV
  | .r _ _ x => .r true true x
  | .n _ _ x => .n true true x
  | q => q
def lockA (α : AS) (is : List Nat) : AS := α.mapIdx fun i r => if i ∈ is then r.lock else r
def freeA (α0 α : AS) (is : List Nat) : AS := α.mapIdx fun i r => if i ∈ is then (α0[i]?).getD r else r
theorem lockA_get {is : List Nat} {i : Nat} : (lockA α is)[i]? = (α[i]?).map fun r => if i ∈ is then r.lock else r := by
  unfold lockA
  rw [List.getElem?_mapIdx]
theorem freeA_get {is : List Nat} {i : Nat} : (freeA α0 α is)[i]? = (α[i]?).map fun r => if i ∈ is then (α0[i]?).getD r else r := by
  unfold freeA
  rw [List.getElem?_mapIdx]
theorem lockA_nil : lockA α [] = α := by
  apply List.ext_getElem?
  intro i
  rw [lockA_get]
  cases α[i]? <;> simp
theorem freeA_nil : freeA α0 α [] = α := by
  apply List.ext_getElem?
  intro i
  rw [freeA_get]
  cases α[i]? <;> simp
theorem slot_lock {o : Option V} {f : List Addr} {r : AV} (h : SlotR K p H o f r) : SlotR K p H o f r.lock := by
  cases r with
  | r a b x => obtain ⟨a, e, rfl, h⟩ := h; exact ⟨a, e, rfl, h.lock⟩
  | n a b x => obtain ⟨a, as, e, rfl, h⟩ := h; exact ⟨a, as, e, rfl, h.lock⟩
  | _ => exact h
theorem rel_lock (R : Rel K p H σ α A) (is : List Nat) : Rel K p H σ (lockA α is) A := by
  refine ⟨by rw [R.len]; simp [lockA], fun i r e => ?_, fun i e => ?_, R.nd, R.dj, R.inp, R.al, R.tb⟩
  · rw [lockA_get] at e
    obtain ⟨q, e1, rfl⟩ := Option.map_eq_some_iff.mp e
    split
    · exact slot_lock (R.sl i q e1)
    · exact R.sl i q e1
  · rw [lockA_get] at e
    exact R.out i (Option.map_eq_none_iff.mp e)
/-- the slots that may be locked: lists of one's own -/
def Lockable (α : AS) (is : List Nat) : Prop := ∀ i ∈ is, ∃ f l xs, α[i]? = some (.r f l (.list xs))
/-- behind the walk -/
theorem rel_free {is : List Nat} (hl : Lockable α0 is) (S : Step p H σ (lockA α0 is) A p' H' σ' α' A') (R : Rel K p' H' σ' α' A') : Rel K p' H' σ' (freeA α0 α' is) A' := by
  refine ⟨by rw [R.len]; simp [freeA], fun i r e => ?_, fun i e => ?_, R.nd, R.dj, R.inp, R.al, R.tb⟩
  · rw [freeA_get] at e
    obtain ⟨q, e1, rfl⟩ := Option.map_eq_some_iff.mp e
    split
    · rename_i hi
      obtain ⟨f, l, xs, e2⟩ := hl i hi
      have e3 : (lockA α0 is)[i]? = some (.r true true (.list xs)) := by rw [lockA_get, e2]; simp [hi, AV.lock]
      obtain ⟨_, r', e4, kin⟩ := S.fix i _ e3 rfl
      have e5 := kin.eq rfl
      rw [e4] at e1
      cases e1
      have z := R.sl i _ e4
      rw [e2]
      subst e5
      obtain ⟨a, h1, h2, h3⟩ := z
      exact ⟨a, h1, h2, h3⟩
    · exact R.sl i q e1
  · rw [freeA_get] at e
    exact R.out i (Option.map_eq_none_iff.mp e)
theorem step_free {is : List Nat} (hl : Lockable α0 is) (S : Step p H σ (lockA α0 is) A p' H' σ' α' A') : Step p H σ α0 A p' H' σ' (freeA α0 α' is) A' := by
  have ll : (lockA α0 is).length = α0.length := by simp [lockA]
  refine ⟨S.keep, S.dom, S.new, S.sub, S.mono, by rw [← ll, ← S.ln]; simp [freeA], fun i r e f => ?_, fun i r e f => ?_⟩
  · by_cases hi : i ∈ is
    · obtain ⟨f', l', xs, e2⟩ := hl i hi
      rw [e] at e2
      cases e2
      have e3 : (lockA α0 is)[i]? = some (.r true true (.list xs)) := by rw [lockA_get, e]; simp [hi, AV.lock]
      obtain ⟨es, r', e4, kin⟩ := S.fix i _ e3 rfl
      refine ⟨es, _, ?_, .refl⟩
      rw [freeA_get, e4, e]
      simp [hi]
    · have e3 : (lockA α0 is)[i]? = some r := by rw [lockA_get, e]; simp [hi]
      obtain ⟨es, r', e4, kin⟩ := S.fix i _ e3 f
      refine ⟨es, r', ?_, kin⟩
      rw [freeA_get, e4]
      simp [hi]
  · rw [freeA_get] at e
    obtain ⟨q, e1, rfl⟩ := Option.map_eq_some_iff.mp e
    by_cases hi : i ∈ is
    · rw [if_pos hi] at f
      obtain ⟨f', l', xs, e2⟩ := hl i hi
      rw [e2] at f
      exact ⟨_, e2, f⟩
    · rw [if_neg hi] at f
      obtain ⟨u, e2, f2⟩ := S.nof i q e1 f
      rw [lockA_get] at e2
      obtain ⟨u', e3, rfl⟩ := Option.map_eq_some_iff.mp e2
      rw [if_neg hi] at f2
      exact ⟨u', e3, f2⟩
end
/-- the items stand as long as the locked slots do -/
structure ItR (K : PySem.W.Frag) (p : List Addr) (H : Hp) (σ : L2.St) (α : AS) (J : It) (xs : List Da) (dep : List Nat) : Prop where
  go : ∀ p1 H1 σ1 α1 A1, Rel K p1 H1 σ1 α1 A1 → Tr p H p1 H1 → (∀ i ∈ dep, σ1[i]? = σ[i]? ∧ α1[i]? = (α[i]?).map AV.lock) →
    (∀ n x, xs[n]? = some x → J.go n H1 ∧ ∀ v H2, J.yld n H1 v H2 → Same H1 H2 ∧ Dz K p1 H2 v x) ∧ J.stop xs.length H1
abbrev MI := AS → Option ((List Da × List Nat) × AS)
structure RefI (K : PySem.W.Frag) (w : TI) (m : MI) : Prop where
  go : ∀ p H σ α A x α' R, Rel K p H σ α A → m α = some (x, α') →
    (∀ p' H' A' J, Rel K p' H' σ α' A' → Step p H σ α A p' H' σ α' A' → ItR K p' H' σ α' J x.1 x.2 → Lockable α' x.2 → R J H') → w σ H R
/-- one of two readings -/
def iOr (w u : TI) : TI := fun σ H R => w σ H R ∨ u σ H R
theorem pi_or {X : Cx} {tg e : Expr} {w u : TI} (a : PI X tg e w) (b : PI X tg e u) : PI X tg e (iOr w u) :=
  ⟨fun pins s σ H R I h => h.elim (a.run pins s σ H R I) (b.run pins s σ H R I)⟩
def iLst (ma : ME) : MI := fun α => (ma α).bind fun l => match l.1 with
  | .d (.list xs) => some ((xs, []), l.2)
  | .d _ => none
  | .s i => match l.2[i]? with
    | some (.d (.list xs)) => some ((xs, []), l.2)
    | some (.r _ _ (.list xs)) => some ((xs, [i]), l.2)
    | _ => none
def iTpl (ma : ME) : MI := fun α => (ma α).bind fun l => (own l.2 l.1).bind fun x => match x with
  | .tuple xs => some ((xs, []), l.2)
  | _ => none
def iRg1 (ma : MA) : MI := fun α => (ma α).bind fun l => (resA l.2 l.1).bind fun x => match x with
  | [.int j] => if -(2 ^ 62) ≤ j ∧ j < 2 ^ 62 then some (((List.range j.toNat).map fun (k : Nat) => Da.int (k : Int), []), l.2) else none
  | _ => none
section
variable {K : PySem.W.Frag} {p p' p2 : List Addr} {H H' H2 : Hp} {σ σ' σ2 : L2.St} {α α' α2 : AS} {A A' A2 : FT}
theorem lockable_nil : Lockable α [] := fun _ m => (List.not_mem_nil m).elim
theorem list_it {a : Addr} {xs : List Da} {dep : List Nat} (st : ∀ p1 H1 σ1 α1 A1, Rel K p1 H1 σ1 α1 A1 → Tr p H p1 H1 → (∀ i ∈ dep, σ1[i]? = σ[i]? ∧ α1[i]? = (α[i]?).map AV.lock) →
      ∃ vs, H1 a = some (.lst vs) ∧ DzA K p1 H1 vs xs) : ItR K p H σ α (Itl K a) xs dep := ⟨fun p2 H2 σ2 α2 A2 R2 t d2 => by
  obtain ⟨ws, hw, ds⟩ := st p2 H2 σ2 α2 A2 R2 t d2
  refine ⟨fun n x hx => ?_, ws, .of hw, by rw [ds.length]; exact Nat.le_refl _⟩
  obtain ⟨y, hy, dy⟩ := ds.get hx
  refine ⟨⟨ws, y, .of hw, hy⟩, fun v H3 z => ?_⟩
  obtain ⟨rfl, z⟩ := z
  have := z ws (.of hw)
  rw [hy] at this
  cases this
  exact ⟨Same.refl _, dy⟩⟩
theorem ref_iList {tl : TE} {ma : ME} (ha : RefE K tl ma) : RefI K (iList K tl) (iLst ma) := ⟨fun p H σ α A x α' Rr R e h => by
  simp only [iLst, Option.bind_eq_some_iff] at e
  obtain ⟨⟨l, α1⟩, e1, e3⟩ := e
  refine ha.go p H σ α A l α1 _ R e1 fun p1 H1 A1 v R1 S1 q1 => ?_
  have data : ∀ xs, Dz K p1 H1 v (.list xs) → ((xs, ([] : List Nat)), α1) = (x, α') → ∃ a, v = .ref a ∧ (∃ xs, SqL K H1 a xs) ∧ Rr (Itl K a) H1 := fun xs d e => by
    cases e
    cases d with
    | lst n r hl ds =>
      exact ⟨_, rfl, ⟨_, .of r⟩, h p1 H1 A1 _ R1 S1 (list_it fun p2 H2 σ2 α2 A2 R2 t _ => ⟨_, t.ls _ _ n r, ds.tr t⟩) lockable_nil⟩
  cases l with
  | d y =>
    dsimp only at e3
    split at e3
    · rename_i xs z; cases z; exact data xs q1 (Option.some.inj e3)
    · cases e3
    · rename_i z; cases z
  | s i =>
    have q' : σ[i]? = some (some v) := q1
    dsimp only at e3
    split at e3
    · rename_i xs e4
      obtain ⟨_, w, e5, d⟩ := R1.sl i _ e4
      rw [join_of q'] at e5
      cases e5
      exact data xs d (Option.some.inj e3)
    · rename_i f lk xs e4
      obtain ⟨a, e5, e6, vs, d1, d2, d3⟩ := R1.sl i _ e4
      rw [join_of q'] at e5
      cases e5
      cases Option.some.inj e3
      refine ⟨a, rfl, ⟨_, .of d1⟩, h p1 H1 A1 _ R1 S1 (list_it fun p2 H2 σ2 α2 A2 R2 t dp => ?_) fun j m => ?_⟩
      · obtain ⟨e7, e8⟩ := dp i (List.mem_singleton.mpr rfl)
        rw [e4] at e8
        obtain ⟨b, e9, _, ws, w1, w2, w3⟩ := R2.sl i _ e8
        rw [e7, join_of q'] at e9
        cases e9
        exact ⟨ws, w1, w3⟩
      · cases List.mem_singleton.mp m
        exact ⟨_, _, _, e4⟩
    · cases e3⟩
theorem ref_iTup {tl : TE} {ma : ME} (ha : RefE K tl ma) : RefI K (iTup K tl) (iTpl ma) := ⟨fun p H σ α A x α' Rr R e h => by
  simp only [iTpl, Option.bind_eq_some_iff] at e
  obtain ⟨⟨l, α1⟩, e1, y, e2, e3⟩ := e
  split at e3
  · rename_i xs
    cases e3
    refine ha.go p H σ α A l α1 _ R e1 fun p1 H1 A1 v R1 S1 q1 => ?_
    cases own_dz R1 q1 e2 with
    | tup hs hl ds =>
      refine ⟨_, rfl, ⟨_, .of hs⟩, h p1 H1 A1 _ R1 S1 ⟨fun p2 H2 σ2 α2 A2 R2 t d2 => ?_⟩ lockable_nil⟩
      have hs2 := SqT.of (K := K) (t.tp _ _ hs)
      have ds2 := ds.tr t
      refine ⟨fun n x hx => ?_, _, hs2, by rw [ds.length]; exact Nat.le_refl _⟩
      obtain ⟨y, hy, dy⟩ := ds2.get hx
      refine ⟨⟨_, y, hs2, hy⟩, fun v H3 z => ?_⟩
      obtain ⟨rfl, z⟩ := z
      have := z _ hs2
      rw [hy] at this
      cases this
      exact ⟨Same.refl _, dy⟩
  · cases e3⟩
theorem itr_ok {lo : Int} {n : Nat} : ItR K p H σ α (Itr lo n) ((List.range n).map fun (k : Nat) => Da.int (lo + (k : Int))) [] := ⟨fun p1 H1 σ1 α1 A1 R1 t d => by
  refine ⟨fun k x hx => ?_, by simp [Itr]⟩
  rw [List.getElem?_map] at hx
  obtain ⟨j, hj, rfl⟩ := Option.map_eq_some_iff.mp hx
  obtain ⟨hlt, e⟩ := List.getElem?_eq_some_iff.mp hj
  rw [List.getElem_range] at e
  subst e
  rw [List.length_range] at hlt
  refine ⟨hlt, fun v H2 z => ?_⟩
  obtain ⟨rfl, rfl⟩ := z
  exact ⟨Same.refl _, .int _⟩⟩
theorem ref_iRg1 {ta : TA} {ma : MA} (ha : RefA K ta ma) : RefI K (iRng1 ta) (iRg1 ma) := ⟨fun p H σ α A x α' Rr R e h => by
  simp only [iRg1, Option.bind_eq_some_iff] at e
  obtain ⟨⟨l, α1⟩, e1, y, e2, e3⟩ := e
  split at e3
  · rename_i j
    split at e3
    · rename_i hj
      cases e3
      refine ha.go p H σ α A l α1 _ R e1 fun p1 H1 A1 v R1 S1 q1 => ?_
      cases resA_vz R1 q1 e2 with
      | cons h1 h2 =>
        cases h2
        cases vz_int h1
        refine ⟨j, rfl, hj.1, hj.2, h p1 H1 A1 _ R1 S1 ?_ lockable_nil⟩
        have := itr_ok (K := K) (p := p1) (H := H1) (σ := σ) (α := α1) (lo := 0) (n := j.toNat)
        simpa using this
    · cases e3
  · cases e3⟩
end
/-- a new own thing: flat or nested -/
inductive Nw where
  | r (x : Da)
  | n (x : Da)
def Nw.av : Nw → AV
  | .r x => .r false false x
  | .n x => .n false false x
def Nw.da : Nw → Da
  | .r x => x
  | .n x => x
def NewR (K : PySem.W.Frag) (p : List Addr) (H : Hp) (a : Addr) (as : List Addr) : Nw → Prop
  | .r x => as = [] ∧ Top K p H false a x
  | .n x => Nest K p H false a as x
/-- as is new: it stood nowhere, and no slot has it -/
structure Fresh (p' : List Addr) (H : Hp) (A' : FT) (as : List Addr) : Prop where
  inp : ∀ b ∈ as, b ∈ p'
  non : ∀ b ∈ as, H b = none
  noA : ∀ b ∈ as, ∀ i, b ∉ A' i
  nd : as.Nodup
/-- what is handed back: a thing, a new tuple of things, a new own thing -/
inductive RL where
  | one (l : Lc)
  | tup (ls : List Lc)
  | nw (r : Nw)
inductive Out where
  | nx (α : AS)
  | rt (l : RL) (α : AS)
  | bk (α : AS)
  | ct (α : AS)
abbrev MS := AS → Option Out
def RetR (K : PySem.W.Frag) (H0 : Hp) (p : List Addr) (H : Hp) (σ : L2.St) (A : FT) (v : V) : RL → Prop
  | .one l => LocR K p H σ v l
  | .tup ls => ∃ a vs, v = .ref a ∧ H a = some (.tup vs) ∧ vs.length ≤ LIM ∧ LocA K p H σ vs ls
  | .nw r => ∃ a as, v = .ref a ∧ Fresh p H0 A (a :: as) ∧ NewR K p H a as r
def EndsR (K : PySem.W.Frag) (p : List Addr) (H : Hp) (σ : L2.St) (α : AS) (A : FT) (D : Ends) : Out → Prop
  | .nx α' => ∀ p' H' σ' A', Rel K p' H' σ' α' A' → Step p H σ α A p' H' σ' α' A' → D.nx σ' H'
  | .bk α' => ∀ p' H' σ' A', Rel K p' H' σ' α' A' → Step p H σ α A p' H' σ' α' A' → D.bk σ' H'
  | .ct α' => ∀ p' H' σ' A', Rel K p' H' σ' α' A' → Step p H σ α A p' H' σ' α' A' → D.ct σ' H'
  | .rt l α' => ∀ p' H' σ' A' v, Rel K p' H' σ' α' A' → Step p H σ α A p' H' σ' α' A' → RetR K H p' H' σ' A' v l → D.rt v H'
structure RefS (K : PySem.W.Frag) (t : TS) (m : MS) : Prop where
  go : ∀ p H σ α A o D, Rel K p H σ α A → m α = some o → EndsR K p H σ α A D o → t D σ H
section
variable {K : PySem.W.Frag} {p p' p2 : List Addr} {H H' H2 : Hp} {σ σ' σ2 : L2.St} {α α' α2 : AS} {A A' A2 : FT}
theorem RetR.early {H0 H1 : Hp} {v : V} {l : RL} (h : RetR K H1 p H σ A v l) (dom : ∀ b, H1 b = none → H0 b = none) : RetR K H0 p H σ A v l := by
  cases l with
  | one l => exact h
  | tup ls => exact h
  | nw r => obtain ⟨a, as, e, f, n⟩ := h; exact ⟨a, as, e, ⟨f.inp, fun b m => dom b (f.non b m), f.noA, f.nd⟩, n⟩
theorem EndsR.step {D : Ends} {o : Out} (R : Rel K p H σ α A) (S : Step p H σ α A p' H' σ' α' A') (h : EndsR K p H σ α A D o) : EndsR K p' H' σ' α' A' D o := by
  cases o with
  | nx β => exact fun p2 H2 σ2 A2 R2 S2 => h p2 H2 σ2 A2 R2 (S.trans R S2)
  | bk β => exact fun p2 H2 σ2 A2 R2 S2 => h p2 H2 σ2 A2 R2 (S.trans R S2)
  | ct β => exact fun p2 H2 σ2 A2 R2 S2 => h p2 H2 σ2 A2 R2 (S.trans R S2)
  | rt r β =>
    refine fun p2 H2 σ2 A2 v R2 S2 z => h p2 H2 σ2 A2 v R2 (S.trans R S2) ?_
    exact z.early S.dom
def sNext : MS := fun α => some (.nx α)
def sSeq (m n : MS) : MS := fun α => (m α).bind fun o => match o with
  | .nx β => n β
  | o => some o
theorem ref_next : RefS K tNext sNext := ⟨fun p H σ α A o D R e h => by cases e; exact h p H σ A R .refl⟩
theorem ref_seq {t u : TS} {m n : MS} (ht : RefS K t m) (hu : RefS K u n) : RefS K (tSeq t u) (sSeq m n) := ⟨fun p H σ α A o D R e h => by
  simp only [sSeq, Option.bind_eq_some_iff] at e
  obtain ⟨o1, e1, e2⟩ := e
  refine ht.go p H σ α A o1 _ R e1 ?_
  cases o1 with
  | nx β => exact fun p1 H1 σ1 A1 R1 S1 => hu.go p1 H1 σ1 β A1 o D R1 e2 (h.step R S1)
  | bk β => cases e2; exact h
  | ct β => cases e2; exact h
  | rt r β => cases e2; exact h⟩
def sRet (m : ME) : MS := fun α => (m α).bind fun x => some (.rt (.one x.1) x.2)
theorem ref_ret {te : TE} {m : ME} (he : RefE K te m) : RefS K (tRet te) (sRet m) := ⟨fun p H σ α A o D R e h => by
  simp only [sRet, Option.bind_eq_some_iff] at e
  obtain ⟨⟨l, α1⟩, e1, e2⟩ := e
  cases e2
  exact he.go p H σ α A l α1 _ R e1 fun p1 H1 A1 v R1 S1 q => h p1 H1 σ A1 v R1 S1 q⟩
theorem LocA.length {vs : List V} {ls : List Lc} (h : LocA K p H σ vs ls) : vs.length = ls.length := Paired.length h
theorem LocR.same {v : V} {l : Lc} (s : Same H H') (h : LocR K p H σ v l) : LocR K p H' σ v l := by
  cases l with
  | d x => exact Dz.tr (tr_same s) h
  | s i => exact h
theorem LocA.same {vs : List V} {ls : List Lc} (s : Same H H') (h : LocA K p H σ vs ls) : LocA K p H' σ vs ls := by
  induction h with
  | nil => exact .nil
  | cons h _ ih => exact .cons (LocR.same s h) ih
def sIf (c : MT) (m n : MS) : MS := fun α => (c α).bind fun x => if x.1 = true then m x.2 else n x.2
theorem ref_ifS {c : TT} {t u : TS} {mc : MT} {m n : MS} (hc : RefT K c mc) (ht : RefS K t m) (hu : RefS K u n) : RefS K (tIfS c t u) (sIf mc m n) := ⟨fun p H σ α A o D R e h => by
  simp only [sIf, Option.bind_eq_some_iff] at e
  obtain ⟨⟨b, α1⟩, e1, e2⟩ := e
  refine hc.go p H σ α A b α1 _ R e1 fun p1 H1 A1 R1 S1 => ?_
  cases b with
  | true => exact iteT (ht.go p1 H1 σ α1 A1 o D R1 e2 (h.step R S1))
  | false => exact iteF (hu.go p1 H1 σ α1 A1 o D R1 (by simpa using e2) (h.step R S1))⟩
/-- x = e, x a name for data -/
def sAsg (m : ME) (g : MG) : MS := fun α => (m α).bind fun x => (own x.2 x.1).bind fun y => (g y x.2).bind fun β => some (.nx β)
theorem ref_asg {te : TE} {g : TG} {m : ME} {mg : MG} (he : RefE K te m) (hg : RefG K g mg) : RefS K (tAsg te g) (sAsg m mg) := ⟨fun p H σ α A o D R e h => by
  simp only [sAsg, Option.bind_eq_some_iff] at e
  obtain ⟨⟨l, α1⟩, e1, y, e2, β, e3, e4⟩ := e
  cases e4
  refine he.go p H σ α A l α1 _ R e1 fun p1 H1 A1 v R1 S1 q => ?_
  exact hg.go p1 H1 σ α1 A1 v y β _ R1 (own_dz R1 q e2) e3 fun p2 H2 σ2 A2 R2 S2 => h p2 H2 σ2 A2 R2 (S1.trans R S2)⟩
def forL (g : MG) (b : MS) : List Da → AS → Option Out
  | [], α => some (.nx α)
  | x :: xs, α => (g x α).bind fun α1 => (b α1).bind fun o => match o with
    | .nx α2 => forL g b xs α2
    | .ct α2 => forL g b xs α2
    | .bk α2 => some (.bk α2)
    | .rt r α2 => some (.rt r α2)
/-- the loop's end, its slots free again -/
def Out.freed (α0 : AS) (is : List Nat) : Out → Out
  | .nx α => .nx (freeA α0 α is)
  | .bk α => .nx (freeA α0 α is)
  | .ct α => .nx (freeA α0 α is)
  | .rt r α => .rt r (freeA α0 α is)
def sForD (i : MI) (g : MG) (b : MS) : MS := fun α => (i α).bind fun x => (forL g b x.1.1 (lockA x.2 x.1.2)).bind fun o => some (o.freed x.2 x.1.2)
/-- the loop, from the i-th turn on -/
def ForW (K : PySem.W.Frag) (p0 : List Addr) (H0 : Hp) (σ0 : L2.St) (α0 : AS) (A0 : FT) (g : MG) (b : MS) (xs : List Da) (o : Out) (i m : Nat) (σ : L2.St) (H : Hp) : Prop :=
  m = xs.length - i ∧ i ≤ xs.length ∧ ∃ p α A, Rel K p H σ α A ∧ Step p0 H0 σ0 α0 A0 p H σ α A ∧ forL g b (xs.drop i) α = some o
theorem dep_of {dep : List Nat} {α0 : AS} (hd : Lockable α0 dep) (S : Step p H σ (lockA α0 dep) A p' H' σ' α' A') : ∀ i ∈ dep, σ'[i]? = σ[i]? ∧ α'[i]? = (α0[i]?).map AV.lock := fun i hi => by
  obtain ⟨f, l, xs, e2⟩ := hd i hi
  have e3 : (lockA α0 dep)[i]? = some (.r true true (.list xs)) := by rw [lockA_get, e2]; simp [hi, AV.lock]
  obtain ⟨es, r', e4, kin⟩ := S.fix i _ e3 rfl
  refine ⟨es, ?_⟩
  rw [e4, kin.eq rfl, e2]
  rfl
theorem ref_for {w : TI} {g : TG} {tb : TS} {mi : MI} {mg : MG} {mb : MS} (hi : RefI K w mi) (hg : RefG K g mg) (hb : RefS K tb mb) : RefS K (tFor w g tb) (sForD mi mg mb) := ⟨fun p H σ α A o D R e h => by
  simp only [sForD, Option.bind_eq_some_iff] at e
  obtain ⟨⟨⟨xs, dep⟩, α1⟩, e1, o1, e2, e3⟩ := e
  cases e3
  refine hi.go p H σ α A (xs, dep) α1 _ R e1 fun p1 H1 A1 J R1 S1 it lkb => ?_
  have RL := rel_lock R1 dep
  refine ⟨ForW K p1 H1 σ (lockA α1 dep) A1 mg mb xs o1, ⟨xs.length, rfl, Nat.zero_le _, p1, _, A1, RL, .refl, e2⟩, ?_⟩
  rintro i m σ2 H2 ⟨rfl, hi', p2, α2, A2, R2, S2, e4⟩
  obtain ⟨yes, stop⟩ := it.go p2 H2 σ2 α2 A2 R2 (S2.tr RL) (dep_of lkb S2)
  by_cases lt : i < xs.length
  · right
    have hx : xs[i]? = some xs[i] := List.getElem?_eq_getElem lt
    obtain ⟨hgo, hy⟩ := yes i _ hx
    refine ⟨hgo, fun σ' H' => ∃ m', m' < xs.length - i ∧ ForW K p1 H1 σ (lockA α1 dep) A1 mg mb xs o1 (i + 1) m' σ' H', fun σ' H' h => h, fun v H3 y => ?_⟩
    obtain ⟨sm, dv⟩ := hy v H3 y
    rw [List.drop_eq_getElem_cons lt] at e4
    simp only [forL, Option.bind_eq_some_iff] at e4
    obtain ⟨α3, e5, o2, e6, e7⟩ := e4
    have R3 := R2.same sm
    have S3 : Step p1 H1 σ (lockA α1 dep) A1 p2 H3 σ2 α2 A2 := S2.trans RL (.same sm)
    refine hg.go p2 H3 σ2 α2 A2 v xs[i] α3 _ R3 dv e5 fun p4 H4 σ4 A4 R4 S4 => ?_
    have S4' := S3.trans RL S4
    refine hb.go p4 H4 σ4 α3 A4 o2 _ R4 e6 ?_
    cases o2 with
    | nx β => exact fun p5 H5 σ5 A5 R5 S5 => ⟨_, by omega, rfl, lt, p5, β, A5, R5, S4'.trans RL S5, e7⟩
    | ct β => exact fun p5 H5 σ5 A5 R5 S5 => ⟨_, by omega, rfl, lt, p5, β, A5, R5, S4'.trans RL S5, e7⟩
    | bk β =>
      cases e7
      exact fun p5 H5 σ5 A5 R5 S5 => h p5 H5 σ5 A5 (rel_free lkb (S4'.trans RL S5) R5) (S1.trans R (step_free lkb (S4'.trans RL S5)))
    | rt r β =>
      cases e7
      exact fun p5 H5 σ5 A5 v R5 S5 z => h p5 H5 σ5 A5 v (rel_free lkb (S4'.trans RL S5) R5) (S1.trans R (step_free lkb (S4'.trans RL S5))) (z.early fun b q => S1.dom b (S4'.dom b q))
  · left
    have ei : i = xs.length := by omega
    subst ei
    rw [List.drop_length] at e4
    cases e4
    exact ⟨stop, h p2 H2 σ2 A2 (rel_free lkb S2 R2) (S1.trans R (step_free lkb S2))⟩⟩
end
end Vm
namespace Vm
open PySem PySem.Spec PyProof.Rows L2 Gk
section
variable {K : PySem.W.Frag} {p p' p2 : List Addr} {H H' H2 : Hp} {σ σ' σ2 : L2.St} {α α' α2 α0 : AS} {A A' A2 A0 : FT}
def wipeA (α : AS) : List Nat → AS
  | [] => α
  | v :: vs => (wipeA α vs).set v .un
theorem wipeA_length : ∀ vs : List Nat, (wipeA α vs).length = α.length
  | [] => rfl
  | v :: vs => by unfold wipeA; rw [List.length_set, wipeA_length vs]
theorem wipeA_get {i : Nat} : ∀ vs : List Nat, (wipeA α vs)[i]? = if i ∈ vs then (α[i]?).map fun _ => AV.un else α[i]?
  | [] => by simp [wipeA]
  | v :: vs => by
    unfold wipeA
    by_cases e : i = v
    · subst e
      rw [if_pos (List.mem_cons_self ..)]
      by_cases h : i < α.length
      · rw [List.getElem?_set_self (by rw [wipeA_length]; exact h), List.getElem?_eq_getElem h]
        rfl
      · have h1 : α[i]? = none := List.getElem?_eq_none_iff.mpr (by omega)
        rw [h1, List.getElem?_eq_none_iff.mpr (by rw [List.length_set, wipeA_length]; omega)]
        rfl
    · rw [List.getElem?_set_ne (fun z => e z.symm), wipeA_get vs]
      by_cases h : i ∈ vs
      · rw [if_pos h, if_pos (List.mem_cons_of_mem _ h)]
      · rw [if_neg h, if_neg (fun z => (List.mem_cons.mp z).elim e h)]
theorem wipe_get {i : Nat} : ∀ vs : List Nat, (wipe σ vs)[i]? = if i ∈ vs then (σ[i]?).map fun _ => none else σ[i]?
  | [] => by simp [wipe]
  | v :: vs => by
    unfold wipe
    by_cases e : i = v
    · subst e
      rw [if_pos (List.mem_cons_self ..)]
      by_cases h : i < σ.length
      · rw [List.getElem?_set_self (by rw [wipe_length]; exact h), List.getElem?_eq_getElem h]
        rfl
      · have h1 : σ[i]? = none := List.getElem?_eq_none_iff.mpr (by omega)
        rw [h1, List.getElem?_eq_none_iff.mpr (by rw [List.length_set, wipe_length]; omega)]
        rfl
    · rw [List.getElem?_set_ne (fun z => e z.symm), wipe_get vs]
      by_cases h : i ∈ vs
      · rw [if_pos h, if_pos (List.mem_cons_of_mem _ h)]
      · rw [if_neg h, if_neg (fun z => (List.mem_cons.mp z).elim e h)]
theorem wipe_wipe (vs : List Nat) : wipe (wipe σ vs) vs = wipe σ vs := by
  apply List.ext_getElem?
  intro i
  rw [wipe_get, wipe_get]
  by_cases h : i ∈ vs
  · rw [if_pos h, if_pos h, Option.map_map]
    rfl
  · rw [if_neg h, if_neg h]
/-- what stands in the own slots of a block is let be -/
def backA (α0 α : AS) (vs : List Nat) : AS := α.mapIdx fun i r => if i ∈ vs then (α0[i]?).getD .un else r
theorem backA_get {vs : List Nat} {i : Nat} : (backA α0 α vs)[i]? = (α[i]?).map fun r => if i ∈ vs then (α0[i]?).getD .un else r := by
  unfold backA
  rw [List.getElem?_mapIdx]
def noRoots (α : AS) (vs : List Nat) : Prop := ∀ i ∈ vs, ∀ r, α[i]? = some r → r.isRoot = false
instance : Decidable (noRoots α vs) := by
  have : noRoots α vs ↔ ∀ i ∈ vs, ((α[i]?).all fun r => !r.isRoot) = true := by
    unfold noRoots
    constructor
    · intro h i m
      cases e : α[i]? with
      | none => rfl
      | some r => simp [h i m r e]
    · intro h i m r e
      have := h i m
      rw [e] at this
      simpa using this
  exact decidable_of_iff' _ this
def noFix (α : AS) (vs : List Nat) : Prop := ∀ i ∈ vs, ∀ r, α[i]? = some r → r.isFix = false
def wipeF (A : FT) (vs : List Nat) : FT := fun i => if i ∈ vs then [] else A i
theorem wipeF_mem {vs : List Nat} {i : Nat} {a : Addr} (h : a ∈ wipeF A vs i) : i ∉ vs ∧ a ∈ A i := by
  unfold wipeF at h
  split at h
  · exact (List.not_mem_nil h).elim
  · exact ⟨by assumption, h⟩
theorem rel_wipe (R : Rel K p H σ α A) (vs : List Nat) : Rel K p H (wipe σ vs) (wipeA α vs) (wipeF A vs) := by
  refine ⟨by rw [wipe_length, wipeA_length, R.len], fun i r h2 => ?_, fun i h => ?_, fun i => ?_, fun i j a h1 h2 => R.dj i j a (wipeF_mem h1).2 (wipeF_mem h2).2, fun i a h => R.inp i a (wipeF_mem h).2, R.al, R.tb⟩
  · rw [wipeA_get] at h2
    split at h2
    · rename_i m
      obtain ⟨_, _, rfl⟩ := Option.map_eq_some_iff.mp h2
      show wipeF A vs i = []
      unfold wipeF
      rw [if_pos m]
    · rename_i n
      have e : wipeF A vs i = A i := by unfold wipeF; rw [if_neg n]
      rw [e, wipe_get, if_neg n]
      exact R.sl i r h2
  · unfold wipeF
    split
    · rfl
    · rename_i n
      rw [wipeA_get, if_neg n] at h
      exact R.out i h
  · unfold wipeF
    split
    · exact .nil
    · exact R.nd i
theorem step_wipe (vs : List Nat) (hn : noFix α vs) : Step p H σ α A p H (wipe σ vs) (wipeA α vs) (wipeF A vs) := by
  refine ⟨fun _ _ _ h _ => .inl h, fun _ h => h, fun i b h => .inl (wipeF_mem h).2, fun _ h => .inl h, fun _ h => .inl h, wipeA_length vs, fun i r h f => ?_, fun i r h f => ?_⟩
  · have n : i ∉ vs := fun m => by
      have := hn i m r h
      rw [f] at this
      cases this
    rw [wipe_get, wipeA_get, if_neg n, if_neg n]
    exact ⟨rfl, r, h, .refl⟩
  · rw [wipeA_get] at h
    split at h
    · obtain ⟨_, _, rfl⟩ := Option.map_eq_some_iff.mp h
      cases f
    · exact ⟨r, h, f⟩
/-- behind a block: the slots are the def's again -/
theorem rel_back {vs : List Nat} (R0 : Rel K p H σ α0 A0) (hn : noRoots α0 vs) (S : Step p H (wipe σ vs) (wipeA α0 vs) (wipeF A0 vs) p' H' σ' α' A') (R : Rel K p' H' σ' α' A') (hw : wipe σ' vs = wipe σ vs) :
    Rel K p' H' σ (backA α0 α' vs) (wipeF A' vs) ∧ Step p H σ α0 A0 p' H' σ (backA α0 α' vs) (wipeF A' vs) := by
  have hlen : σ'.length = σ.length := by
    have := congrArg List.length hw
    rwa [wipe_length, wipe_length] at this
  have hla : α'.length = α0.length := by rw [S.ln, wipeA_length]
  have same : ∀ i, i ∉ vs → σ'[i]? = σ[i]? := fun i n => by
    have := congrArg (fun l => l[i]?) hw
    simp only [wipe_get, if_neg n] at this
    exact this
  have t := S.tr (rel_wipe R0 vs)
  refine ⟨⟨by rw [R0.len]; unfold backA; rw [List.length_mapIdx, hla], fun i r h2 => ?_, fun i h => ?_, fun i => ?_, fun i j a h1 h2 => R.dj i j a (wipeF_mem h1).2 (wipeF_mem h2).2, fun i a h => R.inp i a (wipeF_mem h).2, R.al, R.tb⟩,
    ⟨fun b o ht h n => S.keep b o ht h fun i z => n i (wipeF_mem z).2, S.dom, fun i b h => ?_, S.sub, fun b m => ?_, by unfold backA; rw [List.length_mapIdx, hla], fun i r h f => ?_, fun i r h f => ?_⟩⟩
  · rw [backA_get] at h2
    obtain ⟨s, e1, e2⟩ := Option.map_eq_some_iff.mp h2
    split at e2
    · rename_i m
      have e : wipeF A' vs i = [] := by unfold wipeF; rw [if_pos m]
      rw [e]
      cases q : α0[i]? with
      | none => rw [q] at e2; subst e2; rfl
      | some u =>
        rw [q] at e2
        have e3 : u = r := e2
        subst e3
        have z := R0.sl i u q
        have nr := hn i m u q
        cases u with
        | un => rfl
        | d x => obtain ⟨_, v, e, d⟩ := z; exact ⟨rfl, v, e, d.tr t⟩
        | r f l xs => cases nr
        | n f l xs => cases nr
        | sc ns =>
          obtain ⟨_, a, e, sq⟩ := z
          rcases sq with ⟨na, sq⟩ | sq
          · exact ⟨rfl, a, e, .inl ⟨(t.mt a _ rfl na sq).2, (t.mt a _ rfl na sq).1⟩⟩
          · exact ⟨rfl, a, e, .inr sq⟩
        | g φ => obtain ⟨_, a, e, h, k⟩ := z; exact ⟨rfl, a, e, k _ _ _ _ t h, k⟩
    · rename_i n
      subst e2
      have e : wipeF A' vs i = A' i := by unfold wipeF; rw [if_neg n]
      rw [e, ← same i n]
      exact R.sl i s e1
  · unfold wipeF
    split
    · rfl
    · rw [backA_get] at h
      exact R.out i (Option.map_eq_none_iff.mp h)
  · unfold wipeF
    split
    · exact .nil
    · exact R.nd i
  · rcases S.new i b (wipeF_mem h).2 with y | y
    · exact .inl (wipeF_mem y).2
    · exact .inr y
  · rcases S.mono b m with z | ⟨i, z⟩
    · exact .inl z
    · exact .inr ⟨i, (wipeF_mem z).2⟩
  · have n : i ∉ vs := fun m => by
      have := hn i m r h
      rw [isRoot_of_isFix f] at this
      cases this
    have h' : (wipeA α0 vs)[i]? = some r := by rw [wipeA_get, if_neg n]; exact h
    obtain ⟨e1, s, e2, e3⟩ := S.fix i r h' f
    exact ⟨rfl, s, by rw [backA_get, e2]; simp only [Option.map_some, if_neg n], e3⟩
  · rw [backA_get] at h
    obtain ⟨s, e1, e2⟩ := Option.map_eq_some_iff.mp h
    split at e2
    · cases q : α0[i]? with
      | none => rw [q] at e2; subst e2; cases f
      | some u => rw [q] at e2; have e3 : u = r := e2; subst e3; exact ⟨u, rfl, f⟩
    · rename_i n
      subst e2
      obtain ⟨u, e3, f3⟩ := S.nof i s e1 f
      rw [wipeA_get, if_neg n] at e3
      exact ⟨u, e3, f3⟩
structure RefB (K : PySem.W.Frag) (g : TG) (m : MG) (vs : List Nat) : Prop where
  go : ∀ p H σ α A v x α' Q, Rel K p H σ α A → Dz K p H v x → m x α = some α' →
    (∀ σ' A', Rel K p H σ' α' A' → Step p H σ α A p H σ' α' A' → wipe σ' vs = wipe σ vs → Q σ' H) → g v σ H Q
theorem wipe_set {i : Nat} {vs : List Nat} (hi : i ∈ vs) (v : Option V) : wipe (σ.set i v) vs = wipe σ vs := by
  apply List.ext_getElem?
  intro j
  rw [wipe_get, wipe_get]
  by_cases e : j = i
  · subst e
    rw [if_pos hi, if_pos hi]
    by_cases h : j < σ.length
    · rw [List.getElem?_set_self h, List.getElem?_eq_getElem h]
      rfl
    · rw [List.getElem?_eq_none_iff.mpr (by rw [List.length_set]; omega), List.getElem?_eq_none_iff.mpr (by omega)]
  · rw [List.getElem?_set_ne (fun z => e z.symm)]
theorem ref_bName {i : Nat} {vs : List Nat} (hi : i ∈ vs) : RefB K (gName i) (setD i) vs := ⟨fun p H σ α A v x α' Q R d e h => by
  obtain ⟨r, e1, e2, rfl⟩ := setD_some e
  have ⟨a, b⟩ := rel_setD R d e1 e2
  exact h _ _ a b (wipe_set hi _)⟩
def tYesM : MT := fun α => some (true, α)
theorem ref_yes : RefT K tYes tYesM := ⟨fun p H σ α A b α' Q R e h => by cases e; exact h p H A R .refl⟩
def HO.noTup : HO → Prop
  | .tup _ => False
  | .tbl _ => False
  | .ext _ => False
  | _ => True
theorem noTup_tbl {o : HO} (hn : HO.noTup o) : HO.isTbl o = false := by cases o <;> first | exact hn.elim | rfl
theorem noTup_na {a : Addr} {o : HO} (ho : H a = some o) (hn : HO.noTup o) : ∀ u, H a = some u → HO.isTbl u = false ∧ ∀ φ, u ≠ .ext φ := fun u e => by
  rw [ho] at e
  cases e
  cases o <;> first | exact hn.elim | exact ⟨rfl, fun φ z => by cases z⟩
theorem tr_upd {a : Addr} {o o' : HO} (hp : a ∈ p) (ho : H a = some o) (hn : HO.noTup o) : Tr p H p (L2.upd H a o') := by
  have ne : ∀ b, b ∉ p → b ≠ a := fun b n e => n (e ▸ hp)
  refine ⟨fun b u _ n r => ⟨Rd.same (fun o e => by rw [upd_ne (ne b n)]; exact e) r, n⟩, fun b xs n r => by rw [upd_ne (ne b n)]; exact r, fun b xs r => ?_, fun b o u n r => by rw [upd_ne (ne b n)]; exact r⟩
  by_cases e : b = a
  · subst e; rw [ho] at r; cases r; exact hn.elim
  · rw [upd_ne e]; exact r
theorem rel_upd {a : Addr} {o o' : HO} (R : Rel K p H σ α A) (hp : a ∈ p) (ho : H a = some o) (hn : HO.noTup o) (nr : ∀ i, a ∉ A i) : Rel K p (L2.upd H a o') σ α A :=
  ⟨R.len, fun i r e => (R.sl i r e).tr (tr_upd hp ho hn) fun c m u q => by rw [upd_ne (fun z => by subst z; exact nr i m)]; exact q, R.out, R.nd, R.dj, R.inp, fun b m z => by
    by_cases e : b = a
    · subst e; rw [upd_same] at z; cases z
    · rw [upd_ne e] at z; exact R.al b m z, R.tb.put (fun b u ne e => by rw [upd_ne ne]; exact e) (noTup_na ho hn) fun b m => .inl m⟩
theorem Step.upd {a : Addr} {o : HO} (S : Step p H σ α A p' H' σ' α' A') (h : H a = none) : Step p H σ α A p' (L2.upd H' a o) σ' α' A' :=
  ⟨fun b u ht e n => by
    have ne : b ≠ a := fun z => by rw [z, h] at e; cases e
    rcases S.keep b u ht e n with z | ⟨z1, z2, od, z3⟩
    · exact .inl (by rw [upd_ne ne]; exact z)
    · exact .inr ⟨z1, z2, od, by rw [upd_ne ne]; exact z3⟩, fun b e => by
    by_cases z : b = a
    · subst z; rw [upd_same] at e; cases e
    · rw [upd_ne z] at e; exact S.dom b e, S.new, S.sub, S.mono, S.ln, S.fix, S.nof⟩
theorem rel_new {a : Addr} {o : HO} (R : Rel K p H σ α A) (h : H a = none) : Rel K (a :: p) (L2.upd H a o) σ α A ∧ Step p H σ α A (a :: p) (L2.upd H a o) σ α A ∧ ∀ i, a ∉ A i := by
  have na : ∀ i, a ∉ A i := fun i m => R.in_al m h
  have s := same_new (o := o) h
  refine ⟨⟨R.len, fun i r e => (R.sl i r e).tr (tr_new h s) fun c m u q => s c u q, R.out, R.nd, R.dj, fun i b m => List.mem_cons_of_mem _ (R.inp i b m), fun b m z => ?_, (R.tb.sub (q := a :: p) fun b m => ?_).same s⟩,
    ⟨fun b u _ e _ => .inl (s b u e), fun b e => Same.free s e, fun i b m => .inl m, fun b m => ?_, fun b m => .inl (List.mem_cons_of_mem _ m), rfl, fun i r e f => ⟨rfl, r, e, .refl⟩, fun i r e f => ⟨r, e, f⟩⟩, na⟩
  · rcases List.mem_cons.mp m with e | m
    · subst e; rw [upd_same] at z; cases z
    · exact R.al b m (Same.free s z)
  · rcases List.mem_cons.mp m with e | m
    · exact .inr (e ▸ h)
    · exact .inl m
  · rcases List.mem_cons.mp m with e | m
    · exact .inr (e ▸ h)
    · exact .inl m
abbrev MF := AS → Option (Nw × AS)
structure RefF (K : PySem.W.Frag) (t : TE) (m : MF) : Prop where
  go : ∀ p H σ α A r α' Q, Rel K p H σ α A → m α = some (r, α') →
    (∀ p' H' A' a as, Rel K p' H' σ α' A' → Step p H σ α A p' H' σ α' A' → Fresh p' H A' (a :: as) → NewR K p' H' a as r → Q (.ref a) H') → t σ H Q
/-- an own thing becomes data -/
theorem Top.frz {a : Addr} {x : Da} {q : List Addr} {lk : Bool} (h : Top K p H lk a x) (l : ∀ b ∈ q, b ∈ p) (n : a ∉ q) : Dz K q H (.ref a) x := by
  have t := tr_less (H := H) l
  cases x with
  | list xs => obtain ⟨vs, h1, h2, h3⟩ := h; exact .lst n h1 h2 (h3.tr t)
  | dk xs => obtain ⟨vs, h1, h2, h3⟩ := h; exact .dk n h1.rd h2 (h3.tr t)
  | dt xs => obtain ⟨vs, h1, h2, h3⟩ := h; exact .dt n h1.rd h2 (h3.tr t)
  | _ => exact h.elim
theorem KidsK.frz {q : List Addr} (l : ∀ b ∈ q, b ∈ p) : ∀ {r : List (Key × V)} {s : List (Key × Da)} {as : List Addr}, (∀ b ∈ as, b ∉ q) → KidsK K p H r s as → DzK K q H r s
  | _, _, _, _, .nil => .nil
  | _, _, _, k, .cons h1 h2 h3 => .cons h1 (h2.frz l (k _ (List.mem_cons_self ..))) (KidsK.frz l (fun b m => k b (List.mem_cons_of_mem _ m)) h3)
theorem KidsT.frz {q : List Addr} (l : ∀ b ∈ q, b ∈ p) : ∀ {r : List (List Key × V)} {s : List (List Key × Da)} {as : List Addr}, (∀ b ∈ as, b ∉ q) → KidsT K p H r s as → DzT K q H r s
  | _, _, _, _, .nil => .nil
  | _, _, _, k, .cons h1 h2 h3 => .cons h1 (h2.frz l (k _ (List.mem_cons_self ..))) (KidsT.frz l (fun b m => k b (List.mem_cons_of_mem _ m)) h3)
theorem Nest.frz {a : Addr} {as : List Addr} {x : Da} {q : List Addr} {lk : Bool} (h : Nest K p H lk a as x) (l : ∀ b ∈ q, b ∈ p) (n : ∀ b ∈ a :: as, b ∉ q) : Dz K q H (.ref a) x := by
  cases x with
  | dk xs => obtain ⟨vs, h1, h2, h3⟩ := h; exact .dk (n a (List.mem_cons_self ..)) h1.rd h2 (h3.frz l fun b m => n b (List.mem_cons_of_mem _ m))
  | dt xs => obtain ⟨vs, h1, h2, h3⟩ := h; exact .dt (n a (List.mem_cons_self ..)) h1.rd h2 (h3.frz l fun b m => n b (List.mem_cons_of_mem _ m))
  | _ => exact h.elim
/-- some addresses that no slot has are let go -/
theorem rel_drop {as : List Addr} (R : Rel K p H σ α A) (na : ∀ b ∈ as, ∀ i, b ∉ A i) : Rel K (p.filter fun b => decide (b ∉ as)) H σ α A := by
  have less : ∀ b ∈ p.filter (fun b => decide (b ∉ as)), b ∈ p := fun b m => (List.mem_filter.mp m).1
  exact ⟨R.len, fun i r e => (R.sl i r e).tr (tr_less less) fun c _ u q => q, R.out, R.nd, R.dj, fun i b m => List.mem_filter.mpr ⟨R.inp i b m, decide_eq_true fun z => na b z i m⟩, fun b m => R.al b (less b m), R.tb.sub fun b m => .inl (less b m)⟩
def eF (m : MF) : ME := fun α => (m α).bind fun x => some (.d x.1.da, x.2)
theorem ref_F {t : TE} {m : MF} (hf : RefF K t m) : RefE K t (eF m) := ⟨fun p H σ α A l α' Q R e h => by
  simp only [eF, Option.bind_eq_some_iff] at e
  obtain ⟨⟨r, α1⟩, e1, e3⟩ := e
  cases e3
  refine hf.go p H σ α A r α1 _ R e1 fun p1 H1 A1 a as R1 S1 fr nw => ?_
  have less : ∀ b ∈ p1.filter (fun b => decide (b ∉ a :: as)), b ∈ p1 := fun b m => (List.mem_filter.mp m).1
  have nin : ∀ b ∈ a :: as, b ∉ p1.filter (fun b => decide (b ∉ a :: as)) := fun b m z => by
    have := (List.mem_filter.mp z).2
    exact of_decide_eq_true this m
  refine h _ H1 A1 (.ref a) (rel_drop R1 fr.noA) ⟨S1.keep, S1.dom, S1.new, fun b m => S1.sub b (less b m), fun b m => ?_, S1.ln, S1.fix, S1.nof⟩ ?_
  · rcases S1.mono b m with z | z
    · exact .inl (List.mem_filter.mpr ⟨z, decide_eq_true fun y => R.al b m (fr.non b y)⟩)
    · exact .inr z
  · cases r with
    | r x => exact nw.2.frz less (nin a (List.mem_cons_self ..))
    | n x => exact nw.frz less nin⟩
/-- x = a new thing that x alone holds -/
def setR (i : Nat) (r : Nw) (α : AS) : Option AS := match α[i]? with
  | some q => if q.isFix = true then none else some (α.set i r.av)
  | none => none
def sAsgR (i : Nat) (m : MF) : MS := fun α => (m α).bind fun x => (setR i x.1 x.2).bind fun β => some (.nx β)
theorem setR_some {i : Nat} {x : Nw} (h : setR i x α = some α') : ∃ r, α[i]? = some r ∧ r.isFix = false ∧ α' = α.set i x.av := by
  unfold setR at h
  split at h
  · rename_i r e
    split at h
    · cases h
    · rename_i n
      cases h
      exact ⟨r, e, by simpa using n, rfl⟩
  · cases h
theorem new_slot {a : Addr} {as : List Addr} {r : Nw} (nw : NewR K p H a as r) : SlotR K p H (some (.ref a)) (a :: as) r.av := by
  cases r with
  | r x => obtain ⟨rfl, t⟩ := nw; exact ⟨a, rfl, rfl, t⟩
  | n x => exact ⟨a, as, rfl, rfl, nw⟩
theorem av_fix (r : Nw) : r.av.isFix = false := by cases r <;> rfl
theorem rel_setR {i : Nat} {q : AV} {r : Nw} {a : Addr} {as : List Addr} (R : Rel K p H σ α A) (R1 : Rel K p' H' σ α' A') (S1 : Step p H σ α A p' H' σ α' A') (fr : Fresh p' H A' (a :: as)) (nw : NewR K p' H' a as r) (hi : α'[i]? = some q) (hf : q.isFix = false) :
    Rel K p' H' (σ.set i (some (.ref a))) (α'.set i r.av) (setF A' i (a :: as)) ∧ Step p H σ α A p' H' (σ.set i (some (.ref a))) (α'.set i r.av) (setF A' i (a :: as)) := by
  refine ⟨rel_put R1 hi (new_slot nw) fr.nd fr.inp fun b m j _ => fr.noA b m j, ?_⟩
  have hia : i < α'.length := (List.getElem?_eq_some_iff.mp hi).1
  refine ⟨S1.keep, S1.dom, fun j b m => ?_, S1.sub, S1.mono, by rw [List.length_set]; exact S1.ln, fun j s e g => ?_, fun j s e g => ?_⟩
  · rcases setF_mem m with ⟨_, m⟩ | ⟨_, m⟩
    · exact .inr (fr.non b m)
    · exact S1.new j b m
  · obtain ⟨e1, s1, e2, k⟩ := S1.fix j s e g
    have ne : j ≠ i := fun z => by subst z; rw [hi] at e2; cases e2; rw [k.fx, g] at hf; cases hf
    rw [List.getElem?_set_ne (fun z => ne z.symm), List.getElem?_set_ne (fun z => ne z.symm)]
    exact ⟨rfl, s1, e2, k⟩
  · by_cases z : j = i
    · subst z
      rw [List.getElem?_set_self hia] at e
      cases e
      rw [av_fix] at g; cases g
    · rw [List.getElem?_set_ne (fun y => z y.symm)] at e
      exact S1.nof j s e g
theorem ref_asgR {t : TE} {m : MF} {i : Nat} (hf : RefF K t m) : RefS K (tAsg t (gName i)) (sAsgR i m) := ⟨fun p H σ α A o D R e h => by
  simp only [sAsgR, Option.bind_eq_some_iff] at e
  obtain ⟨⟨r, α1⟩, e1, β, e2, e3⟩ := e
  cases e3
  obtain ⟨q, e4, e5, rfl⟩ := setR_some e2
  refine hf.go p H σ α A r α1 _ R e1 fun p1 H1 A1 a as R1 S1 fr nw => ?_
  have ⟨R2, S2⟩ := rel_setR R R1 S1 fr nw e4 e5
  exact h p1 H1 _ _ R2 S2⟩
/-- return of a new thing -/
def sRetF (m : MF) : MS := fun α => (m α).bind fun x => some (.rt (.nw x.1) x.2)
theorem ref_retF {t : TE} {m : MF} (hf : RefF K t m) : RefS K (tRet t) (sRetF m) := ⟨fun p H σ α A o D R e h => by
  simp only [sRetF, Option.bind_eq_some_iff] at e
  obtain ⟨⟨r, α1⟩, e1, e3⟩ := e
  cases e3
  exact hf.go p H σ α A r α1 _ R e1 fun p1 H1 A1 a as R1 S1 fr nw => h p1 H1 σ A1 _ R1 S1 ⟨a, as, rfl, fr, nw⟩⟩
/-- slot i's own thing is data from now on -/
def sFrz (i : Nat) (m : MS) : MS := fun α => match α[i]? with
  | some (.r false false x) => m (α.set i (.d x))
  | some (.n false false x) => m (α.set i (.d x))
  | _ => none
theorem frz_core {i : Nat} {r : AV} {x : Da} (R : Rel K p H σ α A) (hi : α[i]? = some r) (hr : r = .r false false x ∨ r = .n false false x) :
    ∃ p', Rel K p' H σ (α.set i (.d x)) (setF A i []) ∧ Step p H σ α A p' H σ (α.set i (.d x)) (setF A i []) := by
  have less : ∀ b ∈ p.filter (fun b => decide (b ∉ A i)), b ∈ p := fun b m => (List.mem_filter.mp m).1
  have nin : ∀ b ∈ A i, b ∉ p.filter (fun b => decide (b ∉ A i)) := fun b m z => of_decide_eq_true (List.mem_filter.mp z).2 m
  have hia : i < α.length := (List.getElem?_eq_some_iff.mp hi).1
  have his := R.lt hi
  have dz : ∃ v, (σ[i]?).join = some v ∧ Dz K (p.filter fun b => decide (b ∉ A i)) H v x := by
    have z := R.sl i r hi
    rcases hr with rfl | rfl
    · obtain ⟨a, e1, e2, t⟩ := z
      exact ⟨_, e1, t.frz less (nin a (by rw [e2]; exact List.mem_cons_self ..))⟩
    · obtain ⟨a, as, e1, e2, t⟩ := z
      exact ⟨_, e1, t.frz less fun b m => nin b (by rw [e2]; exact m)⟩
  obtain ⟨v, e1, dz⟩ := dz
  have rf : r.isFix = false := by rcases hr with rfl | rfl <;> rfl
  have es : σ.set i (some v) = σ := by
    apply List.ext_getElem?
    intro j
    by_cases e : j = i
    · subst e
      rw [List.getElem?_set_self his]
      rw [List.getElem?_eq_getElem his] at e1 ⊢
      exact congrArg some e1.symm
    · rw [List.getElem?_set_ne (fun z => e z.symm)]
  have R0 : Rel K p H σ (α.set i .un) (setF A i []) := by
    have z := rel_put (o := some v) (f := []) (r := .un) R hi rfl .nil (fun _ m => (List.not_mem_nil m).elim) (fun _ m => (List.not_mem_nil m).elim)
    rwa [es] at z
  have R1 := rel_drop (as := A i) R0 (fun b m j z => by
    rcases setF_mem z with ⟨_, z⟩ | ⟨n, z⟩
    · exact List.not_mem_nil z
    · exact n (R.dj j i b z m))
  refine ⟨p.filter fun b => decide (b ∉ A i), ?_, ?_⟩
  · have z := rel_put (o := some v) (f := []) (r := .d x) (i := i) (q := .un) R1 (List.getElem?_set_self hia) ⟨rfl, v, rfl, dz⟩ .nil (fun _ m => (List.not_mem_nil m).elim) (fun _ m => (List.not_mem_nil m).elim)
    rw [es, List.set_set] at z
    have ef : setF (setF A i []) i [] = setF A i [] := by funext j; unfold setF; split <;> rfl
    rwa [ef] at z
  · have z := step_put (o := some v) (f := []) (r := .d x) R hi rf rfl (fun _ m => (List.not_mem_nil m).elim)
    rw [es] at z
    refine ⟨z.keep, z.dom, z.new, fun b m => .inl (less b m), fun b m => ?_, z.ln, z.fix, z.nof⟩
    by_cases y : b ∈ A i
    · exact .inr ⟨i, y⟩
    · exact .inl (List.mem_filter.mpr ⟨m, decide_eq_true y⟩)
theorem ref_frz {t : TS} {m : MS} {i : Nat} (h : RefS K t m) : RefS K t (sFrz i m) := ⟨fun p H σ α A o D R e q => by
  unfold sFrz at e
  split at e
  · rename_i x hi
    obtain ⟨p1, R1, S1⟩ := frz_core R hi (.inl rfl)
    exact h.go p1 H σ _ _ o D R1 e (q.step R S1)
  · rename_i x hi
    obtain ⟨p1, R1, S1⟩ := frz_core R hi (.inr rfl)
    exact h.go p1 H σ _ _ o D R1 e (q.step R S1)
  · cases e⟩
def fLst (ma : MA) : MF := fun α => (ma α).bind fun x => (ownA x.2 x.1).bind fun xs => if xs.length ≤ LIM then some (.r (.list xs), x.2) else none
theorem fresh_one {a : Addr} (hp : a ∈ p) (hn : H a = none) (na : ∀ i, a ∉ A i) : Fresh p H A [a] :=
  ⟨fun b m => by cases List.mem_singleton.mp m; exact hp, fun b m => by cases List.mem_singleton.mp m; exact hn, fun b m => by cases List.mem_singleton.mp m; exact na, by simp⟩
theorem ref_fLst {ta : TA} {ma : MA} (ha : RefA K ta ma) : RefF K (tLst ta) (fLst ma) :=
  ⟨fun p H σ α A l α' Q R e h => by
    simp only [fLst, Option.bind_eq_some_iff] at e
    obtain ⟨⟨l1, α1⟩, e1, xs, e2, e3⟩ := e
    split at e3
    · rename_i hl
      cases e3
      refine ha.go p H σ α A l1 α1 _ R e1 fun p1 H1 A1 v R1 S1 q1 => ?_
      have z := ownA_dz R1 q1 e2
      have hv : v.length ≤ LIM := by rw [z.length]; exact hl
      refine ⟨line_of hv, fun a ha => ?_⟩
      obtain ⟨R2, S2, nr⟩ := rel_new (o := .lst v) R1 ha
      exact h _ _ A1 a [] R2 (S1.trans R S2) (fresh_one (List.mem_cons_self ..) (S1.dom a ha) nr) ⟨rfl, v, upd_same, hv, z.tr (tr_new ha (same_new ha))⟩
    · cases e3⟩
def fDK (nest : Bool) : MF := fun α => some (if nest = true then .n (.dk []) else .r (.dk []), α)
def fDT (nest : Bool) : MF := fun α => some (if nest = true then .n (.dt []) else .r (.dt []), α)
theorem ref_fDK {nest : Bool} : RefF K tDNewK (fDK nest) := ⟨fun p H σ α A l α' Q R e h => by
  cases e
  intro a ha
  obtain ⟨R2, S2, nr⟩ := rel_new (o := .dK []) R ha
  refine h _ _ A a [] R2 S2 (fresh_one (List.mem_cons_self ..) ha nr) ?_
  cases nest
  · exact ⟨rfl, [], .of upd_same, Nat.zero_le _, .nil⟩
  · exact ⟨[], .of upd_same, Nat.zero_le _, .nil⟩⟩
theorem ref_fDT {nest : Bool} : RefF K tDNewT (fDT nest) := ⟨fun p H σ α A l α' Q R e h => by
  cases e
  intro a ha
  obtain ⟨R2, S2, nr⟩ := rel_new (o := .dT []) R ha
  refine h _ _ A a [] R2 S2 (fresh_one (List.mem_cons_self ..) ha nr) ?_
  cases nest
  · exact ⟨rfl, [], .of upd_same, Nat.zero_le _, .nil⟩
  · exact ⟨[], .of upd_same, Nat.zero_le _, .nil⟩⟩
end
end Vm
namespace Vm
open PySem PySem.Spec PyProof.Rows L2 Gk
section
variable {K : PySem.W.Frag} {p p' p2 p0 : List Addr} {H H' H2 H0 : Hp} {σ σ' σ2 σ0 : L2.St} {α α' α2 α0 : AS} {A A' A2 A0 : FT}
theorem Tr.trans (a : Tr p H p' H') (b : Tr p' H' p2 H2) : Tr p H p2 H2 :=
  ⟨fun x u hu n r => let z := a.mt x u hu n r; b.mt x u hu z.2 z.1, fun x xs n r => b.ls x xs (a.mt x _ rfl n (.inl r)).2 (a.ls x xs n r), fun x xs r => b.tp x xs (a.tp x xs r), fun x o u n r => b.fz x o u (a.mt x (.frz o u) rfl n (.inl r)).2 (a.fz x o u n r)⟩
theorem ItR.mono {J : It} {xs : List Da} {dep : List Nat} (h : ItR K p H σ α J xs dep) (t : Tr p H p' H') : ItR K p' H' σ α J xs dep :=
  ⟨fun p1 H1 σ1 α1 A1 R1 t1 d => h.go p1 H1 σ1 α1 A1 R1 (t.trans t1) d⟩
/-- the heap without D -/
def offD (H : Hp) (D : Addr) : Hp := fun b => if b = D then none else H b
theorem offD_ne {D b : Addr} (h : b ≠ D) : offD H D b = H b := by unfold offD; rw [if_neg h]
theorem offD_same {D : Addr} : offD H D D = none := by unfold offD; rw [if_pos rfl]
theorem tr_off {D : Addr} {o : HO} (hD : D ∈ p) (ho : H D = some o) (hn : HO.noTup o) : Tr p H (p.filter fun b => decide (b ≠ D)) (offD H D) := by
  have ne : ∀ b, b ∉ p → b ≠ D := fun b n e => n (e ▸ hD)
  refine ⟨fun b u _ n r => ⟨Rd.same (fun o e => by rw [offD_ne (ne b n)]; exact e) r, fun m => n (List.mem_filter.mp m).1⟩, fun b xs n r => by rw [offD_ne (ne b n)]; exact r, fun b xs r => ?_, fun b o u n r => by rw [offD_ne (ne b n)]; exact r⟩
  by_cases e : b = D
  · subst e; rw [ho] at r; cases r; exact hn.elim
  · rw [offD_ne e]; exact r
theorem rel_off {D : Addr} {o : HO} (R : Rel K p H σ α A) (hD : D ∈ p) (ho : H D = some o) (hn : HO.noTup o) (nr : ∀ i, D ∉ A i) : Rel K (p.filter fun b => decide (b ≠ D)) (offD H D) σ α A := by
  have ne : ∀ i, ∀ b ∈ A i, b ≠ D := fun i b m e => nr i (e ▸ m)
  refine ⟨R.len, fun i r e => (R.sl i r e).tr (tr_off hD ho hn) fun c m u q => by rw [offD_ne (ne i c m)]; exact q, R.out, R.nd, R.dj, fun i b m => List.mem_filter.mpr ⟨R.inp i b m, decide_eq_true (ne i b m)⟩, fun b m z => ?_, (R.tb.put (a := D) (fun b o ne e => by rw [offD_ne ne]; exact e) (noTup_na ho hn) fun b m => .inl (List.mem_filter.mp m).1)⟩
  have := of_decide_eq_true (List.mem_filter.mp m).2
  rw [offD_ne this] at z
  exact R.al b (List.mem_filter.mp m).1 z
theorem step_off {D : Addr} (R0 : Rel K p0 H0 σ0 α0 A0) (S : Step p0 H0 σ0 α0 A0 p H σ α A) (h0 : H0 D = none) : Step p0 H0 σ0 α0 A0 (p.filter fun b => decide (b ≠ D)) (offD H D) σ α A := by
  refine ⟨fun b o ht e n => ?_, fun b e => ?_, S.new, fun b m => S.sub b (List.mem_filter.mp m).1, fun b m => ?_, S.ln, S.fix, S.nof⟩
  · have ne : b ≠ D := fun z => by rw [z, h0] at e; cases e
    rcases S.keep b o ht e n with z | ⟨z1, z2, od, z3⟩
    · exact .inl (by rw [offD_ne ne]; exact z)
    · exact .inr ⟨z1, z2, od, by rw [offD_ne ne]; exact z3⟩
  · by_cases z : b = D
    · exact z ▸ h0
    · rw [offD_ne z] at e; exact S.dom b e
  · rcases S.mono b m with z | z
    · exact .inl (List.mem_filter.mpr ⟨z, decide_eq_true fun y => R0.al b m (y ▸ h0)⟩)
    · exact .inr z
/-- back from the heap without D -/
theorem step_on {D : Addr} (hD : D ∈ p) : Step (p.filter fun b => decide (b ≠ D)) (offD H D) σ α A p H σ α A := by
  refine ⟨fun b o _ e n => .inl ?_, fun b e => ?_, fun i b m => .inl m, fun b m => ?_, fun b m => .inl (List.mem_filter.mp m).1, rfl, fun i r e f => ⟨rfl, r, e, .refl⟩, fun i r e f => ⟨r, e, f⟩⟩
  · have ne : b ≠ D := fun z => by rw [z, offD_same] at e; cases e
    rw [offD_ne ne] at e
    exact e
  · by_cases z : b = D
    · rw [z]; exact offD_same
    · rw [offD_ne z]; exact e
  · by_cases z : b = D
    · exact .inr (z ▸ offD_same)
    · exact .inl (List.mem_filter.mpr ⟨m, decide_eq_true z⟩)
/-- what a comprehension grows -/
structure AccOk {β : Type} (Acc : List Addr → Hp → Addr → List β → Prop) : Prop where
  mv : ∀ {p H p' H' D done}, Acc p H D done → Tr p H p' H' → H' D = H D → Acc p' H' D done
  ob : ∀ {p H D done}, Acc p H D done → ∃ o, H D = some o ∧ HO.noTup o
structure RefC (K : PySem.W.Frag) {β : Type} (Acc : List Addr → Hp → Addr → List β → Prop) (u : L2.St → Hp → Addr → (Hp → Prop) → Prop) (m : AS → Option (List β × AS)) : Prop where
  go : ∀ p0 H0 σ0 α0 A0 p H σ α A D done ys α' Nx, Rel K p0 H0 σ0 α0 A0 → Step p0 H0 σ0 α0 A0 p H σ α A → H0 D = none → Rel K p H σ α A → D ∈ p → (∀ i, D ∉ A i) → Acc p H D done → m α = some (ys, α') → done.length + ys.length ≤ LIM →
    (∀ p' H' A', Rel K p' H' σ α' A' → Step p0 H0 σ0 α0 A0 p' H' σ α' A' → D ∈ p' → (∀ i, D ∉ A' i) → Acc p' H' D (done ++ ys) → Nx H') → u σ H D Nx
def cmL {β : Type} (vs : List Nat) (g : MG) (tt : MT) (u : AS → Option (List β × AS)) : List Da → AS → Option (List β × AS)
  | [], α => some ([], α)
  | x :: xs, α => (g x α).bind fun α1 => (tt α1).bind fun b => if b.1 = true
    then (u b.2).bind fun y => (cmL vs g tt u xs (wipeA y.2 vs)).bind fun r => some (y.1 ++ r.1, r.2)
    else cmL vs g tt u xs (wipeA b.2 vs)
/-- the loop of a block -/
def LoopB (J : It) (g : TG) (tt : TT) (u : L2.St → Hp → (Hp → Prop) → Prop) (vs : List Nat) (σ : L2.St) (H : Hp) (Fin : Hp → Prop) : Prop :=
  ∃ W : Nat → Nat → Hp → Prop, (∃ m, W 0 m H) ∧ ∀ i m H, W i m H →
    (J.stop i H ∧ Fin H) ∨ (J.go i H ∧ ∃ Nx : Hp → Prop, (∀ H', Nx H' → ∃ m', m' < m ∧ W (i + 1) m' H') ∧ ∀ x H', J.yld i H x H' → g x (wipe σ vs) H' fun σ2 H2 => wipe σ2 vs = wipe σ vs ∧ tt σ2 H2 fun b H3 => if b = true then u σ2 H3 Nx else Nx H3)
def CmW (K : PySem.W.Frag) {β : Type} (Acc : List Addr → Hp → Addr → List β → Prop) (ps : List Addr) (Hs : Hp) (σw : L2.St) (αs : AS) (As : FT) (vs : List Nat) (mg : MG) (mt : MT) (mu : AS → Option (List β × AS)) (xs : List Da) (done ys : List β) (αe : AS) (D : Addr) (i m : Nat) (H : Hp) : Prop :=
  m = xs.length - i ∧ i ≤ xs.length ∧ ∃ p α A d2 rest, Rel K p H σw α A ∧ Step ps Hs σw αs As p H σw α A ∧ D ∈ p ∧ (∀ i, D ∉ A i) ∧ Acc p H D (done ++ d2) ∧ cmL vs mg mt mu (xs.drop i) α = some (rest, αe) ∧ d2 ++ rest = ys
theorem loop_core {β : Type} {Acc : List Addr → Hp → Addr → List β → Prop} (ha : AccOk Acc) {J : It} {g : TG} {tt : TT} {u : L2.St → Hp → Addr → (Hp → Prop) → Prop} {vs : List Nat} {mg : MG} {mt : MT} {mu : AS → Option (List β × AS)}
    (hg : RefB K g mg vs) (ht : RefT K tt mt) (hu : RefC K Acc u mu) {D : Addr} {done ys : List β} {xs : List Da} {dep : List Nat} {αe : AS} {Fin : Hp → Prop}
    (R0 : Rel K p0 H0 σ0 α0 A0) (S : Step p0 H0 σ0 α0 A0 p H σ α A) (hD0 : H0 D = none) (R : Rel K p H σ α A) (hDp : D ∈ p) (nD : ∀ i, D ∉ A i) (acc : Acc p H D done)
    (it : ItR K p H σ α J xs dep) (lkb : Lockable α dep) (hn : noRoots α vs) (hd : ∀ i ∈ dep, i ∉ vs)
    (e : cmL vs mg mt mu xs (lockA (wipeA α vs) dep) = some (ys, αe)) (hl : done.length + ys.length ≤ LIM)
    (fin : ∀ p' H' A', Rel K p' H' σ (backA α (freeA (wipeA α vs) αe dep) vs) A' → Step p0 H0 σ0 α0 A0 p' H' σ (backA α (freeA (wipeA α vs) αe dep) vs) A' → D ∈ p' → (∀ i, D ∉ A' i) → Acc p' H' D (done ++ ys) → Fin H') :
    LoopB J g tt (fun σ H Nx => u σ H D Nx) vs σ H Fin := by
  obtain ⟨o, ho, hno⟩ := ha.ob acc
  have Rh := rel_off R hDp ho hno nD
  have S0h := step_off (D := D) R0 S hD0
  have Rw := rel_wipe Rh vs
  have lkw : Lockable (wipeA α vs) dep := fun i m => by
    obtain ⟨f, l, ys, q⟩ := lkb i m
    exact ⟨f, l, ys, by rw [wipeA_get, if_neg (hd i m)]; exact q⟩
  have Rl := rel_lock Rw dep
  have noD : ∀ i, D ∉ wipeF A vs i := fun i m => nD i (wipeF_mem m).2
  have R1 : Rel K p H (wipe σ vs) (lockA (wipeA α vs) dep) (wipeF A vs) := rel_lock (rel_wipe R vs) dep
  have itw : ∀ p1 H1 σ1 α1 A1, Rel K p1 H1 σ1 α1 A1 → Tr p H p1 H1 → (∀ i ∈ dep, σ1[i]? = (wipe σ vs)[i]? ∧ α1[i]? = ((wipeA α vs)[i]?).map AV.lock) →
      (∀ n x, xs[n]? = some x → J.go n H1 ∧ ∀ v H2, J.yld n H1 v H2 → Same H1 H2 ∧ Dz K p1 H2 v x) ∧ J.stop xs.length H1 := fun p1 H1 σ1 α1 A1 R1 t d => by
    refine it.go p1 H1 σ1 α1 A1 R1 t fun i m => ?_
    have := d i m
    rw [wipe_get, wipeA_get, if_neg (hd i m), if_neg (hd i m)] at this
    exact this
  refine ⟨CmW K Acc (p.filter fun b => decide (b ≠ D)) (offD H D) (wipe σ vs) (lockA (wipeA α vs) dep) (wipeF A vs) vs mg mt mu xs done ys αe D, ⟨xs.length, rfl, Nat.zero_le _, p, _, _, [], ys, R1, step_on hDp, hDp, noD, by rw [List.append_nil]; exact acc, e, rfl⟩, ?_⟩
  rintro i m H2 ⟨rfl, hi', p2, αw, Aw, d2, rest, R2, S2, hDp2, nD2, acc2, e7, e8⟩
  -- from the loop's begin, D there: nothing but D and own things changed
  have tr2 : Tr p H p2 H2 := by
    have t := S2.tr Rl
    obtain ⟨o2, ho2, hno2⟩ := ha.ob acc2
    refine ⟨fun a z hz n r => ?_, fun a zs n r => ?_, fun a zs r => ?_, fun a oo z n r => ?_⟩
    · have ne : a ≠ D := fun q => n (q ▸ hDp)
      exact t.mt a z hz (fun m => n (List.mem_filter.mp m).1) (Rd.same (fun o e => by rw [offD_ne ne]; exact e) r)
    · have ne : a ≠ D := fun q => n (q ▸ hDp)
      exact t.ls a zs (fun m => n (List.mem_filter.mp m).1) (by rw [offD_ne ne]; exact r)
    · have ne : a ≠ D := fun q => by rw [q, ho] at r; cases r; exact hno.elim
      exact t.tp a zs (by rw [offD_ne ne]; exact r)
    · have ne : a ≠ D := fun q => n (q ▸ hDp)
      exact t.fz a oo z (fun m => n (List.mem_filter.mp m).1) (by rw [offD_ne ne]; exact r)
  obtain ⟨yes, stop⟩ := itw p2 H2 (wipe σ vs) αw Aw R2 tr2 (dep_of lkw S2)
  by_cases lt : i < xs.length
  · right
    have hx : xs[i]? = some xs[i] := List.getElem?_eq_getElem lt
    obtain ⟨hgo, hy⟩ := yes i _ hx
    refine ⟨hgo, fun H' => ∃ m', m' < xs.length - i ∧ CmW K Acc (p.filter fun b => decide (b ≠ D)) (offD H D) (wipe σ vs) (lockA (wipeA α vs) dep) (wipeF A vs) vs mg mt mu xs done ys αe D (i + 1) m' H', fun H' z => z, fun v H3 y => ?_⟩
    obtain ⟨sm, dv⟩ := hy v H3 y
    rw [List.drop_eq_getElem_cons lt] at e7
    simp only [cmL, Option.bind_eq_some_iff] at e7
    obtain ⟨α3, f1, ⟨b, α4⟩, f2, f3⟩ := e7
    have R3 := R2.same sm
    have S3 : Step (p.filter fun b => decide (b ≠ D)) (offD H D) (wipe σ vs) (lockA (wipeA α vs) dep) (wipeF A vs) p2 H3 (wipe σ vs) αw Aw := S2.trans Rl (.same sm)
    obtain ⟨od, hod, hnd⟩ := ha.ob acc2
    have hD3 : H3 D = H2 D := by rw [hod]; exact sm D _ hod
    have acc3 := ha.mv acc2 (tr_same sm) hD3
    refine hg.go p2 H3 (wipe σ vs) αw Aw v xs[i] α3 _ R3 dv f1 fun σ3 A3 R4 S4 w4 => ?_
    rw [wipe_wipe] at w4
    refine ⟨w4, ?_⟩
    have S34 := S3.trans Rl S4
    have nD4 : ∀ i, D ∉ A3 i := fun j z => by
      rcases S4.new j D z with q | q
      · exact nD2 j q
      · rw [hD3, hod] at q; cases q
    refine ht.go p2 H3 σ3 α3 A3 b α4 _ R4 f2 fun p5 H5 A5 R5 S5 => ?_
    have S35 := S34.trans Rl S5
    have hD5 : H5 D = H2 D := by rw [hod]; exact (S5.keep D _ (noTup_tbl hnd) (hD3.trans hod) nD4).exp hDp2
    have nD5 : ∀ i, D ∉ A5 i := fun j z => by
      rcases S5.new j D z with q | q
      · exact nD4 j q
      · rw [hD3, hod] at q; cases q
    have hDp5 : D ∈ p5 := by
      rcases S5.mono D hDp2 with z | ⟨k, z⟩
      · exact z
      · exact (nD4 k z).elim
    have acc5 : Acc p5 H5 D (done ++ d2) := ha.mv acc3 (S5.tr R4) (hD5.trans hD3.symm)
    have noF : ∀ (β : AS), (∀ (i : Nat) (r : AV), β[i]? = some r → r.isFix = true → ∃ q, (lockA (wipeA α vs) dep)[i]? = some q ∧ q.isFix = true) → noFix β vs := fun β hh i m r e => by
      cases z : r.isFix with
      | false => rfl
      | true =>
        obtain ⟨q, q1, q2⟩ := hh i r e z
        rw [lockA_get, wipeA_get, if_pos m] at q1
        obtain ⟨x1, x2, rfl⟩ := Option.map_eq_some_iff.mp q1
        obtain ⟨x3, x4, rfl⟩ := Option.map_eq_some_iff.mp x2
        split at q2 <;> cases q2
    -- the turn's end
    have turn : ∀ p6 H6 A6 α6 ds rest', Rel K p6 H6 σ3 α6 A6 → Step (p.filter fun b => decide (b ≠ D)) (offD H D) (wipe σ vs) (lockA (wipeA α vs) dep) (wipeF A vs) p6 H6 σ3 α6 A6 → D ∈ p6 → (∀ i, D ∉ A6 i) → Acc p6 H6 D (done ++ ds) →
        cmL vs mg mt mu (xs.drop (i + 1)) (wipeA α6 vs) = some (rest', αe) → ds ++ rest' = ys →
        ∃ m', m' < xs.length - i ∧ CmW K Acc (p.filter fun b => decide (b ≠ D)) (offD H D) (wipe σ vs) (lockA (wipeA α vs) dep) (wipeF A vs) vs mg mt mu xs done ys αe D (i + 1) m' H6 := fun p6 H6 A6 α6 ds rest' R6 S6 h1 h2 h3 h4 h5 => by
      have nf := noF α6 S6.nof
      have Rw6 := rel_wipe R6 vs
      rw [w4] at Rw6
      have Sw6 : Step p6 H6 σ3 α6 A6 p6 H6 (wipe σ vs) (wipeA α6 vs) (wipeF A6 vs) := by
        have z := step_wipe (p := p6) (H := H6) (σ := σ3) (A := A6) vs nf
        rwa [w4] at z
      exact ⟨_, by omega, rfl, lt, p6, wipeA α6 vs, wipeF A6 vs, ds, rest', Rw6, S6.trans Rl Sw6, h1, fun j z => h2 j (wipeF_mem z).2, h3, h4, h5⟩
    cases b with
    | true =>
      refine iteT ?_
      simp only [if_true, Option.bind_eq_some_iff] at f3
      obtain ⟨⟨y1, α5⟩, f4, ⟨rest', αe'⟩, f5, f6⟩ := f3
      simp only [Option.some.injEq, Prod.mk.injEq] at f6
      obtain ⟨f6, f7⟩ := f6
      dsimp only at f5
      subst f7
      refine hu.go _ _ _ _ _ p5 H5 σ3 α4 A5 D (done ++ d2) y1 α5 _ Rl S35 offD_same R5 hDp5 nD5 acc5 f4 ?_ fun p6 H6 A6 R6 S6 h1 h2 h3 => ?_
      · have := congrArg List.length e8
        rw [← f6] at this
        simp only [List.length_append] at this ⊢
        omega
      · rw [List.append_assoc] at h3
        exact turn p6 H6 A6 α5 (d2 ++ y1) rest' R6 S6 h1 h2 h3 f5 (by rw [List.append_assoc, f6]; exact e8)
    | false =>
      refine iteF ?_
      simp only [Bool.false_eq_true, if_false] at f3
      exact turn p5 H5 A5 α4 d2 rest R5 S35 hDp5 nD5 acc5 f3 e8
  · left
    have ei : i = xs.length := by omega
    subst ei
    rw [List.drop_length] at e7
    simp only [cmL, Option.some.injEq, Prod.mk.injEq] at e7
    obtain ⟨rfl, rfl⟩ := e7
    refine ⟨stop, ?_⟩
    rw [List.append_nil] at e8
    subst e8
    have Rf := rel_free lkw S2 R2
    have Sf := step_free lkw S2
    obtain ⟨Rb, Sb⟩ := rel_back Rh hn Sf Rf (wipe_wipe vs)
    exact fin p2 H2 _ Rb (S0h.trans R0 Sb) hDp2 (fun j z => nD2 j (wipeF_mem z).2) acc2
def tCmp (wi : TI) (g : TG) (tt : TT) (u : L2.St → Hp → Addr → (Hp → Prop) → Prop) (vs : List Nat) (o : HO) : TE := fun σ H Q => wi σ H fun J H1 => ∀ D, H1 D = none → LoopB J g tt (fun σ H Nx => u σ H D Nx) vs σ (upd H1 D o) fun H' => Q (.ref D) H'
def cmI {β : Type} (i : MI) (vs : List Nat) (g : MG) (tt : MT) (u : AS → Option (List β × AS)) : AS → Option (List β × AS) := fun α => (i α).bind fun x =>
  if noRoots x.2 vs ∧ (∀ i ∈ x.1.2, i ∉ vs) then (cmL vs g tt u x.1.1 (lockA (wipeA x.2 vs) x.1.2)).bind fun r => some (r.1, backA x.2 (freeA (wipeA x.2 vs) r.2 x.1.2) vs) else none
theorem cmp_core {β : Type} {Acc : List Addr → Hp → Addr → List β → Prop} (ha : AccOk Acc) {w : TI} {g : TG} {tt : TT} {u : L2.St → Hp → Addr → (Hp → Prop) → Prop} {vs : List Nat} {mi : MI} {mg : MG} {mt : MT} {mu : AS → Option (List β × AS)} {o : HO} {ys : List β} {Q : VK}
    (h0 : ∀ p H D, Acc (D :: p) (upd H D o) D []) (hi : RefI K w mi) (hg : RefB K g mg vs) (ht : RefT K tt mt) (hu : RefC K Acc u mu) (R : Rel K p H σ α A) (e : cmI mi vs mg mt mu α = some (ys, α')) (hl : ys.length ≤ LIM)
    (h : ∀ p' H' A' a, Rel K p' H' σ α' A' → Step p H σ α A p' H' σ α' A' → Fresh p' H A' [a] → Acc p' H' a ys → Q (.ref a) H') : tCmp w g tt u vs o σ H Q := by
  simp only [cmI, Option.bind_eq_some_iff] at e
  obtain ⟨⟨⟨xs, dep⟩, α1⟩, e1, e2⟩ := e
  split at e2
  · rename_i hc
    simp only [Option.bind_eq_some_iff] at e2
    obtain ⟨⟨ys', αe⟩, e5, e6⟩ := e2
    cases e6
    refine hi.go p H σ α A (xs, dep) α1 _ R e1 fun p1 H1 A1 J R1 S1 it lkb D hD => ?_
    obtain ⟨R2, S2, nr⟩ := rel_new (o := o) R1 hD
    refine loop_core ha hg ht hu R1 S2 hD R2 (List.mem_cons_self ..) nr (h0 p1 H1 D) (it.mono (tr_new hD (same_new hD))) lkb hc.1 hc.2 e5 (by simpa using hl) fun p' H' A' Rn Sn h1 h2 h3 => ?_
    exact h p' H' A' D Rn (S1.trans R Sn) (fresh_one h1 (S1.dom D hD) h2) h3
  · cases e2
def AccL (K : PySem.W.Frag) (p : List Addr) (H : Hp) (D : Addr) (done : List Da) : Prop := ∃ vs, H D = some (.lst vs) ∧ DzA K p H vs done
theorem accL : AccOk (AccL K) := ⟨fun ⟨vs, h1, h2⟩ t e => ⟨vs, by rw [e]; exact h1, h2.tr t⟩, fun ⟨vs, h1, _⟩ => ⟨_, h1, trivial⟩⟩
def uLc (te : TE) : L2.St → Hp → Addr → (Hp → Prop) → Prop := fun σ H D Nx => te σ H fun y H4 => ∃ acc, H4 D = some (.lst acc) ∧ acc.length < sizeLine ∧ Nx (upd H4 D (.lst (acc ++ [y])))
def mLc (me : ME) : AS → Option (List Da × AS) := fun α => (me α).bind fun l => (own l.2 l.1).bind fun y => some ([y], l.2)
theorem ref_uLc {te : TE} {me : ME} (he : RefE K te me) : RefC K (AccL K) (uLc te) (mLc me) :=
  ⟨fun p0 H0 σ0 α0 A0 p H σ α A D done ys α' Nx R0 S h0 R hDp nD acc e hl h => by
    simp only [mLc, Option.bind_eq_some_iff] at e
    obtain ⟨⟨l, α1⟩, e1, y, e2, e3⟩ := e
    cases e3
    refine he.go p H σ α A l α1 _ R e1 fun p1 H1 A1 v R1 S1 q => ?_
    obtain ⟨vs, hv, dz⟩ := acc
    have hD1 : H1 D = some (.lst vs) := (S1.keep D _ rfl hv nD).exp hDp
    have nD1 : ∀ i, D ∉ A1 i := fun j z => by
      rcases S1.new j D z with q | q
      · exact nD j q
      · rw [hv] at q; cases q
    have hDp1 : D ∈ p1 := by
      rcases S1.mono D hDp with z | ⟨k, z⟩
      · exact z
      · exact (nD k z).elim
    have lv : vs.length < LIM := by rw [dz.length]; simp only [List.length_cons, List.length_nil] at hl; omega
    refine ⟨vs, hD1, line_lt (Nat.le_of_lt lv), h p1 _ A1 (rel_upd R1 hDp1 hD1 trivial nD1) ((S.trans R0 S1).upd h0) hDp1 nD1 ⟨_, upd_same, ?_⟩⟩
    exact ((dz.tr (S1.tr R)).append (.cons (own_dz R1 q e2) .nil)).tr (tr_upd hDp1 hD1 trivial)⟩
def fLc (m : AS → Option (List Da × AS)) : MF := fun α => (m α).bind fun r => if r.1.length ≤ LIM then some (.r (.list r.1), r.2) else none
theorem ref_fLc {w : TI} {g : TG} {tt : TT} {u : L2.St → Hp → Addr → (Hp → Prop) → Prop} {vs : List Nat} {mi : MI} {mg : MG} {mt : MT} {mu : AS → Option (List Da × AS)} (hi : RefI K w mi) (hg : RefB K g mg vs) (ht : RefT K tt mt) (hu : RefC K (AccL K) u mu) :
    RefF K (tCmp w g tt u vs (.lst [])) (fLc (cmI mi vs mg mt mu)) := ⟨fun p H σ α A r α' Q R e h => by
  simp only [fLc, Option.bind_eq_some_iff] at e
  obtain ⟨⟨ys, α1⟩, e1, e2⟩ := e
  split at e2
  · rename_i hl
    cases e2
    refine cmp_core accL (fun p H D => ⟨[], upd_same, .nil⟩) hi hg ht hu R e1 hl fun p1 H1 A1 a R1 S1 fr acc => ?_
    obtain ⟨vs, h1, h2⟩ := acc
    exact h p1 H1 A1 a [] R1 S1 fr ⟨rfl, vs, h1, by rw [h2.length]; exact hl, h2⟩
  · cases e2⟩
def keyD : Da → Option Key
  | .int i => some (.inl i)
  | .str s => some (.inr s)
  | _ => none
def keysD : List Da → Option (List Key)
  | [] => some []
  | x :: r => (keyD x).bind fun k => (keysD r).bind fun ks => some (k :: ks)
def keyT : Da → Option (List Key)
  | .tuple xs => keysD xs
  | _ => none
end
end Vm
namespace Vm
open PySem PySem.Spec PyProof.Rows L2 Gk
inductive R1 where
  | d (x : Da)
  | w (r : Nw)
inductive Rv where
  | one (r : R1)
  | tup (rs : List R1)
def R1.da : R1 → Da
  | .d x => x
  | .w r => r.da
def Rv.da : Rv → Da
  | .one r => r.da
  | .tup rs => .tuple (rs.map R1.da)
/-- things handed back, some of them new own ones, with their addresses -/
inductive ResL (K : PySem.W.Frag) (p : List Addr) (H : Hp) : List V → List R1 → List Addr → Prop
  | nil : ResL K p H [] [] []
  | d {v : V} {x : Da} {vs : List V} {rs : List R1} {bs : List Addr} : Dz K p H v x → ResL K p H vs rs bs → ResL K p H (v :: vs) (.d x :: rs) bs
  | w {a : Addr} {as : List Addr} {r : Nw} {vs : List V} {rs : List R1} {bs : List Addr} : NewR K p H a as r → ResL K p H vs rs bs → ResL K p H (.ref a :: vs) (.w r :: rs) (a :: as ++ bs)
def ResR (K : PySem.W.Frag) (H0 : Hp) (p : List Addr) (H : Hp) (A : FT) (v : V) : Rv → Prop
  | .one r => ∃ as, ResL K p H [v] [r] as ∧ Fresh p H0 A as
  | .tup rs => ∃ t vs as, v = .ref t ∧ H t = some (.tup vs) ∧ vs.length ≤ LIM ∧ ResL K p H vs rs as ∧ Fresh p H0 A as
abbrev FV := List AV → Option (Rv × List AV)
def spV (K : PySem.W.Frag) (F : FV) : Sp := fun vs H Q _ => ∃ p as A r as', Rel K p H (vs.map some) as A ∧ F as = some (r, as') ∧
  ∀ p' H' A' v, Rel K p' H' (vs.map some) as' A' → Step p H (vs.map some) as A p' H' (vs.map some) as' A' → ResR K H p' H' A' v r → Q v H'
/-- the name stays with it -/
def AV.fixd : AV → AV
  | .r _ l x => .r true l x
  | .n _ l x => .n true l x
  | q => q
def AV.flag (q : AV) (f : Bool) : AV := match q with
  | .r _ l x => .r f l x
  | .n _ l x => .n f l x
  | q => q
def startA (n : Nat) (as : AS) : AS := as.map AV.fixd ++ List.replicate (n - as.length) .un
/-- the arguments as they stand behind the def -/
def backP (as α : AS) : AS := as.mapIdx fun i r => if r.isRoot = true then ((α[i]?).getD .un).flag r.isFix else r
def resL1 (α : AS) : Lc → Option R1
  | .d x => some (.d x)
  | .s i => (α[i]?).bind fun q => match q with
    | .d x => some (.d x)
    | .r false false x => some (.w (.r x))
    | .n false false x => some (.w (.n x))
    | _ => none
def resLs (α : AS) : List Lc → Option (List R1)
  | [] => some []
  | l :: ls => (resL1 α l).bind fun r => (resLs α ls).bind fun rs => some (r :: rs)
/-- the own things among these -/
def rootIx (α : AS) : Lc → Option Nat
  | .d _ => none
  | .s i => (α[i]?).bind fun q => if q.isRoot = true then some i else none
def resRL (α : AS) : RL → Option Rv
  | .one l => (resL1 α l).bind fun r => some (.one r)
  | .tup ls => (resLs α ls).bind fun rs => if (ls.filterMap (rootIx α)).Nodup then some (.tup rs) else none
  | .nw r => some (.one (.w r))
/-- a def of np parameters and n slots -/
def mDef (np n : Nat) (b : MS) : FV := fun as => if as.length = np then (b (startA n as)).bind fun o => match o with
    | .nx α => some (.one (.d .none), backP as α)
    | .rt l α => (resRL α l).bind fun r => some (r, backP as α)
    | _ => none
  else none
section
variable {K : PySem.W.Frag} {p p' p2 : List Addr} {H H' H2 : Hp} {σ σ' σ2 : L2.St} {α α' α2 α0 : AS} {A A' A2 : FT}
theorem backP_get {as α : AS} {i : Nat} : (backP as α)[i]? = (as[i]?).map fun r => if r.isRoot = true then ((α[i]?).getD .un).flag r.isFix else r := by
  unfold backP
  rw [List.getElem?_mapIdx]
theorem fixd_root (r : AV) : r.fixd.isRoot = r.isRoot := by cases r <;> rfl
theorem fixd_fix {r : AV} (h : r.isRoot = true) : r.fixd.isFix = true := by cases r <;> first | rfl | cases h
theorem slot_fixd {o : Option V} {f : List Addr} {r : AV} (h : SlotR K p H o f r) : SlotR K p H o f r.fixd := by cases r <;> exact h
theorem slot_flag {o : Option V} {f : List Addr} {r : AV} (b : Bool) (h : SlotR K p H o f r) : SlotR K p H o f (r.flag b) := by cases r <;> exact h
theorem flag_fix {r : AV} (f : Bool) (h : r.isRoot = true) : (r.flag f).isFix = f := by cases r <;> first | rfl | cases h
theorem getElem?_lt {τ : Type} {l : List τ} {i : Nat} {x : τ} (h : l[i]? = some x) : i < l.length := (List.getElem?_eq_some_iff.mp h).1
theorem get_of_lt {τ : Type} {l : List τ} {i : Nat} (h : i < l.length) : ∃ x, l[i]? = some x := ⟨l[i], List.getElem?_eq_getElem h⟩
theorem start_get_lt {N : List Str} {vs : List V} {i : Nat} (h : i < vs.length) : (start N vs)[i]? = (vs.map some)[i]? := by
  unfold L2.start
  rw [List.getElem?_append_left (by rw [List.length_map]; exact h)]
theorem startA_get_lt {n : Nat} {as : AS} {i : Nat} (h : i < as.length) : (startA n as)[i]? = (as[i]?).map AV.fixd := by
  unfold startA
  rw [List.getElem?_append_left (by rw [List.length_map]; exact h), List.getElem?_map]
theorem startA_get_ge {n : Nat} {as : AS} {i : Nat} {r : AV} (h : as.length ≤ i) (e : (startA n as)[i]? = some r) : r = .un := by
  unfold startA at e
  rw [List.getElem?_append_right (by rw [List.length_map]; exact h), List.getElem?_replicate] at e
  split at e
  · cases e; rfl
  · cases e
theorem rel_start {N : List Str} {vs : List V} {as : AS} (R : Rel K p H (vs.map some) as A) (hN : as.length ≤ N.length) : Rel K p H (start N vs) (startA N.length as) A := by
  have hl : vs.length = as.length := by have := R.len; rwa [List.length_map] at this
  refine ⟨by unfold L2.start startA; simp [hl], fun i r e => ?_, fun i e => ?_, R.nd, R.dj, R.inp, R.al, R.tb⟩
  · by_cases hi : i < as.length
    · rw [startA_get_lt hi] at e
      obtain ⟨q, e1, rfl⟩ := Option.map_eq_some_iff.mp e
      rw [start_get_lt (by omega)]
      exact slot_fixd (R.sl i q e1)
    · rw [startA_get_ge (by omega) e]
      exact R.out i (List.getElem?_eq_none_iff.mpr (by omega))
  · have : N.length ≤ i := by
      have := List.getElem?_eq_none_iff.mp e
      unfold startA at this
      rw [List.length_append, List.length_map, List.length_replicate] at this
      omega
    exact R.out i (List.getElem?_eq_none_iff.mpr (by omega))
theorem end_args {N : List Str} {vs : List V} {as : AS} (R : Rel K p H (vs.map some) as A) (hN : as.length ≤ N.length) (R' : Rel K p' H' σ' α' A') (S : Step p H (start N vs) (startA N.length as) A p' H' σ' α' A') :
    ∃ B, Rel K p' H' (vs.map some) (backP as α') B ∧ Step p H (vs.map some) as A p' H' (vs.map some) (backP as α') B ∧ (∀ i, B i = A' i ∨ B i = []) ∧ ∀ (i : Nat) (r : AV), as[i]? = some r → r.isRoot = true → B i = A' i := by
  have hl : vs.length = as.length := by have := R.len; rwa [List.length_map] at this
  have t := S.tr (rel_start R hN)
  have fx : ∀ (i : Nat) (r : AV), as[i]? = some r → r.isRoot = true → σ'[i]? = (vs.map some)[i]? ∧ ∃ r', α'[i]? = some r' ∧ Kin r.fixd r' := fun i r e hr => by
    have hi : i < as.length := getElem?_lt e
    obtain ⟨e1, r', e2, e3⟩ := S.fix i r.fixd (by rw [startA_get_lt hi, e]; rfl) (fixd_fix hr)
    exact ⟨by rw [e1, start_get_lt (by omega)], r', e2, e3⟩
  let B : FT := fun i => if (as[i]?).any AV.isRoot = true then A' i else []
  have Bm : ∀ i b, b ∈ B i → b ∈ A' i ∧ ∃ r, as[i]? = some r ∧ r.isRoot = true := fun i b m => by
    have m : b ∈ if (as[i]?).any AV.isRoot = true then A' i else [] := m
    split at m
    · rename_i h
      refine ⟨m, ?_⟩
      cases q : as[i]? with
      | none => rw [q] at h; cases h
      | some r => rw [q] at h; exact ⟨r, rfl, h⟩
    · exact (List.not_mem_nil m).elim
  have Bt : ∀ (i : Nat) (r : AV), as[i]? = some r → r.isRoot = true → B i = A' i := fun i r e h => by
    show (if (as[i]?).any AV.isRoot = true then A' i else []) = A' i
    rw [e, Option.any_some, if_pos h]
  have Bf : ∀ (i : Nat) (r : AV), as[i]? = some r → r.isRoot ≠ true → B i = [] := fun i r e h => by
    show (if (as[i]?).any AV.isRoot = true then A' i else []) = []
    rw [e, Option.any_some, if_neg h]
  refine ⟨B, ⟨by rw [R.len]; unfold backP; rw [List.length_mapIdx], fun i q h2 => ?_, fun i h => ?_, fun i => ?_, fun i j a h1 h2 => R'.dj i j a (Bm i a h1).1 (Bm j a h2).1, fun i a h => R'.inp i a (Bm i a h).1, R'.al, R'.tb⟩,
    ⟨S.keep, S.dom, fun i b h => S.new i b (Bm i b h).1, S.sub, S.mono, by unfold backP; rw [List.length_mapIdx], fun i r h f => ⟨rfl, ?_⟩, fun i q h f => ?_⟩, fun i => ?_, Bt⟩
  · rw [backP_get] at h2
    obtain ⟨r, e, rfl⟩ := Option.map_eq_some_iff.mp h2
    by_cases hr : r.isRoot = true
    · rw [if_pos hr, Bt i r e hr]
      obtain ⟨e1, r', e2, e3⟩ := fx i r e hr
      rw [e2, ← e1]
      exact slot_flag _ (R'.sl i r' e2)
    · rw [if_neg hr, Bf i r e hr]
      have z := R.sl i r e
      have a0 : A i = [] := by
        cases r with
        | un => exact z
        | d x => exact z.1
        | sc x => exact z.1
        | g x => exact z.1
        | r a b c => exact (hr rfl).elim
        | n a b c => exact (hr rfl).elim
      rw [a0] at z
      exact z.tr t fun c m => (List.not_mem_nil m).elim
  · rw [backP_get] at h
    have e := Option.map_eq_none_iff.mp h
    show (if (as[i]?).any AV.isRoot = true then A' i else []) = []
    rw [e]
    rfl
  · show List.Nodup (if (as[i]?).any AV.isRoot = true then A' i else [])
    split
    · exact R'.nd i
    · exact .nil
  · have hr := isRoot_of_isFix f
    obtain ⟨e1, r', e2, e3⟩ := fx i r h hr
    refine ⟨r'.flag r.isFix, by rw [backP_get, h]; simp only [Option.map_some, if_pos hr, e2, Option.getD_some], ?_⟩
    have efx : r.fixd = r := by
      cases r with
      | r a b c => cases f; rfl
      | n a b c => cases f; rfl
      | _ => rfl
    rw [efx] at e3
    have erf : r'.flag r.isFix = r' := by
      have z := e3.fx
      cases r' with
      | r a b c => rw [← z]; rfl
      | n a b c => rw [← z]; rfl
      | _ => rfl
    rw [erf]
    exact e3
  · rw [backP_get] at h
    obtain ⟨r, e, rfl⟩ := Option.map_eq_some_iff.mp h
    by_cases hr : r.isRoot = true
    · rw [if_pos hr] at f
      obtain ⟨e1, r', e2, e3⟩ := fx i r e hr
      rw [e2] at f
      have f' : (r'.flag r.isFix).isFix = true := f
      rw [flag_fix _ (by rw [e3.rt, fixd_root]; exact hr)] at f'
      exact ⟨r, e, f'⟩
    · rw [if_neg hr] at f
      exact ⟨r, e, f⟩
  · show (if (as[i]?).any AV.isRoot = true then A' i else []) = A' i ∨ (if (as[i]?).any AV.isRoot = true then A' i else []) = []
    split
    · exact .inl rfl
    · exact .inr rfl
/-- a slot of the def's own, handed back: new -/
theorem own_fresh {N : List Str} {vs : List V} {as : AS} {B : FT} {i : Nat} {q : AV} (R : Rel K p H (vs.map some) as A) (hN : as.length ≤ N.length) (R' : Rel K p' H' σ' α' A') (S : Step p H (start N vs) (startA N.length as) A p' H' σ' α' A')
    (hB : ∀ i, B i = A' i ∨ B i = []) (hBr : ∀ (i : Nat), (∀ r, as[i]? = some r → r.isRoot = false) → B i = []) (hq : α'[i]? = some q) (hr : q.isRoot = true) (hf : q.isFix = false) :
    (∀ b ∈ A' i, H b = none) ∧ (∀ b ∈ A' i, ∀ j, b ∉ B j) := by
  have noroot : ∀ r, as[i]? = some r → r.isRoot = false := fun r e => by
    cases z : r.isRoot with
    | false => rfl
    | true =>
      have hi : i < as.length := getElem?_lt e
      obtain ⟨_, r', e2, e3⟩ := S.fix i r.fixd (by rw [startA_get_lt hi, e]; rfl) (fixd_fix z)
      rw [hq] at e2
      cases e2
      rw [e3.fx, fixd_fix z] at hf
      cases hf
  have a0 : A i = [] := by
    cases e : as[i]? with
    | none => exact R.out i e
    | some r =>
      have z := R.sl i r e
      have n := noroot r e
      cases r with
      | un => exact z
      | d x => exact z.1
      | sc x => exact z.1
      | g x => exact z.1
      | r a b c => cases n
      | n a b c => cases n
  refine ⟨fun b m => ?_, fun b m j mj => ?_⟩
  · rcases S.new i b m with z | z
    · rw [a0] at z; exact (List.not_mem_nil z).elim
    · exact z
  · rcases hB j with z | z
    · rw [z] at mj
      have e := R'.dj i j b m mj
      subst e
      rw [hBr i noroot] at z
      rw [← z] at mj
      exact List.not_mem_nil mj
    · rw [z] at mj; exact List.not_mem_nil mj
theorem res_one {v : V} {l : Lc} {r : R1} (R' : Rel K p' H' σ' α' A') (h : LocR K p' H' σ' v l) (e : resL1 α' l = some r) :
    (∃ x, r = .d x ∧ Dz K p' H' v x) ∨ ∃ i q a as w, l = .s i ∧ α'[i]? = some q ∧ q.isRoot = true ∧ q.isFix = false ∧ v = .ref a ∧ A' i = a :: as ∧ r = .w w ∧ NewR K p' H' a as w := by
  cases l with
  | d x => cases e; exact .inl ⟨x, rfl, h⟩
  | s i =>
    have h' : σ'[i]? = some (some v) := h
    simp only [resL1, Option.bind_eq_some_iff] at e
    obtain ⟨q, e1, e2⟩ := e
    have z := R'.sl i q e1
    rw [join_of h'] at z
    split at e2
    · cases e2; obtain ⟨_, w, e3, e4⟩ := z; cases e3; exact .inl ⟨_, rfl, e4⟩
    · cases e2; obtain ⟨a, e3, e4, e5⟩ := z; cases e3; exact .inr ⟨i, _, a, [], _, rfl, e1, rfl, rfl, rfl, e4, rfl, rfl, e5⟩
    · cases e2; obtain ⟨a, as, e3, e4, e5⟩ := z; cases e3; exact .inr ⟨i, _, a, as, _, rfl, e1, rfl, rfl, rfl, e4, rfl, e5⟩
    · cases e2
theorem res_many (R' : Rel K p' H' σ' α' A') : ∀ {vs : List V} {ls : List Lc} {rs : List R1}, LocA K p' H' σ' vs ls → resLs α' ls = some rs → (ls.filterMap (rootIx α')).Nodup →
    ∃ as, ResL K p' H' vs rs as ∧ as.Nodup ∧ ∀ b ∈ as, ∃ i q, .s i ∈ ls ∧ i ∈ ls.filterMap (rootIx α') ∧ α'[i]? = some q ∧ q.isRoot = true ∧ q.isFix = false ∧ b ∈ A' i
  | [], [], _, .nil, e, _ => by cases e; exact ⟨[], .nil, .nil, fun b m => (List.not_mem_nil m).elim⟩
  | v :: vs0, l :: ls0, _, .cons h t, e, nd => by
    simp only [resLs, Option.bind_eq_some_iff] at e
    obtain ⟨r, e1, rs, e2, e3⟩ := e
    cases e3
    have nd' := nd
    rw [List.filterMap_cons] at nd'
    have nds : (List.filterMap (rootIx α') ls0).Nodup := by
      split at nd'
      · exact nd'
      · exact (List.nodup_cons.mp nd').2
    obtain ⟨as, q1, q2, q3⟩ := res_many R' t e2 nds
    have wid : ∀ b ∈ as, ∃ i q, .s i ∈ l :: ls0 ∧ i ∈ (l :: ls0).filterMap (rootIx α') ∧ α'[i]? = some q ∧ q.isRoot = true ∧ q.isFix = false ∧ b ∈ A' i := fun b m => by
      obtain ⟨i, q, w1, w2, w3⟩ := q3 b m
      refine ⟨i, q, List.mem_cons_of_mem _ w1, ?_, w3⟩
      rw [List.filterMap_cons]
      split
      · exact w2
      · exact List.mem_cons_of_mem _ w2
    rcases res_one R' h e1 with ⟨x, rfl, dz⟩ | ⟨i, q, a, as1, w, rfl, hq, hr, hf, rfl, ha, rfl, nw⟩
    · exact ⟨as, .d dz q1, q2, wid⟩
    · have ri : rootIx α' (.s i) = some i := by simp only [rootIx, hq, Option.bind_some, if_pos hr]
      rw [ri] at nd'
      have ni := (List.nodup_cons.mp nd').1
      refine ⟨a :: as1 ++ as, .w nw q1, ?_, fun b m => ?_⟩
      · rw [← ha]
        refine List.nodup_append.mpr ⟨R'.nd i, q2, fun x hx y hy e => ?_⟩
        subst e
        obtain ⟨j, _, _, w2, _, _, _, w3⟩ := q3 x hy
        have := R'.dj i j x hx w3
        subst this
        exact ni w2
      · rw [← ha] at m
        rcases List.mem_append.mp m with m | m
        · refine ⟨i, q, List.mem_cons_self .., ?_, hq, hr, hf, m⟩
          rw [List.filterMap_cons, ri]
          exact List.mem_cons_self ..
        · exact wid b m
/-- a def's body, by its function -/
theorem body_ok {N : List Str} {vs : List V} {np : Nat} {b : MS} {t : TS} {Q : VK} {E : XK} (hb : RefS K t b) (hN : np ≤ N.length) (h : spV K (mDef np N.length b) vs H Q E) :
    t { nx := fun _ H' => Q .non H', rt := Q } (start N vs) H := by
  obtain ⟨p, as, A, r, as', R, e, q⟩ := h
  unfold mDef at e
  split at e
  · rename_i hnp
    simp only [Option.bind_eq_some_iff] at e
    obtain ⟨o, e1, e2⟩ := e
    have hN' : as.length ≤ N.length := by omega
    refine hb.go p H _ _ A o _ (rel_start R hN') e1 ?_
    cases o with
    | nx α =>
      cases e2
      intro p1 H1 σ1 A1 R1 S1
      obtain ⟨B, RB, SB, _, _⟩ := end_args R hN' R1 S1
      exact q p1 H1 B .non RB SB ⟨[], .d .non .nil, fun b m => (List.not_mem_nil m).elim, fun b m => (List.not_mem_nil m).elim, fun b m => (List.not_mem_nil m).elim, .nil⟩
    | rt l α =>
      simp only [Option.bind_eq_some_iff] at e2
      obtain ⟨r', e3, e4⟩ := e2
      cases e4
      intro p1 H1 σ1 A1 v R1 S1 z
      obtain ⟨B, RB, SB, hB, hBt⟩ := end_args R hN' R1 S1
      have hBr : ∀ (i : Nat), (∀ r, as[i]? = some r → r.isRoot = false) → B i = [] := fun i h => by
        cases e : as[i]? with
        | none =>
          apply RB.out i
          rw [backP_get, e]
          rfl
        | some x =>
          have n := h x e
          have z := RB.sl i x (by rw [backP_get, e]; simp only [Option.map_some]; rw [if_neg (by rw [n]; simp)])
          cases x with
          | un => exact z
          | d x => exact z.1
          | sc x => exact z.1
          | g x => exact z.1
          | r a b c => cases n
          | n a b c => cases n
      refine q p1 H1 B v RB SB ?_
      cases l with
      | one l =>
        simp only [resRL, Option.bind_eq_some_iff] at e3
        obtain ⟨r1, e5, e6⟩ := e3
        cases e6
        rcases res_one R1 z e5 with ⟨x, rfl, dz⟩ | ⟨i, q, a, as1, w, rfl, hq, hr, hf, rfl, ha, rfl, nw⟩
        · exact ⟨[], .d dz .nil, fun b m => (List.not_mem_nil m).elim, fun b m => (List.not_mem_nil m).elim, fun b m => (List.not_mem_nil m).elim, .nil⟩
        · obtain ⟨f1, f2⟩ := own_fresh R hN' R1 S1 hB hBr hq hr hf
          refine ⟨a :: as1 ++ [], .w nw .nil, ?_⟩
          rw [List.append_nil, ← ha]
          exact ⟨fun b m => R1.inp i b m, f1, f2, R1.nd i⟩
      | tup ls =>
        simp only [resRL, Option.bind_eq_some_iff] at e3
        obtain ⟨rs, e5, e6⟩ := e3
        split at e6
        · rename_i nd
          cases e6
          obtain ⟨t, us, rfl, ht, hl, hz⟩ := z
          obtain ⟨as1, q1, q2, q3⟩ := res_many R1 hz e5 nd
          refine ⟨t, us, as1, rfl, ht, hl, q1, fun b m => ?_, fun b m => ?_, fun b m => ?_, q2⟩
          · obtain ⟨i, q, _, _, hq, hr, hf, mb⟩ := q3 b m
            exact R1.inp i b mb
          · obtain ⟨i, q, _, _, hq, hr, hf, mb⟩ := q3 b m
            exact (own_fresh R hN' R1 S1 hB hBr hq hr hf).1 b mb
          · obtain ⟨i, q, _, _, hq, hr, hf, mb⟩ := q3 b m
            exact (own_fresh R hN' R1 S1 hB hBr hq hr hf).2 b mb
        · cases e6
      | nw r =>
        cases e3
        obtain ⟨a, as1, rfl, fr, nw⟩ := z
        refine ⟨a :: as1 ++ [], .w nw .nil, ?_⟩
        rw [List.append_nil]
        refine ⟨fr.inp, fr.non, fun b m j mj => ?_, fr.nd⟩
        rcases hB j with y | y
        · rw [y] at mj; exact fr.noA b m j mj
        · rw [y] at mj; exact List.not_mem_nil mj
    | bk α => cases e2
    | ct α => cases e2
  · cases e
theorem spV_len {np n : Nat} {b : MS} {vs : List V} {Q : VK} {E : XK} (h : spV K (mDef np n b) vs H Q E) : vs.length = np := by
  obtain ⟨p, as, A, r, as', R, e, _⟩ := h
  unfold mDef at e
  split at e
  · rename_i z
    have := R.len
    rw [List.length_map] at this
    omega
  · cases e
end
end Vm
namespace Vm
open PySem PySem.Spec PyProof.Rows L2 Gk
section
variable {K : PySem.W.Frag} {p p' p2 : List Addr} {H H' H2 : Hp} {σ σ' σ2 : L2.St} {α α' α2 α0 : AS} {A A' A2 : FT}
def argOf (α : AS) : Lc → Option AV
  | .d x => some (.d x)
  | .s i => (α[i]?).bind fun q => match q with
    | .un => none
    | q => some q
def argsOf (α : AS) : List Lc → Option (List AV)
  | [] => some []
  | l :: r => (argOf α l).bind fun x => (argsOf α r).bind fun xs => some (x :: xs)
def isS (k : Nat) : Lc → Bool
  | .s i => decide (i = k)
  | .d _ => false
def putBack (α : AS) (ls : List Lc) (as : List AV) : AS := α.mapIdx fun k r => if r.isRoot = true then (match ls.findIdx? (isS k) with
  | some i => (as[i]?).getD r
  | none => r) else r
def callM (F : FV) (α : AS) (ls : List Lc) : Option (Rv × AS) := (argsOf α ls).bind fun as => (F as).bind fun r => if (ls.filterMap (rootIx α)).Nodup then some (r.1, putBack α ls r.2) else none
theorem argsOf_get : ∀ {ls : List Lc} {as : List AV}, argsOf α ls = some as → as.length = ls.length ∧ ∀ (i : Nat) (l : Lc), ls[i]? = some l → ∃ a, as[i]? = some a ∧ argOf α l = some a
  | [], as, e => by cases e; exact ⟨rfl, fun i l h => by simp at h⟩
  | l :: ls, as, e => by
    simp only [argsOf, Option.bind_eq_some_iff] at e
    obtain ⟨x, e1, xs, e2, e3⟩ := e
    cases e3
    obtain ⟨h1, h2⟩ := argsOf_get e2
    refine ⟨congrArg (· + 1) h1, fun i m h => ?_⟩
    cases i with
    | zero => cases h; exact ⟨x, rfl, e1⟩
    | succ i => exact h2 i m (by simpa using h)
theorem argOf_s {k : Nat} {a : AV} (h : argOf α (.s k) = some a) : α[k]? = some a ∧ a ≠ .un := by
  simp only [argOf, Option.bind_eq_some_iff] at h
  obtain ⟨r, e1, e2⟩ := h
  cases r <;> cases e2 <;> exact ⟨e1, by intro z; cases z⟩
theorem locA_get {vs : List V} {ls : List Lc} (h : LocA K p H σ vs ls) : vs.length = ls.length ∧ ∀ (i : Nat) (l : Lc), ls[i]? = some l → ∃ v, vs[i]? = some v ∧ LocR K p H σ v l := by
  induction h with
  | nil => exact ⟨rfl, fun i l h => by simp at h⟩
  | cons h t ih =>
    refine ⟨congrArg (· + 1) ih.1, fun i l e => ?_⟩
    cases i with
    | zero => cases e; exact ⟨_, rfl, h⟩
    | succ i => exact ih.2 i l (by simpa using e)
theorem nodup_fm {τ : Type} {f : τ → Option Nat} : ∀ {l : List τ}, (l.filterMap f).Nodup → ∀ {i j : Nat} {x y : τ} {k : Nat}, l[i]? = some x → l[j]? = some y → f x = some k → f y = some k → i = j
  | [], _, i, _, _, _, _, h, _, _, _ => by simp at h
  | a :: l, nd, 0, 0, _, _, _, _, _, _, _ => rfl
  | a :: l, nd, 0, j + 1, x, y, k, h1, h2, e1, e2 => by
    exfalso
    cases h1
    rw [List.filterMap_cons, e1] at nd
    have h2' : l[j]? = some y := by simpa using h2
    exact (List.nodup_cons.mp nd).1 (List.mem_filterMap.mpr ⟨y, List.mem_of_getElem? h2', e2⟩)
  | a :: l, nd, i + 1, 0, x, y, k, h1, h2, e1, e2 => by
    exfalso
    cases h2
    rw [List.filterMap_cons, e2] at nd
    have h1' : l[i]? = some x := by simpa using h1
    exact (List.nodup_cons.mp nd).1 (List.mem_filterMap.mpr ⟨x, List.mem_of_getElem? h1', e1⟩)
  | a :: l, nd, i + 1, j + 1, x, y, k, h1, h2, e1, e2 => by
    have nd' : (l.filterMap f).Nodup := by
      rw [List.filterMap_cons] at nd
      split at nd
      · exact nd
      · exact (List.nodup_cons.mp nd).2
    exact congrArg (· + 1) (nodup_fm nd' (by simpa using h1) (by simpa using h2) e1 e2)
theorem findIdx?_isS {k : Nat} : ∀ {ls : List Lc} {i : Nat}, ls.findIdx? (isS k) = some i → ls[i]? = some (.s k)
  | [], _, h => by simp at h
  | l :: ls, i, h => by
    rw [List.findIdx?_cons] at h
    split at h
    · rename_i hl
      cases h
      cases l with
      | d x => cases hl
      | s j => cases (of_decide_eq_true hl : j = k); rfl
    · obtain ⟨j, hj, rfl⟩ := Option.map_eq_some_iff.mp h
      have := findIdx?_isS hj
      simpa using this
theorem findIdx?_none {k : Nat} : ∀ {ls : List Lc}, ls.findIdx? (isS k) = none → ∀ i : Nat, ls[i]? ≠ some (Lc.s k)
  | [], _, i, e => by simp at e
  | l :: ls, h, i, e => by
    rw [List.findIdx?_cons] at h
    split at h
    · cases h
    · rename_i hl
      have h' := Option.map_eq_none_iff.mp h
      cases i with
      | zero => cases e; exact hl (decide_eq_true rfl)
      | succ i => exact findIdx?_none h' i (by simpa using e)
def argF (ls : List Lc) (A : FT) : FT := fun i => match ls[i]? with
  | some (.s k) => A k
  | _ => []
def pbF (α : AS) (ls : List Lc) (A B : FT) : FT := fun k => if (α[k]?).any AV.isRoot = true then (match ls.findIdx? (isS k) with
  | some i => B i
  | none => A k) else A k
theorem argF_mem {ls : List Lc} {i : Nat} {b : Addr} (h : b ∈ argF ls A i) : ∃ k, ls[i]? = some (.s k) ∧ b ∈ A k := by
  unfold argF at h
  split at h
  · exact ⟨_, by assumption, h⟩
  · exact (List.not_mem_nil h).elim
theorem slot_nil {o : Option V} {f : List Addr} {r : AV} (h : SlotR K p H o f r) (n : r.isRoot = false) : f = [] := by
  cases r with
  | un => exact h
  | d x => exact h.1
  | sc x => exact h.1
  | g x => exact h.1
  | r a b c => cases n
  | n a b c => cases n
theorem call_core {F : FV} {vs : List V} {ls : List Lc} {r : Rv} {Q : VK} {E : XK} (R : Rel K p H σ α A) (hl : LocA K p H σ vs ls) (e : callM F α ls = some (r, α'))
    (h : ∀ p' H' A' v, Rel K p' H' σ α' A' → Step p H σ α A p' H' σ α' A' → ResR K H p' H' A' v r → Q v H') : spV K F vs H Q E := by
  simp only [callM, Option.bind_eq_some_iff] at e
  obtain ⟨as, e1, ⟨r0, as'⟩, e2, e3⟩ := e
  split at e3
  · rename_i nd
    cases e3
    obtain ⟨la, ga⟩ := argsOf_get e1
    obtain ⟨lv, gv⟩ := locA_get hl
    have uni : ∀ (i j k : Nat), ls[i]? = some (.s k) → ls[j]? = some (.s k) → ∀ b, b ∈ A k → i = j := fun i j k h1 h2 b m => by
      obtain ⟨q, hq⟩ := R.has_slot m
      have hr : q.isRoot = true := by
        cases z : q.isRoot with
        | true => rfl
        | false => have := slot_nil (R.sl k q hq) z; rw [this] at m; exact (List.not_mem_nil m).elim
      have ri : rootIx α (.s k) = some k := by simp only [rootIx, hq, Option.bind_some, if_pos hr]
      exact nodup_fm nd h1 h2 ri ri
    have RA : Rel K p H (vs.map some) as (argF ls A) := by
      refine ⟨by rw [List.length_map, lv, la], fun i x h2 => ?_, fun i h => ?_, fun i => ?_, fun i j a h1 h2 => ?_, fun i a h => ?_, R.al, R.tb⟩
      · obtain ⟨l, hl1⟩ := get_of_lt (l := ls) (i := i) (by have := getElem?_lt h2; omega)
        obtain ⟨y, y1, y2⟩ := ga i l hl1
        obtain ⟨v, v1, v2⟩ := gv i l hl1
        rw [h2] at y1
        cases y1
        rw [List.getElem?_map, v1]
        cases l with
        | d z =>
          cases y2
          have : argF ls A i = [] := by unfold argF; rw [hl1]
          rw [this]
          exact ⟨rfl, v, rfl, v2⟩
        | s k =>
          have : argF ls A i = A k := by unfold argF; rw [hl1]
          rw [this]
          have z := R.sl k x (argOf_s y2).1
          rw [join_of v2] at z
          exact z
      · have : ls[i]? = none := List.getElem?_eq_none_iff.mpr (by have := List.getElem?_eq_none_iff.mp h; omega)
        unfold argF
        rw [this]
      · unfold argF
        split
        · exact R.nd _
        · exact .nil
      · obtain ⟨k, k1, k2⟩ := argF_mem h1
        obtain ⟨m, m1, m2⟩ := argF_mem h2
        have e := R.dj k m a k2 m2
        subst e
        exact uni i j k k1 m1 a k2
      · obtain ⟨k, k1, k2⟩ := argF_mem h
        exact R.inp k a k2
    refine ⟨p, as, argF ls A, _, as', RA, e2, fun p1 H1 B v R1 S1 rr => ?_⟩
    have t := S1.tr RA
    have fi : ∀ {k i : Nat}, ls.findIdx? (isS k) = some i → ls[i]? = some (.s k) ∧ argF ls A i = A k := fun {k i} hh => by
      have z := findIdx?_isS hh
      exact ⟨z, by unfold argF; rw [z]⟩
    have fn : ∀ {k : Nat}, ls.findIdx? (isS k) = none → ∀ b ∈ A k, ∀ i, b ∉ argF ls A i := fun {k} hh b m i z => by
      obtain ⟨k', k1, k2⟩ := argF_mem z
      have := R.dj k k' b m k2
      subst this
      exact findIdx?_none hh i k1
    have pr : ∀ {k : Nat} {q : AV}, α[k]? = some q → q.isRoot = true → pbF α ls A B k = match ls.findIdx? (isS k) with
        | some i => B i
        | none => A k := fun {k q} hq hr => by unfold pbF; rw [hq, Option.any_some, if_pos hr]
    have pn : ∀ {k : Nat} {q : AV}, α[k]? = some q → q.isRoot = false → pbF α ls A B k = [] := fun {k q} hq hr => by unfold pbF; rw [hq, Option.any_some, if_neg (by rw [hr]; simp)]; exact slot_nil (R.sl k q hq) hr
    have pm : ∀ {k : Nat} {b : Addr}, b ∈ pbF α ls A B k → (∃ i, ls.findIdx? (isS k) = some i ∧ b ∈ B i) ∨ (ls.findIdx? (isS k) = none ∧ b ∈ A k) := fun {k b} m => by
      cases hq : α[k]? with
      | none => unfold pbF at m; rw [hq] at m; simp only [Option.any_none, Bool.false_eq_true, if_false] at m; rw [R.out k hq] at m; exact (List.not_mem_nil m).elim
      | some q =>
        cases hr : q.isRoot with
        | false => rw [pn hq hr] at m; exact (List.not_mem_nil m).elim
        | true =>
          rw [pr hq hr] at m
          cases hh : ls.findIdx? (isS k) with
          | some i => rw [hh] at m; exact .inl ⟨i, rfl, m⟩
          | none => rw [hh] at m; exact .inr ⟨rfl, m⟩
    have pg : ∀ k, (putBack α ls as')[k]? = (α[k]?).map fun r => if r.isRoot = true then (match ls.findIdx? (isS k) with
        | some i => (as'[i]?).getD r
        | none => r) else r := fun k => by unfold putBack; rw [List.getElem?_mapIdx]
    have la' : as'.length = as.length := S1.ln
    -- a slot that was handed in
    have inn : ∀ {k i : Nat} {q : AV}, α[k]? = some q → ls.findIdx? (isS k) = some i → ∃ y, as'[i]? = some y ∧ as[i]? = some q := fun {k i q} hq hh => by
      obtain ⟨z1, z3⟩ := fi hh
      obtain ⟨a, a1, a2⟩ := ga i _ z1
      obtain ⟨b1, _⟩ := argOf_s a2
      rw [hq] at b1
      cases b1
      obtain ⟨y, hy⟩ := get_of_lt (l := as') (i := i) (by have := getElem?_lt a1; omega)
      exact ⟨y, hy, a1⟩
    refine h p1 H1 (pbF α ls A B) v ⟨by unfold putBack; rw [List.length_mapIdx]; exact R.len, fun k x h2 => ?_, fun k hk => ?_, fun k => ?_, fun k m a h1 h2 => ?_, fun k a hm => ?_, R1.al, R1.tb⟩
      ⟨fun b o ht eb n => S1.keep b o ht eb fun i z => ?_, S1.dom, fun k b z => ?_, S1.sub, fun b m => ?_, by unfold putBack; rw [List.length_mapIdx], fun k x ek f => ⟨rfl, ?_⟩, fun k x ek f => ?_⟩ ?_
    · rw [pg] at h2
      obtain ⟨q, hq, rfl⟩ := Option.map_eq_some_iff.mp h2
      have old : (∀ c ∈ A k, ∀ u, H c = some u → H1 c = some u) → SlotR K p1 H1 (σ[k]?).join (A k) q := fun hk => (R.sl k q hq).tr t hk
      by_cases hr : q.isRoot = true
      · rw [if_pos hr, pr hq hr]
        cases hh : ls.findIdx? (isS k) with
        | some i =>
          obtain ⟨z1, z3⟩ := fi hh
          obtain ⟨y, hy, _⟩ := inn hq hh
          dsimp only
          rw [hy]
          have z := R1.sl i y hy
          obtain ⟨w, w1, w2⟩ := gv i _ z1
          have w2' : σ[k]? = some (some w) := w2
          rw [List.getElem?_map, w1] at z
          rw [w2']
          exact z
        | none =>
          dsimp only
          exact old fun c m u eu => (S1.keep c u (R.own_tbl m eu) eu (fn hh c m)).exp (R.inp k c m)
      · rw [if_neg hr]
        have hr' : q.isRoot = false := by simpa using hr
        have a0 := slot_nil (R.sl k q hq) hr'
        rw [pn hq hr', ← a0]
        exact old fun c m => by rw [a0] at m; exact (List.not_mem_nil m).elim
    · rw [pg] at hk
      have hq := Option.map_eq_none_iff.mp hk
      unfold pbF
      rw [hq]
      exact R.out k hq
    · unfold pbF
      split
      · split
        · exact R1.nd _
        · exact R.nd k
      · exact R.nd k
    · rcases pm h1 with ⟨i, f1, m1⟩ | ⟨f1, m1⟩ <;> rcases pm h2 with ⟨j, f2, m2⟩ | ⟨f2, m2⟩
      · have := R1.dj i j a m1 m2
        subst this
        have a1 := (fi f1).1
        rw [(fi f2).1] at a1
        cases a1
        rfl
      · rcases S1.new i a m1 with z | z
        · rw [(fi f1).2] at z; exact R.dj k m a z m2
        · exact (R.in_al m2 z).elim
      · rcases S1.new j a m2 with z | z
        · rw [(fi f2).2] at z; exact R.dj k m a m1 z
        · exact (R.in_al m1 z).elim
      · exact R.dj k m a m1 m2
    · rcases pm hm with ⟨i, f1, m1⟩ | ⟨f1, m1⟩
      · exact R1.inp i a m1
      · rcases S1.mono a (R.inp k a m1) with z | ⟨i, z⟩
        · exact z
        · exact (fn f1 a m1 i z).elim
    · obtain ⟨k, _, k2⟩ := argF_mem z
      exact n k k2
    · rcases pm z with ⟨i, f1, m1⟩ | ⟨f1, m1⟩
      · rcases S1.new i b m1 with z | z
        · rw [(fi f1).2] at z; exact .inl z
        · exact .inr z
      · exact .inl m1
    · rcases S1.mono b m with z | ⟨i, z⟩
      · exact .inl z
      · obtain ⟨k, _, k2⟩ := argF_mem z
        exact .inr ⟨k, k2⟩
    · have hr := isRoot_of_isFix f
      cases hh : ls.findIdx? (isS k) with
      | none => exact ⟨x, by rw [pg, ek, hh]; simp only [Option.map_some, ite_self], .refl⟩
      | some i =>
        obtain ⟨y, hy, hx⟩ := inn ek hh
        obtain ⟨_, y', hy', kin⟩ := S1.fix i x hx f
        rw [hy] at hy'
        cases hy'
        exact ⟨y, by rw [pg, ek, hh]; simp only [Option.map_some, if_pos hr, hy, Option.getD_some], kin⟩
    · rw [pg] at ek
      obtain ⟨q, hq, rfl⟩ := Option.map_eq_some_iff.mp ek
      refine ⟨q, hq, ?_⟩
      by_cases hr : q.isRoot = true
      · rw [if_pos hr] at f
        cases hh : ls.findIdx? (isS k) with
        | none => rw [hh] at f; exact f
        | some i =>
          obtain ⟨y, hy, hx⟩ := inn hq hh
          rw [hh] at f
          dsimp only at f
          rw [hy] at f
          obtain ⟨q', e1, e2⟩ := S1.nof i y hy f
          rw [hx] at e1
          cases e1
          exact e2
      · rw [if_neg hr] at f; exact f
    · have fr : ∀ bs, Fresh p1 H B bs → Fresh p1 H (pbF α ls A B) bs := fun bs fr => by
        refine ⟨fr.inp, fr.non, fun b m k z => ?_, fr.nd⟩
        rcases pm z with ⟨i, f1, m1⟩ | ⟨f1, m1⟩
        · exact fr.noA b m i m1
        · exact R.in_al m1 (fr.non b m)
      show ResR K H p1 H1 (pbF α ls A B) v r0
      cases r0 with
      | one r => obtain ⟨bs, q1, q2⟩ := rr; exact ⟨bs, q1, fr bs q2⟩
      | tup rs => obtain ⟨t, us, bs, q1, q2, q3, q4, q5⟩ := rr; exact ⟨t, us, bs, q1, q2, q3, q4, fr bs q5⟩
  · cases e3
theorem ResL.frz {q : List Addr} (l : ∀ b ∈ q, b ∈ p) : ∀ {vs : List V} {rs : List R1} {as : List Addr}, (∀ b ∈ as, b ∉ q) → ResL K p H vs rs as → DzA K q H vs (rs.map R1.da)
  | _, _, _, _, .nil => .nil
  | _, _, _, n, .d h t => .cons (h.tr (tr_less l)) (ResL.frz l n t)
  | _, _, _, n, .w (r := r) h t => by
    refine .cons ?_ (ResL.frz l (fun b m => n b (List.mem_append_right _ m)) t)
    cases r with
    | r x => exact h.2.frz l (n _ (List.mem_append_left _ (List.mem_cons_self ..)))
    | n x => exact h.frz l fun b m => n b (List.mem_append_left _ m)
theorem ResL.length : ∀ {vs : List V} {rs : List R1} {as : List Addr}, ResL K p H vs rs as → vs.length = rs.length
  | _, _, _, .nil => rfl
  | _, _, _, .d _ t => congrArg (· + 1) (ResL.length t)
  | _, _, _, .w _ t => congrArg (· + 1) (ResL.length t)
theorem drop_step {as : List Addr} (R : Rel K p H σ α A) (R1 : Rel K p' H' σ' α' A') (S1 : Step p H σ α A p' H' σ' α' A') (fr : Fresh p' H A' as) :
    Rel K (p'.filter fun b => decide (b ∉ as)) H' σ' α' A' ∧ Step p H σ α A (p'.filter fun b => decide (b ∉ as)) H' σ' α' A' := by
  refine ⟨rel_drop R1 fr.noA, S1.keep, S1.dom, S1.new, fun b m => S1.sub b (List.mem_filter.mp m).1, fun b m => ?_, S1.ln, S1.fix, S1.nof⟩
  rcases S1.mono b m with z | z
  · exact .inl (List.mem_filter.mpr ⟨z, decide_eq_true fun y => R.al b m (fr.non b y)⟩)
  · exact .inr z
theorem res_da {v : V} {r : Rv} (R : Rel K p H σ α A) (R1 : Rel K p' H' σ' α' A') (S1 : Step p H σ α A p' H' σ' α' A') (h : ResR K H p' H' A' v r) :
    ∃ p2, Rel K p2 H' σ' α' A' ∧ Step p H σ α A p2 H' σ' α' A' ∧ Dz K p2 H' v r.da := by
  have less : ∀ as : List Addr, ∀ b ∈ p'.filter (fun b => decide (b ∉ as)), b ∈ p' := fun as b m => (List.mem_filter.mp m).1
  have nin : ∀ as : List Addr, ∀ b ∈ as, b ∉ p'.filter (fun b => decide (b ∉ as)) := fun as b m z => of_decide_eq_true (List.mem_filter.mp z).2 m
  cases r with
  | one r =>
    obtain ⟨as, h1, fr⟩ := h
    obtain ⟨R2, S2⟩ := drop_step R R1 S1 fr
    have z := h1.frz (less as) (nin as)
    cases z with
    | cons z _ => exact ⟨_, R2, S2, z⟩
  | tup rs =>
    obtain ⟨t, us, as, rfl, ht, hl, h1, fr⟩ := h
    obtain ⟨R2, S2⟩ := drop_step R R1 S1 fr
    exact ⟨_, R2, S2, .tup ht hl (h1.frz (less as) (nin as))⟩
theorem call_data {F : FV} {vs : List V} {ls : List Lc} {Q : VK} {E : XK} {r : Rv} (R : Rel K p H σ α A) (hl : LocA K p H σ vs ls) (e : callM F α ls = some (r, α'))
    (h : ∀ p' H' A' v, Rel K p' H' σ α' A' → Step p H σ α A p' H' σ α' A' → Dz K p' H' v r.da → Q v H') : spV K F vs H Q E := by
  refine call_core R hl e fun p1 H1 A1 v R1 S1 rr => ?_
  obtain ⟨p2, R2, S2, d⟩ := res_da R R1 S1 rr
  exact h p2 H1 A1 v R2 S2 d
/-- a def's call: with what is left out (ds) behind -/
def eCall (F : FV) (ds : List Da) (ma : MA) : ME := fun α => (ma α).bind fun x => (callM F x.2 (x.1 ++ ds.map Lc.d)).bind fun y => some (.d y.1.da, y.2)
def fCall (F : FV) (ds : List Da) (ma : MA) : MF := fun α => (ma α).bind fun x => (callM F x.2 (x.1 ++ ds.map Lc.d)).bind fun y => match y.1 with
  | .one (.w r) => some (r, y.2)
  | _ => none
inductive DfA : List V → List Da → Prop
  | nil : DfA [] []
  | non {vs : List V} {ds : List Da} : DfA vs ds → DfA (.non :: vs) (.none :: ds)
  | bl {b : Bool} {vs : List V} {ds : List Da} : DfA vs ds → DfA (.bl b :: vs) (.bool b :: ds)
  | int {i : Int} {vs : List V} {ds : List Da} : DfA vs ds → DfA (.int i :: vs) (.int i :: ds)
theorem DfA.loc : ∀ {vs : List V} {ds : List Da}, DfA vs ds → LocA K p H σ vs (ds.map Lc.d)
  | _, _, .nil => .nil
  | _, _, .non r => .cons .non (DfA.loc r)
  | _, _, .bl r => .cons (.bl _) (DfA.loc r)
  | _, _, .int r => .cons (.int _) (DfA.loc r)
theorem paired_app {α β : Type} {R : α → β → Prop} : ∀ {xs ys : List α} {us ws : List β}, Paired R xs us → Paired R ys ws → Paired R (xs ++ ys) (us ++ ws)
  | _, _, _, _, .nil, s => s
  | _, _, _, _, .cons r t, s => .cons r (paired_app t s)
theorem ref_call {F : FV} {ta : TA} {ma : MA} {E : XK} {dvs : List V} {ds : List Da} (hd : DfA dvs ds) (ha : RefA K ta ma) : RefE K (tCall (spV K F) dvs E ta) (eCall F ds ma) := ⟨fun p H σ α A l α' Q R e h => by
  simp only [eCall, Option.bind_eq_some_iff] at e
  obtain ⟨⟨ls, α1⟩, e1, ⟨r, α2⟩, e2, e4⟩ := e
  cases e4
  refine ha.go p H σ α A ls α1 _ R e1 fun p1 H1 A1 vs R1 S1 q1 => ?_
  exact call_data R1 (paired_app q1 hd.loc) e2 fun p2 H2 A2 v R2 S2 dz => h p2 H2 A2 v R2 (S1.trans R S2) dz⟩
theorem ref_fCall {F : FV} {ta : TA} {ma : MA} {E : XK} {dvs : List V} {ds : List Da} (hd : DfA dvs ds) (ha : RefA K ta ma) : RefF K (tCall (spV K F) dvs E ta) (fCall F ds ma) := ⟨fun p H σ α A r α' Q R e h => by
  simp only [fCall, Option.bind_eq_some_iff] at e
  obtain ⟨⟨ls, α1⟩, e1, ⟨r', α2⟩, e2, e3⟩ := e
  split at e3
  · rename_i w hw
    cases e3
    dsimp only at hw
    subst hw
    refine ha.go p H σ α A ls α1 _ R e1 fun p1 H1 A1 vs R1 S1 q1 => ?_
    refine call_core R1 (paired_app q1 hd.loc) e2 fun p2 H2 A2 v R2 S2 rr => ?_
    obtain ⟨as, h1, fr⟩ := rr
    cases h1 with
    | w nw t =>
      cases t
      rw [List.append_nil] at fr
      exact h p2 H2 A2 _ _ R2 (S1.trans R S2) ⟨fr.inp, fun b m => S1.dom b (fr.non b m), fr.noA, fr.nd⟩ nw
  · cases e3⟩
def eCallN (n m : Nat) (F : FV) (gL : List Lc → List Lc → List Lc) (ma mk : MA) : ME := fun α => (ma α).bind fun x => (mk x.2).bind fun k => if x.1.length = n ∧ k.1.length = m then
  (callM F k.2 (gL x.1 k.1)).bind fun y => some (.d y.1.da, y.2) else none
def setT (t : Nat × Bool) (r : R1) (α : AS) : Option AS := match r with
  | .d x => setD t.1 x α
  | .w w => if t.2 = true then setR t.1 w α else setD t.1 w.da α
end
end Vm
namespace Vm
open PySem PySem.Spec PyProof.Rows L2 Gk
def rOr (r s : R2) : R2 := fun x y H Q => r x y H Q ∨ s x y H Q
section
variable {X : Cx}
theorem opr_or {f : Value → Value → Sem Value} {r s : R2} (a : OpR X f r) (b : OpR X f s) : OpR X f (rOr r s) :=
  fun pins st σ H x y v u Q I rx ry q => q.elim (a pins st σ H x y v u Q I rx ry) (b pins st σ H x y v u Q I rx ry)
theorem opr_imp {g : Value → Value → Sem Value} {r r' : R2} (h : OpR X g r) (i : ∀ x y H Q, r' x y H Q → r x y H Q) : OpR X g r' :=
  fun pins s σ H x y v u Q I rx ry q => h pins s σ H x y v u Q I rx ry (i _ _ _ _ q)
theorem ixr_or {r s : R2} (a : IxR X r) (b : IxR X s) : IxR X (rOr r s) :=
  fun value slice pins st σ H x y v u Q I rx ry h hs => h.elim (fun h => a value slice pins st σ H x y v u Q I rx ry h hs) (fun h => b value slice pins st σ H x y v u Q I rx ry h hs)
def rCatU : R2 := fun x y H Q => ∃ a b xs ys, x = .ref a ∧ y = .ref b ∧ H a = some (.tup xs) ∧ H b = some (.tup ys) ∧ xs.length + ys.length ≤ sizeLine ∧
    ∀ u H', Same H H' → H' u = some (.tup (xs ++ ys)) → Q (.ref u) H'
theorem op_catU : OpR X (binaryOp .Add) rCatU :=
  opr_imp op_catA fun x y H Q h => by
    obtain ⟨a, b, xs, ys, e1, e2, ha, hb, hl, q⟩ := h
    refine ⟨a, b, xs, ys, e1, e2, .inl (.inl ha), .inl (.inl hb), hl, fun e => ?_, fun _ e => ?_, fun _ _ p hp => ?_⟩
    · exact q b H (Same.refl H) (by rw [e, List.nil_append]; exact hb)
    · exact q a H (Same.refl H) (by rw [e, List.append_nil]; exact ha)
    · exact q p _ (same_new hp) upd_same
def rSlU : V → Option Int → Option Int → Hp → VK → Prop := fun x lo hi H Q => (∃ a xs, x = .ref a ∧ H a = some (.tup xs) ∧ ∀ u H', Same H H' → H' u = some (.tup (cutV xs lo hi)) → Q (.ref u) H') ∨
  (∃ a xs, x = .ref a ∧ H a = some (.lst xs) ∧ ∀ p, H p = none → Q (.ref p) (L2.upd H p (.lst (cutV xs lo hi)))) ∨ rSlS x lo hi H Q
theorem sl_any : SlR X rSlU := by
  intro pins s σ H x v vl vu lo hi sl Q I rx hs pl pu q
  rcases q with ⟨a, xs, e, ha, q⟩ | ⟨a, xs, e, ha, q⟩ | q
  · refine sl_tupA pins s σ H x v vl vu lo hi sl Q I rx hs pl pu ?_
    refine ⟨a, xs, e, .inl (.inl ha), fun z => ?_, fun _ p hp => q p _ (same_new hp) upd_same⟩
    refine q a H (Same.refl H) ?_
    have ec : cutV xs lo hi = xs := by
      unfold cutV
      rw [z.1, z.2, List.drop_zero, Nat.sub_zero, List.take_length]
    rw [ec]
    exact ha
  · exact sl_list pins s σ H x v vl vu lo hi sl Q I rx hs pl pu ⟨a, xs, e, .inl (.inl ha), q⟩
  · exact sl_str pins s σ H x v vl vu lo hi sl Q I rx hs pl pu q
/-- + -/
def rAddI : R2 := rI0 fun i j => .int (i + j)
def rAddS : R2 := fun x y H Q => ∃ i j, x = .str i ∧ y = .str j ∧ i.length + j.length ≤ sizeLine ∧ Q (.str (i ++ j)) H
def rAddA : R2 := rOr rAddI (rOr rAddS (rOr rCatU rCat))
theorem op_addA : OpR X (binaryOp .Add) rAddA := opr_or op_add (opr_or op_add_str (opr_or op_catU op_cat))
/-- x[i] -/
def rIxTH : R2 := fun x y H Q => ∃ p xs i v, x = .ref p ∧ y = .int i ∧ H p = some (.tup xs) ∧ atI xs i = some v ∧ Q v H
def rIxLH : R2 := fun x y H Q => ∃ p xs i v, x = .ref p ∧ y = .int i ∧ H p = some (.lst xs) ∧ atI xs i = some v ∧ Q v H
def rIxA : R2 := rOr rIxLH (rOr rIxTH rIxS)
theorem ix_any : IxR X rIxA := ixr_or ix_lstH (ixr_or ix_tupH ix_str)
/-- len -/
def rLenA : List V → Hp → VK → Prop := fun xs H Q => (∃ p ys, xs = [.ref p] ∧ HasSeq H p ys ∧ Q (.int ys.length) H) ∨ (∃ z : Str, xs = [.str z] ∧ z.length ≤ sizeLine ∧ Q (.int (z.length : Nat)) H)
theorem len_any : CallR X (.builtin "len") rLenA := by
  intro pins s σ H xs us Q I r h
  rcases h with h | ⟨z, e, hz, q⟩
  · exact len_H pins s σ H xs us Q I r h
  · exact call_len pins s σ H xs us Q I r ⟨.str z, z.length, e, ⟨hz, rfl⟩, q⟩
/-- tuple(..) of a list, of a tuple -/
def rTupA : List V → Hp → VK → Prop := fun xs H Q => ∃ p ys, xs = [.ref p] ∧ HasSeq H p ys ∧ ∀ u H', Same H H' → H' u = some (.tup ys) → Q (.ref u) H'
theorem tuple_any : CallR X (.type "tuple") rTupA := by
  intro pins s σ H xs us Q I r h
  obtain ⟨p, ys, e, hp, q⟩ := h
  refine call_tuple_of pins s σ H xs us Q I r ⟨p, ys, e, ?_⟩
  rcases hp with hp | hp
  · exact .inl ⟨.of hp, fun l hl => q l _ (same_new hl) upd_same⟩
  · exact .inr ⟨.of hp, q p H (Same.refl H) hp⟩
/-- list(..) -/
def rLstA : List V → Hp → VK → Prop := fun xs H Q => (∃ p ys, xs = [.ref p] ∧ HasSeq H p ys ∧ ∀ l, H l = none → Q (.ref l) (L2.upd H l (.lst ys))) ∨
  ∃ z : Str, xs = [.str z] ∧ z.length ≤ 100000 ∧ ∀ l, H l = none → Q (.ref l) (L2.upd H l (.lst (signsV z)))
theorem list_any (calm : X.calm = true) : CallR X (.type "list") rLstA := by
  intro pins s σ H xs us Q I r h
  rcases h with h | h
  · exact list_ofH pins s σ H xs us Q I r h
  · exact call_listS calm pins s σ H xs us Q I r h
/-- all, any of a list of truths -/
def rAllH : List V → Hp → VK → Prop := fun vs H Q => ∃ (a : Addr) (bs : List Bool), vs = [V.ref a] ∧ H a = some (.lst (bs.map V.bl)) ∧ Q (.bl (bs.all id)) H
theorem all_H (hc : X.calm = true) : CallR X (.builtin "all") rAllH := by
  intro pins s σ H xs us Q I r h
  obtain ⟨a, bs, e, ha, q⟩ := h
  exact cr_all hc pins s σ H xs us Q I r ⟨a, bs, e, .of ha, q⟩
end
section
variable {K : PySem.W.Frag} {p p' p2 : List Addr} {H H' H2 : Hp} {σ σ' σ2 : L2.St} {α α' α2 α0 : AS} {A A' A2 : FT}
theorem sline (n : Nat) (h : n ≤ SLIM) : n ≤ sizeLine := Nat.le_trans h (by rw [sizeLine_eq]; decide)
theorem dz_tup_new {xs : List V} {ds : List Da} {u : Addr} (s : Same H H') (hu : H' u = some (.tup xs)) (hl : xs.length ≤ LIM) (d : DzA K p H xs ds) : Dz K p H' (.ref u) (.tuple ds) := .tup hu hl (d.tr (tr_same s))
def fAdd : Da → Da → Option Da
  | .int i, .int j => some (.int (i + j))
  | .str x, .str y => if (x ++ y).length ≤ SLIM ∧ x.length + y.length ≤ SLIM then some (.str (x ++ y)) else none
  | .tuple xs, .tuple ys => if xs.length + ys.length ≤ LIM then some (.tuple (xs ++ ys)) else none
  | .list xs, .list ys => if xs.length + ys.length ≤ LIM then some (.list (xs ++ ys)) else none
  | _, _ => none
/-- data hold nothing at a free place -/
theorem rr_add : RefR2 K rAddA fAdd := by
  intro p H x y a b c Q al ha hb e q
  unfold fAdd at e
  split at e
  · cases e; cases vz_int ha; cases vz_int hb
    exact .inl ⟨_, _, rfl, rfl, q _ H (Same.refl H) (.int _)⟩
  · split at e
    · rename_i hl
      cases e
      obtain ⟨rfl, h1⟩ := vz_str ha
      obtain ⟨rfl, h2⟩ := vz_str hb
      exact .inr (.inl ⟨_, _, rfl, rfl, sline _ hl.2, q _ H (Same.refl H) (.str _ hl.1)⟩)
    · cases e
  · split at e
    · rename_i hl
      cases e
      obtain ⟨a, vs, rfl, h1, h2, h3⟩ := vz_tup ha
      obtain ⟨b, ws, rfl, g1, g2, g3⟩ := vz_tup hb
      have hv : vs.length + ws.length ≤ LIM := by rw [h3.length, g3.length]; exact hl
      exact .inr (.inr (.inl ⟨a, b, vs, ws, rfl, rfl, h1, g1, line_of hv, fun u H' s hu => q _ H' s (dz_tup_new s hu (by rw [List.length_append]; exact hv) (h3.append g3))⟩))
    · cases e
  · split at e
    · rename_i hl
      cases e
      obtain ⟨a, vs, rfl, h1, h2, h3⟩ := vz_lst ha
      obtain ⟨b, ws, rfl, g1, g2, g3⟩ := vz_lst hb
      have hv : vs.length + ws.length ≤ LIM := by rw [h3.length, g3.length]; exact hl
      refine .inr (.inr (.inr ⟨a, b, vs, ws, rfl, rfl, h1, g1, line_of hv, fun l hl => q _ _ (same_new hl) (.lst (fun m => al l m hl) upd_same (by rw [List.length_append]; exact hv) ((h3.append g3).tr (tr_same (same_new hl))))⟩))
    · cases e
  · cases e
def fI (g : Int → Int → Int) : Da → Da → Option Da
  | .int i, .int j => some (.int (g i j))
  | _, _ => none
def fIB (g : Int → Int → Bool) : Da → Da → Option Da
  | .int i, .int j => some (.bool (g i j))
  | _, _ => none
theorem rr_IB {g : Int → Int → Bool} : RefR2 K (rI0 fun i j => .bl (g i j)) (fIB g) := by
  intro p H x y a b c Q al ha hb e q
  unfold fIB at e
  split at e
  · cases e; cases vz_int ha; cases vz_int hb
    exact ⟨_, _, rfl, rfl, q _ H (Same.refl H) (.bl _)⟩
  · cases e
abbrev fSub := fI fun i j => i - j
abbrev fLt := fIB fun i j => decide (i < j)
abbrev fLe := fIB fun i j => decide (i ≤ j)
abbrev fGt := fIB fun i j => decide (j < i)
abbrev fGe := fIB fun i j => decide (j ≤ i)
def fMul : Da → Da → Option Da
  | .int i, .int j => if (-(2 ^ 64) < i ∧ i < 2 ^ 64) ∨ (-(2 ^ 64) < j ∧ j < 2 ^ 64) then some (.int (i * j)) else none
  | _, _ => none
def fMod : Da → Da → Option Da
  | .int i, .int j => if 0 < j then some (.int (i % j)) else none
  | _, _ => none
def fDiv : Da → Da → Option Da
  | .int i, .int j => if 0 < j ∧ j < 1073741824 then some (.int (i / j)) else none
  | _, _ => none
def fPow : Da → Da → Option Da
  | .int i, .int j => if 0 ≤ j ∧ j ≤ 1000000 ∧ i.natAbs < 2 ^ 64 then some (.int (i ^ j.toNat)) else none
  | _, _ => none
theorem rr_mul : RefR2 K (rI CMul fun i j => .int (i * j)) fMul := by
  intro p H x y a b c Q al ha hb e q
  unfold fMul at e
  split at e
  · split at e
    · rename_i hc
      cases e; cases vz_int ha; cases vz_int hb
      exact ⟨_, _, rfl, rfl, hc, q _ H (Same.refl H) (.int _)⟩
    · cases e
  · cases e
theorem rr_mod : RefR2 K (rI (fun _ j => 0 < j) fun i j => .int (i % j)) fMod := by
  intro p H x y a b c Q al ha hb e q
  unfold fMod at e
  split at e
  · split at e
    · rename_i hc
      cases e; cases vz_int ha; cases vz_int hb
      exact ⟨_, _, rfl, rfl, hc, q _ H (Same.refl H) (.int _)⟩
    · cases e
  · cases e
theorem rr_div : RefR2 K (rI CDiv fun i j => .int (i / j)) fDiv := by
  intro p H x y a b c Q al ha hb e q
  unfold fDiv at e
  split at e
  · split at e
    · rename_i hc
      cases e; cases vz_int ha; cases vz_int hb
      exact ⟨_, _, rfl, rfl, hc, q _ H (Same.refl H) (.int _)⟩
    · cases e
  · cases e
theorem rr_pow : RefR2 K (rI CPow fun i j => .int (i ^ j.toNat)) fPow := by
  intro p H x y a b c Q al ha hb e q
  unfold fPow at e
  split at e
  · split at e
    · rename_i hc
      cases e; cases vz_int ha; cases vz_int hb
      exact ⟨_, _, rfl, rfl, hc, q _ H (Same.refl H) (.int _)⟩
    · cases e
  · cases e
def fNeg : Da → Option Da
  | .int i => some (.int (-i))
  | _ => none
theorem atI_dz {vs : List V} {ds : List Da} {i : Int} {d : Da} (h : DzA K p H vs ds) (e : atI ds i = some d) : ∃ v, atI vs i = some v ∧ Dz K p H v d := by
  unfold atI at e ⊢
  rw [h.length]
  obtain ⟨j, e1, e2⟩ := Option.bind_eq_some_iff.mp e
  obtain ⟨v, v1, v2⟩ := h.get e2
  exact ⟨v, by rw [e1]; exact v1, v2⟩
def fIx : Da → Da → Option Da
  | .list xs, .int i => atI xs i
  | .tuple xs, .int i => atI xs i
  | .str z, .int i => (atI z.cps.toList i).map fun c => .str ⟨#[c]⟩
  | _, _ => none
theorem rr_ix : RefR2 K rIxA fIx := by
  intro p H x y a b c Q al ha hb e q
  unfold fIx at e
  split at e
  · cases vz_int hb
    obtain ⟨a, vs, rfl, h1, h2, h3⟩ := vz_lst ha
    obtain ⟨v, v1, v2⟩ := atI_dz h3 e
    exact .inl ⟨a, vs, _, v, rfl, rfl, h1, v1, q v H (Same.refl H) v2⟩
  · cases vz_int hb
    obtain ⟨a, vs, rfl, h1, h2, h3⟩ := vz_tup ha
    obtain ⟨v, v1, v2⟩ := atI_dz h3 e
    exact .inr (.inl ⟨a, vs, _, v, rfl, rfl, h1, v1, q v H (Same.refl H) v2⟩)
  · cases vz_int hb
    obtain ⟨rfl, hz⟩ := vz_str ha
    obtain ⟨k, e1, rfl⟩ := Option.map_eq_some_iff.mp e
    exact .inr (.inr ⟨_, _, k, rfl, rfl, sline _ hz, e1, q _ H (Same.refl H) (.str _ (by show 1 ≤ SLIM; decide))⟩)
  · cases e
abbrev MO := AS → Option (Option Int × AS)
structure RefO (K : PySem.W.Frag) (t : TO) (m : MO) : Prop where
  go : ∀ p H σ α A l α' Q, Rel K p H σ α A → m α = some (l, α') → (∀ p' H' A', Rel K p' H' σ α' A' → Step p H σ α A p' H' σ α' A' → Q l H') → t σ H Q
def oNone : MO := fun α => some (none, α)
def oSome (m : ME) : MO := fun α => (m α).bind fun x => (res x.2 x.1).bind fun a => match a with
  | .int i => some (some i, x.2)
  | _ => none
theorem ref_oNone : RefO K tNoPart oNone := ⟨fun p H σ α A l α' Q R e h => by cases e; exact h p H A R .refl⟩
theorem ref_oSome {t : TE} {m : ME} (he : RefE K t m) : RefO K (tPart t) (oSome m) := ⟨fun p H σ α A l α' Q R e h => by
  simp only [oSome, Option.bind_eq_some_iff] at e
  obtain ⟨⟨x, α1⟩, e1, a, e2, e3⟩ := e
  split at e3
  · cases e3
    refine he.go p H σ α A x α1 _ R e1 fun p1 H1 A1 v R1 S1 q => ?_
    cases vz_int (res_vz R1 q e2)
    exact ⟨_, rfl, h p1 H1 A1 R1 S1⟩
  · cases e3⟩
def cutD (xs : List Da) (lo hi : Option Int) : List Da := (xs.drop (HT.sIx xs.length 0 lo)).take (HT.sIx xs.length xs.length hi - HT.sIx xs.length 0 lo)
theorem cut_dz {vs : List V} {ds : List Da} {lo hi : Option Int} (h : DzA K p H vs ds) : DzA K p H (cutV vs lo hi) (cutD ds lo hi) := by
  unfold cutV cutD
  rw [h.length]
  exact (h.drop _).take _
theorem cutV_len {vs : List V} {lo hi : Option Int} : (cutV vs lo hi).length ≤ vs.length := by
  unfold cutV
  rw [List.length_take, List.length_drop]
  omega
def fSl (lo hi : Option Int) : Da → Option Da
  | .list xs => some (.list (cutD xs lo hi))
  | .tuple xs => some (.tuple (cutD xs lo hi))
  | .str z => if (cutS z lo hi).length ≤ SLIM then some (.str (cutS z lo hi)) else none
  | _ => none
def eSl (me : ME) (ml mh : MO) : ME := fun α => (me α).bind fun x => (ml x.2).bind fun l => (mh l.2).bind fun u => (res u.2 x.1).bind fun a => (fSl l.1 u.1 a).bind fun c => some (.d c, u.2)
theorem ref_sl {te : TE} {tl th : TO} {me : ME} {ml mh : MO} (he : RefE K te me) (hl : RefO K tl ml) (hh : RefO K th mh) : RefE K (tSl rSlU te tl th) (eSl me ml mh) := ⟨fun p H σ α A l α' Q R e h => by
  simp only [eSl, Option.bind_eq_some_iff] at e
  obtain ⟨⟨x, α1⟩, e1, ⟨lo, α2⟩, e2, ⟨hi, α3⟩, e3, a, e4, c, e5, e6⟩ := e
  cases e6
  refine he.go p H σ α A x α1 _ R e1 fun p1 H1 A1 v R1 S1 q1 => ?_
  refine hl.go p1 H1 σ α1 A1 lo α2 _ R1 e2 fun p2 H2 A2 R2 S2 => ?_
  refine hh.go p2 H2 σ α2 A2 hi α3 _ R2 e3 fun p3 H3 A3 R3 S3 => ?_
  have z := res_vz R3 ((q1.step R1 S2).step R2 S3) e4
  have S := (S1.trans R S2).trans R S3
  unfold fSl at e5
  split at e5
  · cases e5
    obtain ⟨a, vs, rfl, h1, h2, h3⟩ := vz_lst z
    refine .inr (.inl ⟨a, vs, rfl, h1, fun l hl => ?_⟩)
    have s := same_new (o := .lst (cutV vs lo hi)) hl
    exact h p3 _ A3 _ (R3.same s) (S.trans R (.same s)) (.lst (not_in_of_none R3 hl) upd_same (Nat.le_trans cutV_len h2) ((cut_dz h3).tr (tr_same s)))
  · cases e5
    obtain ⟨a, vs, rfl, h1, h2, h3⟩ := vz_tup z
    exact .inl ⟨a, vs, rfl, h1, fun u H' s hu => h p3 H' A3 _ (R3.same s) (S.trans R (.same s)) (dz_tup_new s hu (Nat.le_trans cutV_len h2) (cut_dz h3))⟩
  · split at e5
    · rename_i hz
      cases e5
      obtain ⟨rfl, hs⟩ := vz_str z
      exact .inr (.inr ⟨_, rfl, sline _ hs, h p3 H3 A3 _ R3 S (.str _ hz)⟩)
    · cases e5
  · cases e5⟩
def fLen : List Da → Option Da
  | [.list xs] => some (.int (xs.length : Nat))
  | [.tuple xs] => some (.int (xs.length : Nat))
  | [.str z] => some (.int (z.length : Nat))
  | _ => none
theorem rr_len : RefRA K rLenA fLen := by
  intro p H xs as c Q al ha e q
  unfold fLen at e
  split at e
  · cases e
    cases ha with
    | cons h r =>
      cases r
      obtain ⟨a, vs, rfl, h1, h2, h3⟩ := vz_lst h
      refine .inl ⟨a, vs, rfl, .inl h1, ?_⟩
      rw [h3.length]
      exact q _ H (Same.refl H) (.int _)
  · cases e
    cases ha with
    | cons h r =>
      cases r
      obtain ⟨a, vs, rfl, h1, h2, h3⟩ := vz_tup h
      refine .inl ⟨a, vs, rfl, .inr h1, ?_⟩
      rw [h3.length]
      exact q _ H (Same.refl H) (.int _)
  · cases e
    cases ha with
    | cons h r =>
      cases r
      obtain ⟨rfl, hz⟩ := vz_str h
      exact .inr ⟨_, rfl, sline _ hz, q _ H (Same.refl H) (.int _)⟩
  · cases e
def fTuple : List Da → Option Da
  | [.list xs] => some (.tuple xs)
  | [.tuple xs] => some (.tuple xs)
  | _ => none
theorem rr_tuple : RefRA K rTupA fTuple := by
  intro p H xs as c Q al ha e q
  unfold fTuple at e
  split at e
  · cases e
    cases ha with
    | cons h r =>
      cases r
      obtain ⟨a, vs, rfl, h1, h2, h3⟩ := vz_lst h
      exact ⟨a, vs, rfl, .inl h1, fun u H' s hu => q _ H' s (dz_tup_new s hu h2 h3)⟩
  · cases e
    cases ha with
    | cons h r =>
      cases r
      obtain ⟨a, vs, rfl, h1, h2, h3⟩ := vz_tup h
      exact ⟨a, vs, rfl, .inr h1, fun u H' s hu => q _ H' s (dz_tup_new s hu h2 h3)⟩
  · cases e
def signsD (z : Str) : List Da := z.cps.toList.map fun c => .str ⟨#[c]⟩
theorem signs_dz (z : Str) : DzA K p H (signsV z) (signsD z) := by
  unfold signsV signsD
  induction z.cps.toList with
  | nil => exact .nil
  | cons c r ih => exact .cons (.str _ (by show 1 ≤ SLIM; decide)) ih
def fList : List Da → Option (List Da)
  | [.list xs] => some xs
  | [.tuple xs] => some xs
  | [.str z] => if z.length ≤ 100000 then some (signsD z) else none
  | _ => none
def fListM (ma : MA) : MF := fun α => (ma α).bind fun x => (resA x.2 x.1).bind fun a => (fList a).bind fun c => some (.r (.list c), x.2)
theorem ref_fList {ta : TA} {ma : MA} (ha : RefA K ta ma) : RefF K (tCB rLstA ta) (fListM ma) := ⟨fun p H σ α A r α' Q R e h => by
  simp only [fListM, Option.bind_eq_some_iff] at e
  obtain ⟨⟨ls, α1⟩, e1, a, e2, c, e3, e4⟩ := e
  cases e4
  refine ha.go p H σ α A ls α1 _ R e1 fun p1 H1 A1 vs R1 S1 q1 => ?_
  have z := resA_vz R1 q1 e2
  have fin : ∀ (ys : List V) (l : Addr), ys.length ≤ LIM → DzA K p1 H1 ys c → H1 l = none → Q (.ref l) (L2.upd H1 l (.lst ys)) := fun ys l hy dy hl => by
    obtain ⟨R2, S2, nr⟩ := rel_new (o := .lst ys) R1 hl
    exact h _ _ A1 l [] R2 (S1.trans R S2) (fresh_one (List.mem_cons_self ..) (S1.dom l hl) nr) ⟨rfl, ys, upd_same, hy, dy.tr (tr_new hl (same_new hl))⟩
  unfold fList at e3
  split at e3
  · cases e3
    cases z with
    | cons h r =>
      cases r
      obtain ⟨a, vs, rfl, h1, h2, h3⟩ := vz_lst h
      exact .inl ⟨a, vs, rfl, .inl h1, fun l hl => fin vs l h2 h3 hl⟩
  · cases e3
    cases z with
    | cons h r =>
      cases r
      obtain ⟨a, vs, rfl, h1, h2, h3⟩ := vz_tup h
      exact .inl ⟨a, vs, rfl, .inr h1, fun l hl => fin vs l h2 h3 hl⟩
  · split at e3
    · rename_i hz
      cases e3
      cases z with
      | cons h r =>
        cases r
        obtain ⟨rfl, _⟩ := vz_str h
        refine .inr ⟨_, rfl, hz, fun l hl => fin _ l ?_ (signs_dz _) hl⟩
        unfold signsV
        rw [List.length_map]
        exact Nat.le_trans hz (by decide)
    · cases e3
  · cases e3⟩
def blsD : List Da → Option (List Bool)
  | [] => some []
  | .bool b :: r => (blsD r).bind fun s => some (b :: s)
  | _ :: _ => none
theorem bls_dz : ∀ {vs : List V} {ds : List Da} {bs : List Bool}, DzA K p H vs ds → blsD ds = some bs → vs = bs.map V.bl
  | _, _, _, .nil, e => by cases e; rfl
  | _, _, _, .cons (d := d) h r, e => by
    cases d with
    | bool b =>
      simp only [blsD, Option.bind_eq_some_iff] at e
      obtain ⟨s, e1, e2⟩ := e
      cases e2
      cases h
      rw [bls_dz r e1]
      rfl
    | _ => cases e
def fAll : List Da → Option Da
  | [.list xs] => (blsD xs).bind fun bs => some (.bool (bs.all id))
  | _ => none
theorem rr_all : RefRA K rAllH fAll := by
  intro p H xs as c Q al ha e q
  unfold fAll at e
  split at e
  · obtain ⟨bs, e1, e2⟩ := Option.bind_eq_some_iff.mp e
    cases e2
    cases ha with
    | cons h r =>
      cases r
      obtain ⟨a, vs, rfl, h1, h2, h3⟩ := vz_lst h
      cases bls_dz h3 e1
      exact ⟨a, bs, rfl, h1, q _ H (Same.refl H) (.bl _)⟩
  · cases e
end
end Vm
namespace Vm
open PySem PySem.Spec PyProof.Rows L2 Gk
def tOrE (t u : TE) : TE := fun σ H Q => t σ H Q ∨ u σ H Q
def tOrS (t u : TS) : TS := fun D σ H => t D σ H ∨ u D σ H
theorem pe_orE {X : Cx} {e : Expr} {t u : TE} (a : PE X e t) (b : PE X e u) : PE X e (tOrE t u) := ⟨fun pins s σ H Q I h => h.elim (a.run pins s σ H Q I) (b.run pins s σ H Q I)⟩
theorem ps_orS {X : Cx} {e : Stmt} {t u : TS} (a : PS X e t) (b : PS X e u) : PS X e (tOrS t u) := ⟨fun pins s σ H D I h => h.elim (a.run pins s σ H D I) (b.run pins s σ H D I)⟩
mutual
def toPy : Da → Option PyData
  | .none => some .none
  | .bool b => some (.bool b)
  | .int i => some (.int i)
  | .str s => some (.str s)
  | .list xs => (toPys xs).map .list
  | .tuple xs => (toPys xs).map .tuple
  | .dk _ => none
  | .dt _ => none
def toPys : List Da → Option (List PyData)
  | [] => some []
  | x :: xs => (toPy x).bind fun d => (toPys xs).bind fun ds => some (d :: ds)
end
section
variable {K : PySem.W.Frag} {p p' p2 : List Addr} {H H' H2 : Hp} {σ σ' σ2 : L2.St} {α α' α2 α0 : AS} {A A' A2 : FT}
mutual
theorem dz_dp : ∀ {v : V} {x : Da} {d : PyData}, Dz K p H v x → toPy x = some d → Dp K H v d
  | _, _, _, .non, e => by cases e; exact .non
  | _, _, _, .bl b, e => by cases e; exact .bl b
  | _, _, _, .int i, e => by cases e; exact .int i
  | _, _, _, .str x h, e => by cases e; exact .str x
  | _, _, _, .lst n r l h, e => by
    simp only [toPy, Option.map_eq_some_iff] at e
    obtain ⟨ds, e1, rfl⟩ := e
    exact .lst (.of r) (dzA_dp h e1)
  | _, _, _, .tup r l h, e => by
    simp only [toPy, Option.map_eq_some_iff] at e
    obtain ⟨ds, e1, rfl⟩ := e
    exact .tup (.of r) (dzA_dp h e1)
  | _, _, _, .dk _ _ _ _, e => by cases e
  | _, _, _, .dt _ _ _ _, e => by cases e
theorem dzA_dp : ∀ {vs : List V} {xs : List Da} {ds : List PyData}, DzA K p H vs xs → toPys xs = some ds → DpAll K H vs ds
  | _, _, _, .nil, e => by cases e; exact .nil
  | _, _, _, .cons h t, e => by
    simp only [toPys, Option.bind_eq_some_iff] at e
    obtain ⟨d, e1, ds, e2, e3⟩ := e
    cases e3
    exact .cons (dz_dp h e1) (dzA_dp t e2)
end
theorem vz_dp {v : V} {x : Da} {d : PyData} (h : Vz K p H v x) (e : toPy x = some d) : Dp K H v d := by
  cases h with
  | of h => exact dz_dp h e
  | top h =>
    cases x with
    | list xs =>
      obtain ⟨vs, h1, h2, h3⟩ := h
      simp only [toPy, Option.map_eq_some_iff] at e
      obtain ⟨ds, e1, rfl⟩ := e
      exact .lst (.of h1) (dzA_dp h3 e1)
    | dk xs => cases e
    | dt xs => cases e
    | _ => exact h.elim
theorem op_eqK {X : Cx} (hK : X.K = K) (hu : X.A.units + 64 < cLine) : OpR X (compareOp .Eq) (rOr rEq (rEqD K)) := by subst hK; exact opr_or op_eq (op_eqD hu)
theorem op_neK {X : Cx} (hK : X.K = K) (hu : X.A.units + 64 < cLine) : OpR X (compareOp .NotEq) (rOr rNe (rNeD K)) := by subst hK; exact opr_or op_ne (op_neD hu)
def rEmp (neg : Bool) : R2 := fun x y H Q => ∃ a b, x = .ref a ∧ y = .ref b ∧ H b = some (.dK []) ∧ ((∃ kvs, Rd H a (.dK kvs) ∧ Q (.bl (if neg = true then decide (kvs.length ≠ 0) else decide (kvs.length = 0))) H))
theorem op_neEmp {X : Cx} (hu : X.A.units + 1 < cLine) : OpR X (compareOp .NotEq) (rEmp true) := by
  intro pins s σ H x y v u Q I rx ry h
  obtain ⟨a, b, rfl, rfl, hb, kvs, ha, q⟩ := h
  cases (show v = Value.ref a from rx)
  cases (show u = Value.ref b from ry)
  obtain ⟨_, ya, va, ra, da⟩ := dk_rd I.hok ha
  obtain ⟨_, yb, vb, rb, db⟩ := dk_of I.hok hb
  have hl : va.length = kvs.length := ra.length.symm
  have hl0 : vb.length = 0 := rb.length.symm
  refine PySem.W.keq_ne (knd := mixKind X.prog X.w) (r := true) ya yb da db (by omega) (fun e => ?_) ⟨.bl _, H, I, ?_, q⟩
  · have : va = [] := List.length_eq_zero_iff.mp (by omega)
    subst this
    exact .nil
  · show Value.bool _ = Value.bool _
    rw [hl, hl0]
    by_cases z : kvs.length = 0
    · simp [z]
    · simp [z]
/-- two texts are compared whatever stands in them -/
def strs2 : Da → Da → Option Bool
  | .str x, .str y => some (x == y)
  | _, _ => none
def fEqP (a b : Da) : Option Bool := (strs2 a b).or ((toPy a).bind fun d => (toPy b).bind fun e => if SeqAt.shaped d = true ∧ SeqAt.shaped e = true then some (PyData.eqv d e) else none)
theorem strs2_some {a b : Da} {k : Bool} (e : strs2 a b = some k) : ∃ x y, a = .str x ∧ b = .str y ∧ k = (x == y) := by
  unfold strs2 at e
  split at e
  · cases e; exact ⟨_, _, rfl, rfl, rfl⟩
  · cases e
theorem eqP_some {a b : Da} {k : Bool} (e : fEqP a b = some k) : (∃ x y, a = .str x ∧ b = .str y ∧ k = (x == y)) ∨ ∃ d e, toPy a = some d ∧ toPy b = some e ∧ SeqAt.shaped d = true ∧ SeqAt.shaped e = true ∧ k = PyData.eqv d e := by
  unfold fEqP at e
  cases h : strs2 a b with
  | some j =>
    rw [h] at e
    cases e
    exact .inl (strs2_some h)
  | none =>
    rw [h, Option.none_or] at e
    simp only [Option.bind_eq_some_iff] at e
    obtain ⟨d, e1, f, e2, e3⟩ := e
    split at e3
    · rename_i h; cases e3; exact .inr ⟨d, f, e1, e2, h.1, h.2, rfl⟩
    · cases e3
/-- an empty dict that stands now as it was made: its own -/
theorem rr_eqP : ∀ p H x y a b k Q, Vz K p H x a → Vz K p H y b → fEqP a b = some k → Q (.bl k) H → rOr rEq (rEqD K) x y H Q := fun p H x y a b k Q va vb e q => by
  rcases eqP_some e with ⟨x, y, rfl, rfl, rfl⟩ | ⟨d, f, e1, e2, e3, e4, rfl⟩
  · obtain ⟨rfl, _⟩ := vz_str va
    obtain ⟨rfl, _⟩ := vz_str vb
    exact .inl ⟨rfl, by rw [dec_str]; exact q⟩
  · exact .inr ⟨d, f, vz_dp va e1, vz_dp vb e2, e3, e4, q⟩
theorem rr_neP : ∀ p H x y a b k Q, Vz K p H x a → Vz K p H y b → fEqP a b = some k → Q (.bl (!k)) H → rOr rNe (rNeD K) x y H Q := fun p H x y a b k Q va vb e q => by
  rcases eqP_some e with ⟨x, y, rfl, rfl, rfl⟩ | ⟨d, f, e1, e2, e3, e4, rfl⟩
  · obtain ⟨rfl, _⟩ := vz_str va
    obtain ⟨rfl, _⟩ := vz_str vb
    exact .inl ⟨rfl, by rw [dec_str]; exact q⟩
  · exact .inr ⟨d, f, vz_dp va e1, vz_dp vb e2, e3, e4, q⟩
def fEqS (a b : Da) : Option Da := (fEqP a b).map .bool
def fNeS (a b : Da) : Option Da := (fEqP a b).map fun k => .bool (!k)
theorem rr_eq : RefR2 K (rOr rEq (rEqD K)) fEqS := fun p H x y a b c Q al va vb e q => by
  obtain ⟨k, e1, rfl⟩ := Option.map_eq_some_iff.mp e
  exact rr_eqP p H x y a b k Q va vb e1 (q _ H (Same.refl H) (.bl k))
theorem rr_ne : RefR2 K (rOr rNe (rNeD K)) fNeS := fun p H x y a b c Q al va vb e q => by
  obtain ⟨k, e1, rfl⟩ := Option.map_eq_some_iff.mp e
  exact rr_neP p H x y a b k Q va vb e1 (q _ H (Same.refl H) (.bl _))
/-- e == {}, e != {} -/
def eEmp (neg : Bool) (ma : ME) : ME := fun α => (ma α).bind fun x => (res x.2 x.1).bind fun a => match a with
  | .dk kvs => some (.d (.bool (if neg = true then decide (kvs.length ≠ 0) else decide (kvs.length = 0))), x.2)
  | _ => none
theorem ref_emp {ta : TE} {ma : ME} {neg : Bool} (ha : RefE K ta ma) : RefE K (tOp (rEmp neg) ta tDNewK) (eEmp neg ma) := ⟨fun p H σ α A l α' Q R e h => by
  simp only [eEmp, Option.bind_eq_some_iff] at e
  obtain ⟨⟨l1, α1⟩, e1, a, e2, e3⟩ := e
  split at e3
  · rename_i kvs
    cases e3
    refine ha.go p H σ α A l1 α1 _ R e1 fun p1 H1 A1 v R1 S1 q => ?_
    intro b hb
    obtain ⟨a, xs, rfl, h1, h2, h3⟩ := vz_dk (res_vz R1 q e2)
    have s := same_new (o := .dK []) hb
    refine ⟨a, b, rfl, rfl, upd_same, xs, Rd.same (fun o e => s a o e) h1, ?_⟩
    rw [h3.length]
    exact h p1 _ A1 _ (R1.same s) (S1.trans R (.same s)) (.bl _)
  · cases e3⟩
def valA {κ τ : Type} [DecidableEq κ] (kvs : List (κ × τ)) (k : κ) : Option τ := (kvs.find? fun kv => decide (kv.1 = k)).map (·.2)
def lookD : Da → Da → Option (Option Da)
  | .dk kvs, x => (keyD x).bind fun k => some (valA kvs k)
  | .dt kvs, x => (keyT x).bind fun k => some (valA kvs k)
  | _, _ => none
theorem DzK.val (k : Key) : ∀ {xs : List (Key × V)} {ds : List (Key × Da)}, DzK K p H xs ds → (valA ds k = none ∧ valV xs k = none) ∨ ∃ v d, valA ds k = some d ∧ valV xs k = some v ∧ Dz K p H v d
  | _, _, .nil => .inl ⟨rfl, rfl⟩
  | _, _, .cons (k := j) h d t => by
    by_cases e : j = k
    · exact .inr ⟨_, _, by simp [valA, e], by rw [valV_pos (by exact e)], d⟩
    · rcases DzK.val k t with ⟨h1, h2⟩ | ⟨v, d', h1, h2, h3⟩
      · exact .inl ⟨by simpa [valA, List.find?_cons, e] using h1, by rw [valV_neg (by exact e)]; exact h2⟩
      · exact .inr ⟨v, d', by simpa [valA, List.find?_cons, e] using h1, by rw [valV_neg (by exact e)]; exact h2, h3⟩
theorem DzT.val (k : List Key) : ∀ {xs : List (List Key × V)} {ds : List (List Key × Da)}, DzT K p H xs ds → (valA ds k = none ∧ valV xs k = none) ∨ ∃ v d, valA ds k = some d ∧ valV xs k = some v ∧ Dz K p H v d
  | _, _, .nil => .inl ⟨rfl, rfl⟩
  | _, _, .cons (k := j) h d t => by
    by_cases e : j = k
    · exact .inr ⟨_, _, by simp [valA, e], by rw [valV_pos (by exact e)], d⟩
    · rcases DzT.val k t with ⟨h1, h2⟩ | ⟨v, d', h1, h2, h3⟩
      · exact .inl ⟨by simpa [valA, List.find?_cons, e] using h1, by rw [valV_neg (by exact e)]; exact h2⟩
      · exact .inr ⟨v, d', by simpa [valA, List.find?_cons, e] using h1, by rw [valV_neg (by exact e)]; exact h2, h3⟩
theorem vz_key {v : V} {x : Da} {k : Key} (h : Vz K p H v x) (e : keyD x = some k) : v = kV k ∧ KeyOk k := by
  cases x with
  | int i => cases e; exact ⟨vz_int h, trivial⟩
  | str s => cases e; exact ⟨(vz_str h).1, (vz_str h).2⟩
  | _ => cases e
theorem dzA_keys : ∀ {vs : List V} {xs : List Da} {ks : List Key}, DzA K p H vs xs → keysD xs = some ks → vs = ks.map kV ∧ (∀ k ∈ ks, KeyOk k) ∧ ks.length = xs.length
  | _, _, _, .nil, e => by cases e; exact ⟨rfl, fun k m => (List.not_mem_nil m).elim, rfl⟩
  | _, _, _, .cons h t, e => by
    simp only [keysD, Option.bind_eq_some_iff] at e
    obtain ⟨k, e1, ks, e2, e3⟩ := e
    cases e3
    obtain ⟨h1, h2⟩ := vz_key (.of h) e1
    obtain ⟨h3, h4, h5⟩ := dzA_keys t e2
    refine ⟨by rw [h1, h3]; rfl, fun j m => ?_, congrArg (· + 1) h5⟩
    rcases List.mem_cons.mp m with rfl | m
    · exact h2
    · exact h4 j m
theorem vz_keyT {v : V} {x : Da} {k : List Key} (h : Vz K p H v x) (e : keyT x = some k) : ∃ b, v = .ref b ∧ H b = some (.tup (k.map kV)) ∧ (∀ j ∈ k, KeyOk j) ∧ k.length ≤ LIM := by
  cases x with
  | tuple xs =>
    obtain ⟨a, vs, rfl, h1, h2, h3⟩ := vz_tup h
    obtain ⟨h4, h5, h6⟩ := dzA_keys h3 e
    subst h4
    exact ⟨a, rfl, h1, h5, by rw [h6, ← h3.length]; exact h2⟩
  | _ => cases e
theorem look_get {vd vk : V} {x k : Da} {r : Option Da} (hd : Vz K p H vd x) (hk : Vz K p H vk k) (e : lookD x k = some r) :
    ∃ a o, vd = .ref a ∧ DGet H a vk o ∧ IsD H a ∧ ((r = none ∧ o = none) ∨ ∃ v d, r = some d ∧ o = some v ∧ Dz K p H v d) := by
  cases x with
  | dk kvs =>
    simp only [lookD, Option.bind_eq_some_iff] at e
    obtain ⟨j, e1, e2⟩ := e
    cases e2
    obtain ⟨rfl, _⟩ := vz_key hk e1
    obtain ⟨a, xs, rfl, h1, h2, h3⟩ := vz_dk hd
    refine ⟨a, valV xs j, rfl, .inl ⟨xs, j, h1, rfl, rfl⟩, .inl ⟨_, h1⟩, ?_⟩
    rcases h3.val j with ⟨q1, q2⟩ | ⟨v, d, q1, q2, q3⟩
    · exact .inl ⟨q1, q2⟩
    · exact .inr ⟨v, d, q1, q2, q3⟩
  | dt kvs =>
    simp only [lookD, Option.bind_eq_some_iff] at e
    obtain ⟨j, e1, e2⟩ := e
    cases e2
    obtain ⟨b, rfl, hb, _, _⟩ := vz_keyT hk e1
    obtain ⟨a, xs, rfl, h1, h2, h3⟩ := vz_dt hd
    refine ⟨a, valV xs j, rfl, .inr ⟨xs, j, b, h1, rfl, hb, rfl⟩, .inr ⟨_, h1⟩, ?_⟩
    rcases h3.val j with ⟨q1, q2⟩ | ⟨v, d, q1, q2, q3⟩
    · exact .inl ⟨q1, q2⟩
    · exact .inr ⟨v, d, q1, q2, q3⟩
  | _ => cases e
def Da.isDict : Da → Bool
  | .dk _ => true
  | .dt _ => true
  | _ => false
/-- x[i], d[k] -/
def fSubs (a b : Da) : Option Da := if a.isDict = true then (lookD a b).bind id else fIx a b
theorem ref_sub {ta tb : TE} {ma mb : ME} (ha : RefE K ta ma) (hb : RefE K tb mb) : RefE K (tOrE (tOp rIxA ta tb) (tDGet ta tb)) (eOp fSubs ma mb) := ⟨fun p H σ α A l α' Q R e h => by
  have e0 := e
  simp only [eOp, Option.bind_eq_some_iff] at e
  obtain ⟨⟨l1, α1⟩, e1, ⟨l2, α2⟩, e2, a, e3, b, e4, c, e5, e6⟩ := e
  cases e6
  by_cases hd : a.isDict = true
  · right
    unfold fSubs at e5
    rw [if_pos hd] at e5
    obtain ⟨r, e7, e8⟩ := Option.bind_eq_some_iff.mp e5
    refine ha.go p H σ α A l1 α1 _ R e1 fun p1 H1 A1 v R1 S1 q1 => ?_
    refine hb.go p1 H1 σ α1 A1 l2 α2 _ R1 e2 fun p2 H2 A2 w R2 S2 q2 => ?_
    obtain ⟨ad, o, rfl, g, _, z⟩ := look_get (res_vz R2 (q1.step R1 S2) e3) (res_vz R2 q2 e4) e7
    rcases z with ⟨z, _⟩ | ⟨v, d, z1, z2, z3⟩
    · subst z; cases e8
    · subst z1
      cases e8
      subst z2
      exact ⟨ad, v, rfl, g, h p2 H2 A2 v R2 (S1.trans R S2) z3⟩
  · left
    refine (ref_op rr_ix ha hb).go p H σ α A _ α2 Q R ?_ h
    simp only [eOp, Option.bind_eq_some_iff]
    unfold fSubs at e5
    rw [if_neg hd] at e5
    exact ⟨⟨l1, α1⟩, e1, ⟨l2, α2⟩, e2, a, e3, b, e4, c, e5, rfl⟩⟩
def flatD : Da → Bool
  | .none => true
  | .bool _ => true
  | .int _ => true
  | .str _ => true
  | _ => false
def eqF : Da → Da → Bool
  | .none, .none => true
  | .bool a, .bool b => a == b
  | .bool a, .int b => (if a then 1 else 0) == b
  | .int a, .bool b => a == (if b then 1 else 0)
  | .int a, .int b => a == b
  | .str a, .str b => a == b
  | _, _ => false
def rInH (neg : Bool) : R2 := fun x y H Q => ∃ p xs, y = .ref p ∧ HasSeq H p xs ∧ flatV x = true ∧ xs.all flatV = true ∧ Q (.bl (if neg = true then !inV x xs else inV x xs)) H
theorem op_inH {X : Cx} : OpR X (compareOp .In) (rInH false) := opr_imp in_H fun x y H Q ⟨p, xs, h1, h2, h3, h4, h5⟩ => ⟨p, xs, h1, h2, h3, h4, h5⟩
theorem op_notInH {X : Cx} : OpR X (compareOp .NotIn) (rInH true) := opr_imp op_notIn_seq fun x y H Q ⟨p, xs, h1, h2, h3, h4, h5⟩ => ⟨p, xs, h1, h2.elim (fun z => .inl (.of z)) (fun z => .inr (.of z)), h3, h4, h5⟩
def rInS (neg : Bool) : R2 := fun x y H Q => ∃ (c : Nat) (z : Str), x = .str ⟨#[c]⟩ ∧ y = .str z ∧ Q (.bl (if neg = true then !decide (c ∈ z.cps.toList) else decide (c ∈ z.cps.toList))) H
theorem op_inSg {X : Cx} : OpR X (compareOp .In) (rInS false) := opr_imp op_in_sign fun x y H Q ⟨c, z, h1, h2, h3⟩ => ⟨c, z, h1, h2, h3⟩
theorem op_notInSg {X : Cx} : OpR X (compareOp .NotIn) (rInS true) := opr_imp op_notIn_sign fun x y H Q ⟨c, z, h1, h2, h3⟩ => ⟨c, z, h1, h2, h3⟩
def rInDl (neg : Bool) (K : PySem.W.Frag) : R2 := fun x y H Q => ∃ d ds, Dp K H x d ∧ Dp K H y (.list ds) ∧ SeqAt.shaped d = true ∧ SeqAt.shaped (.list ds) = true ∧ Q (.bl (if neg = true then !(ds.any fun z => PyData.eqv z d) else ds.any fun z => PyData.eqv z d)) H
theorem op_inDl {X : Cx} (hK : X.K = K) (hu : X.A.units + 65 < cLine) : OpR X (compareOp .In) (rInDl false K) := by subst hK; exact opr_imp (op_inD hu) fun x y H Q h => h
theorem op_notInDl {X : Cx} (hK : X.K = K) (hu : X.A.units + 65 < cLine) : OpR X (compareOp .NotIn) (rInDl true K) := by subst hK; exact opr_imp (op_notInD hu) fun x y H Q h => h
def rInA (neg : Bool) (K : PySem.W.Frag) : R2 := rOr (rInH neg) (rOr (rInS neg) (rInDl neg K))
theorem op_inA {X : Cx} (hK : X.K = K) (hu : X.A.units + 65 < cLine) : OpR X (compareOp .In) (rInA false K) := opr_or op_inH (opr_or op_inSg (op_inDl hK hu))
theorem op_notInA {X : Cx} (hK : X.K = K) (hu : X.A.units + 65 < cLine) : OpR X (compareOp .NotIn) (rInA true K) := opr_or op_notInH (opr_or op_notInSg (op_notInDl hK hu))
theorem flat_v {v : V} {x : Da} (h : Vz K p H v x) (f : flatD x = true) : flatV v = true ∧ ∀ {w : V} {y : Da}, Vz K p H w y → flatD y = true → eqV w v = eqF y x := by
  have nx : ∀ {w : V} {y : Da}, Vz K p H w y → flatD y = true → (w = .non ∧ y = .none) ∨ (∃ b, w = .bl b ∧ y = .bool b) ∨ (∃ i, w = .int i ∧ y = .int i) ∨ ∃ s, w = .str s ∧ y = .str s := fun {w y} h f => by
    cases y with
    | none => exact .inl ⟨vz_non h, rfl⟩
    | bool b => exact .inr (.inl ⟨b, vz_bl h, rfl⟩)
    | int i => exact .inr (.inr (.inl ⟨i, vz_int h, rfl⟩))
    | str s => exact .inr (.inr (.inr ⟨s, (vz_str h).1, rfl⟩))
    | _ => cases f
  refine ⟨?_, fun {w y} hw fw => ?_⟩
  · rcases nx h f with ⟨rfl, rfl⟩ | ⟨b, rfl, rfl⟩ | ⟨i, rfl, rfl⟩ | ⟨s, rfl, rfl⟩ <;> rfl
  · rcases nx h f with ⟨rfl, rfl⟩ | ⟨b, rfl, rfl⟩ | ⟨i, rfl, rfl⟩ | ⟨s, rfl, rfl⟩ <;> rcases nx hw fw with ⟨rfl, rfl⟩ | ⟨c, rfl, rfl⟩ | ⟨j, rfl, rfl⟩ | ⟨t, rfl, rfl⟩ <;> rfl
theorem flat_all {v : V} {x : Da} (h : Vz K p H v x) (f : flatD x = true) : ∀ {vs : List V} {xs : List Da}, DzA K p H vs xs → xs.all flatD = true → vs.all flatV = true ∧ inV v vs = xs.any fun y => eqF y x
  | _, _, .nil, _ => ⟨rfl, rfl⟩
  | _, _, .cons h1 t, fa => by
    rw [List.all_cons, Bool.and_eq_true] at fa
    obtain ⟨a, b⟩ := flat_all h f t fa.2
    refine ⟨by rw [List.all_cons, (flat_v (.of h1) fa.1).1, a]; rfl, ?_⟩
    show List.any _ _ = _
    rw [List.any_cons, List.any_cons, (flat_v h f).2 (.of h1) fa.1]
    exact congrArg _ b
def itemsD : Da → Option (List Da)
  | .list xs => some xs
  | .tuple xs => some xs
  | _ => none
def fInB (x : Da) : Da → Option Bool
  | .str z => match x with
    | .str ⟨⟨[c]⟩⟩ => some (decide (c ∈ z.cps.toList))
    | _ => none
  | .tuple xs => if flatD x = true ∧ xs.all flatD = true then some (xs.any fun y => eqF y x) else none
  | .list xs => if flatD x = true ∧ xs.all flatD = true then some (xs.any fun y => eqF y x) else
      (toPy x).bind fun d => (toPys xs).bind fun ds => if SeqAt.shaped d = true ∧ SeqAt.shaped (.list ds) = true then some (ds.any fun z => PyData.eqv z d) else none
  | y => (lookD y x).bind fun r => some r.isSome
def fIn (neg : Bool) (x y : Da) : Option Da := (fInB x y).map fun k => .bool (if neg = true then !k else k)
theorem ref_in_ {neg : Bool} {ta tb : TE} {ma mb : ME} {td : TE} (hd : td = if neg = true then tDNotIn ta tb else tDIn ta tb) (ha : RefE K ta ma) (hb : RefE K tb mb) : RefE K (tOrE (tOp (rInA neg K) ta tb) td) (eOp (fIn neg) ma mb) := ⟨fun p H σ α A l α' Q R e h => by
  simp only [eOp, Option.bind_eq_some_iff] at e
  obtain ⟨⟨l1, α1⟩, e1, ⟨l2, α2⟩, e2, a, e3, b, e4, c, e5, e6⟩ := e
  cases e6
  obtain ⟨k, e7, rfl⟩ := Option.map_eq_some_iff.mp e5
  have seq : (∀ p2 H2 A2 v w, Rel K p2 H2 σ α2 A2 → Vz K p2 H2 v a → Vz K p2 H2 w b → Q (.bl (if neg = true then !k else k)) H2 → rInA neg K v w H2 Q) → tOrE (tOp (rInA neg K) ta tb) td σ H Q := fun f => by
    left
    refine ha.go p H σ α A l1 α1 _ R e1 fun p1 H1 A1 v R1 S1 q1 => ?_
    refine hb.go p1 H1 σ α1 A1 l2 α2 _ R1 e2 fun p2 H2 A2 w R2 S2 q2 => ?_
    exact f p2 H2 A2 v w R2 (res_vz R2 (q1.step R1 S2) e3) (res_vz R2 q2 e4) (h p2 H2 A2 _ R2 (S1.trans R S2) (.bl _))
  have dic : ∀ r, lookD b a = some r → k = r.isSome → tOrE (tOp (rInA neg K) ta tb) td σ H Q := fun r el ek => by
    right
    subst hd
    cases neg with
    | true =>
      refine ha.go p H σ α A l1 α1 _ R e1 fun p1 H1 A1 v R1 S1 q1 => ?_
      refine hb.go p1 H1 σ α1 A1 l2 α2 _ R1 e2 fun p2 H2 A2 w R2 S2 q2 => ?_
      obtain ⟨ad, o, rfl, g, _, z⟩ := look_get (res_vz R2 q2 e4) (res_vz R2 (q1.step R1 S2) e3) el
      have ek' : o.isSome = k := by rcases z with ⟨rfl, rfl⟩ | ⟨v, d, rfl, rfl, _⟩ <;> exact ek.symm
      refine ⟨ad, o, rfl, g, ?_⟩
      rw [ek']
      exact h p2 H2 A2 _ R2 (S1.trans R S2) (.bl _)
    | false =>
      refine ha.go p H σ α A l1 α1 _ R e1 fun p1 H1 A1 v R1 S1 q1 => ?_
      refine hb.go p1 H1 σ α1 A1 l2 α2 _ R1 e2 fun p2 H2 A2 w R2 S2 q2 => ?_
      obtain ⟨ad, o, rfl, g, _, z⟩ := look_get (res_vz R2 q2 e4) (res_vz R2 (q1.step R1 S2) e3) el
      have ek' : o.isSome = k := by rcases z with ⟨rfl, rfl⟩ | ⟨v, d, rfl, rfl, _⟩ <;> exact ek.symm
      refine ⟨ad, o, rfl, g, ?_⟩
      rw [ek']
      exact h p2 H2 A2 _ R2 (S1.trans R S2) (.bl _)
  cases b with
  | str z =>
    simp only [fInB] at e7
    split at e7
    · cases e7
      exact seq fun p2 H2 A2 v w R2 hv hw q => .inr (.inl ⟨_, z, (vz_str hv).1, (vz_str hw).1, q⟩)
    · cases e7
  | tuple xs =>
    simp only [fInB] at e7
    split at e7
    · rename_i hf
      cases e7
      refine seq fun p2 H2 A2 v w R2 hv hw q => ?_
      obtain ⟨ad, vs, rfl, h1, h2, h3⟩ := vz_tup hw
      obtain ⟨f1, f2⟩ := flat_all hv hf.1 h3 hf.2
      exact .inl ⟨ad, vs, rfl, .inr h1, (flat_v hv hf.1).1, f1, by rw [f2]; exact q⟩
    · cases e7
  | list xs =>
    simp only [fInB] at e7
    split at e7
    · rename_i hf
      cases e7
      refine seq fun p2 H2 A2 v w R2 hv hw q => ?_
      obtain ⟨ad, vs, rfl, h1, h2, h3⟩ := vz_lst hw
      obtain ⟨f1, f2⟩ := flat_all hv hf.1 h3 hf.2
      exact .inl ⟨ad, vs, rfl, .inl h1, (flat_v hv hf.1).1, f1, by rw [f2]; exact q⟩
    · simp only [Option.bind_eq_some_iff] at e7
      obtain ⟨d, f1, ds, f2, f3⟩ := e7
      split at f3
      · rename_i hs
        cases f3
        refine seq fun p2 H2 A2 v w R2 hv hw q => .inr (.inr ⟨d, ds, vz_dp hv f1, vz_dp hw ?_, hs.1, hs.2, q⟩)
        simp only [toPy, f2, Option.map_some]
      · cases f3
  | dk kvs =>
    simp only [fInB, Option.bind_eq_some_iff] at e7
    obtain ⟨r, f1, f2⟩ := e7
    cases f2
    exact dic r f1 rfl
  | dt kvs =>
    simp only [fInB, Option.bind_eq_some_iff] at e7
    obtain ⟨r, f1, f2⟩ := e7
    cases f2
    exact dic r f1 rfl
  | _ => simp [fInB, lookD] at e7⟩
end
end Vm
namespace Vm
open PySem PySem.Spec PyProof.Rows L2 Gk
section
variable {prog : Program} {w : World} {κ : Type} [DecidableEq κ] {knd : HeapKind prog w κ} {A : Around} {E : Value → Shared → Prop} {s : Shared}
theorem truthy_dictH {d : Addr} {es : List (κ × Addr × Value)} {Q : Bool → Shared → Prop} (plain : (d == sysModules) = false) (at_ : s.heap.DictOfH knd d es) (few : (es.length : Int) < 2 ^ 63)
    (fin : Q (!es.isEmpty) { s with toks := s.toks + 1 + 1 }) : wpAny (model prog w) A (truthy (.ref d)) Q E s := by
  have yes : ((es.length : Int) != 0) = !es.isEmpty := by
    cases es with
    | nil => rfl
    | cons _ _ => simp; omega
  have body : wpAny (model prog w) A (runValue (.builtin "len" ⟨[.ref d], []⟩)) (fun n s1 => n = .int es.length (s.toks + 1) ∧ Q (!es.isEmpty) s1) E s := by
    apply wpAny_runValue
    apply codeAny_builtin entry_len
    rw [Around.under_plainId plain_len _]
    apply wpAny_mono (wpAny_len_body_dictH (Q := fun n s1 => n = .int es.length (s.toks + 1) ∧ Q (!es.isEmpty) s1) plain at_ few ⟨rfl, fin⟩)
    · rintro _ s1 ⟨n, rfl, q⟩
      exact q
    · exact fun _ _ q => q
  unfold truthy
  first
    | refine wpAny_bind (wpAny_callSpecial?_none (name := Str.ofString "__bool__") at_.typeIs noBool_dict (wpAny_bind (wpAny_specialOf (name := Str.ofString "__len__") at_.typeIs F.slot_dict_len.lookup ?_)))
    | refine wpAny_bind (wpAny_pure (wpAny_bind (wpAny_callSpecial?_none (name := Str.ofString "__bool__") at_.typeIs noBool_dict (wpAny_bind (wpAny_specialOf (name := Str.ofString "__len__") at_.typeIs F.slot_dict_len.lookup ?_)))))
    | refine wpAny_bind (wpAny_callSpecial?_none (name := Str.ofString "__bool__") at_.typeIs noBool_dict (wpAny_bind (wpAny_pure (wpAny_bind (wpAny_specialOf (name := Str.ofString "__len__") at_.typeIs F.slot_dict_len.lookup ?_)))))
    | refine wpAny_bind (wpAny_pure (wpAny_bind (wpAny_callSpecial?_none (name := Str.ofString "__bool__") at_.typeIs noBool_dict (wpAny_bind (wpAny_pure (wpAny_bind (wpAny_specialOf (name := Str.ofString "__len__") at_.typeIs F.slot_dict_len.lookup ?_)))))))
  first
    | exact wpAny_bind (thn body fun n s1 q => by obtain ⟨rfl, q⟩ := q; exact wpAny_pure (yes ▸ q))
    | exact wpAny_bind (wpAny_pure (wpAny_bind (thn body fun n s1 q => by obtain ⟨rfl, q⟩ := q; exact wpAny_pure (yes ▸ q))))
end
section
variable {K : PySem.W.Frag} {p p' p2 : List Addr} {H H' H2 : Hp} {σ σ' σ2 : L2.St} {α α' α2 α0 : AS} {A A' A2 : FT}
def truD : Da → Bool
  | .none => false
  | .bool b => b
  | .int i => i != 0
  | .str s => (s.length : Int) != 0
  | .list xs => !xs.isEmpty
  | .tuple xs => !xs.isEmpty
  | .dk xs => !xs.isEmpty
  | .dt xs => !xs.isEmpty
def rTru (x : V) (H : Hp) (Q : Bool → Hp → Prop) : Prop :=
  match x with
  | .non => Q false H
  | .bl b => Q b H
  | .int i => Q (i != 0) H
  | .str y => y.length ≤ sizeLine ∧ Q ((y.length : Int) != 0) H
  | .ref p => (∃ xs, HasSeq H p xs ∧ Q (!xs.isEmpty) H) ∨ (∃ kvs, Rd H p (.dK kvs) ∧ Q (!kvs.isEmpty) H) ∨ ∃ kvs, Rd H p (.dT kvs) ∧ Q (!kvs.isEmpty) H
  | _ => False
theorem empty_of {τ υ : Type} {xs : List τ} {ys : List υ} (h : xs.length = ys.length) : (!xs.isEmpty) = !ys.isEmpty := by
  cases xs <;> cases ys <;> first | rfl | cases h
theorem tru_any {X : Cx} : TruR X rTru := by
  intro pins s σ H x v Q I rx h
  have seq : ∀ k, TruV X.K x H k → Q k H → wpAny (model X.prog X.w) X.A (truthy v) (TP X pins σ Q) X.xe s := fun k t q => tru_ok pins s σ H x v Q I rx ⟨k, t, q⟩
  cases x with
  | non => exact seq false rfl h
  | bl b => exact seq b rfl h
  | int i => exact seq _ rfl h
  | str y => exact seq _ ⟨h.1, rfl⟩ h.2
  | ref a =>
    cases (show v = Value.ref a from rx)
    have hs0 : sizeLine = 16777216 := sizeLine_eq
    rcases h with ⟨xs, hs, q⟩ | ⟨kvs, hd, q⟩ | ⟨kvs, hd, q⟩
    · rcases hs with hs | hs
      · exact seq _ (.inl ⟨xs, .of hs, rfl⟩) q
      · exact seq _ (.inr (.inl ⟨xs, .of hs, rfl⟩)) q
    · obtain ⟨hz, hS, vs, r, m⟩ := dk_rd I.hok hd
      have hlen : kvs.length = vs.length := Paired.length r
      exact wpAny_truthy_dict hS m (by omega) ⟨H, I.tok _, by rw [isEmpty_kv r]; exact q⟩
    · obtain ⟨hz, hS, vs, r, m⟩ := dt_rd I.hok hd
      have hlen : kvs.length = vs.length := Paired.length r
      exact truthy_dictH hS m (by omega) ⟨H, I.tok _, by rw [empty_of hlen.symm]; exact q⟩
  | _ => exact h.elim
def tTru (t : TE) : TT := fun σ H Q => t σ H fun x H' => rTru x H' Q
theorem pt_tru {X : Cx} {a : Expr} {ta : TE} (ha : PE X a ta) (he : ∀ whole, isTrue a X.env whole = (do let v ← whole; standAt a.pos; holding [v] (truthy v)) := by intro _; rfl) : PT X a (tTru ta) := pt_truthR ha tru_any he
theorem rtru_of {v : V} {x : Da} {Q : Bool → Hp → Prop} (h : Vz K p H v x) (q : Q (truD x) H) : rTru v H Q := by
  cases x with
  | none => cases vz_non h; exact q
  | bool b => cases vz_bl h; exact q
  | int i => cases vz_int h; exact q
  | str s => obtain ⟨rfl, hl⟩ := vz_str h; exact ⟨sline _ hl, q⟩
  | list xs => obtain ⟨a, vs, rfl, h1, h2, h3⟩ := vz_lst h; exact .inl ⟨vs, .inl h1, by rw [empty_of h3.length]; exact q⟩
  | tuple xs => obtain ⟨a, vs, rfl, h1, h2, h3⟩ := vz_tup h; exact .inl ⟨vs, .inr h1, by rw [empty_of h3.length]; exact q⟩
  | dk xs => obtain ⟨a, vs, rfl, h1, h2, h3⟩ := vz_dk h; exact .inr (.inl ⟨vs, h1, by rw [empty_of h3.length]; exact q⟩)
  | dt xs => obtain ⟨a, vs, rfl, h1, h2, h3⟩ := vz_dt h; exact .inr (.inr ⟨vs, h1, by rw [empty_of h3.length]; exact q⟩)
def mTru (ma : ME) : MT := fun α => (ma α).bind fun x => (res x.2 x.1).bind fun a => some (truD a, x.2)
theorem ref_tru {ta : TE} {ma : ME} (ha : RefE K ta ma) : RefT K (tTru ta) (mTru ma) := ⟨fun p H σ α A b α' Q R e h => by
  simp only [mTru, Option.bind_eq_some_iff] at e
  obtain ⟨⟨l, α1⟩, e1, a, e2, e3⟩ := e
  cases e3
  refine ha.go p H σ α A l α1 _ R e1 fun p1 H1 A1 v R1 S1 q => ?_
  exact rtru_of (res_vz R1 q e2) (h p1 H1 A1 R1 S1)⟩
def tyN : Da → Option String
  | .none => some "NoneType"
  | .bool _ => some "bool"
  | .int _ => some "int"
  | .str _ => some "str"
  | .list _ => some "list"
  | .tuple _ => some "tuple"
  | .dk _ => some "dict"
  | .dt _ => none
def isiB (T t : String) : Option Bool := kitB t T
def rAbs : List V → Hp → VK → Prop := fun xs H Q => ∃ i, xs = [.int i] ∧ Q (.int (if i < 0 then -i else i)) H
def rMax : List V → Hp → VK → Prop := fun xs H Q => ∃ i j, xs = [.int i, .int j] ∧ Q (.int (if j > i then j else i)) H
def rMin : List V → Hp → VK → Prop := fun xs H Q => ∃ i j, xs = [.int i, .int j] ∧ Q (.int (if j < i then j else i)) H
def rInt1 : List V → Hp → VK → Prop := fun xs H Q => (∃ i, xs = [.int i] ∧ Q (.int i) H) ∨ ∃ k, xs = [.bl k] ∧ Q (.int (if k then 1 else 0)) H
theorem cr_abs {X : Cx} : CallR X (.builtin "abs") rAbs := call_abs
theorem cr_max {X : Cx} (hc : X.calm = true) : CallR X (.builtin "max") rMax := call_max2 hc
theorem cr_min {X : Cx} (hc : X.calm = true) : CallR X (.builtin "min") rMin := call_min2 hc
theorem cr_int {X : Cx} : CallR X (.type "int") rInt1 := call_int1
def fAbs : List Da → Option Da
  | [.int i] => some (.int (if i < 0 then -i else i))
  | _ => none
def fMax : List Da → Option Da
  | [.int i, .int j] => some (.int (if j > i then j else i))
  | _ => none
def fMin : List Da → Option Da
  | [.int i, .int j] => some (.int (if j < i then j else i))
  | _ => none
def fInt : List Da → Option Da
  | [.int i] => some (.int i)
  | [.bool k] => some (.int (if k then 1 else 0))
  | _ => none
theorem vz1 {xs : List V} {a : Da} (h : VzA K p H xs [a]) : ∃ v, xs = [v] ∧ Vz K p H v a := by
  cases h with
  | cons h t => cases t; exact ⟨_, rfl, h⟩
theorem vz2 {xs : List V} {a b : Da} (h : VzA K p H xs [a, b]) : ∃ v w, xs = [v, w] ∧ Vz K p H v a ∧ Vz K p H w b := by
  cases h with
  | cons h t =>
    obtain ⟨w, rfl, hw⟩ := vz1 t
    exact ⟨_, w, rfl, h, hw⟩
theorem rr_abs : RefRA K rAbs fAbs := fun p H xs as c Q al va e q => by
  unfold fAbs at e
  split at e
  · cases e
    obtain ⟨v, rfl, h⟩ := vz1 va
    cases vz_int h
    exact ⟨_, rfl, q _ H (Same.refl H) (.int _)⟩
  · cases e
theorem rr_max : RefRA K rMax fMax := fun p H xs as c Q al va e q => by
  unfold fMax at e
  split at e
  · cases e
    obtain ⟨v, w, rfl, h, h'⟩ := vz2 va
    cases vz_int h
    cases vz_int h'
    exact ⟨_, _, rfl, q _ H (Same.refl H) (.int _)⟩
  · cases e
theorem rr_min : RefRA K rMin fMin := fun p H xs as c Q al va e q => by
  unfold fMin at e
  split at e
  · cases e
    obtain ⟨v, w, rfl, h, h'⟩ := vz2 va
    cases vz_int h
    cases vz_int h'
    exact ⟨_, _, rfl, q _ H (Same.refl H) (.int _)⟩
  · cases e
theorem rr_int : RefRA K rInt1 fInt := fun p H xs as c Q al va e q => by
  unfold fInt at e
  split at e
  · cases e
    obtain ⟨v, rfl, h⟩ := vz1 va
    cases vz_int h
    exact .inl ⟨_, rfl, q _ H (Same.refl H) (.int _)⟩
  · cases e
    obtain ⟨v, rfl, h⟩ := vz1 va
    cases vz_bl h
    exact .inr ⟨_, rfl, q _ H (Same.refl H) (.int _)⟩
  · cases e
def rLenB : List V → Hp → VK → Prop := fun xs H Q => rLenA xs H Q ∨ (∃ p kvs, xs = [.ref p] ∧ Rd H p (.dK kvs) ∧ Q (.int ((kvs.length : Nat) : Int)) H) ∨ ∃ p kvs, xs = [.ref p] ∧ Rd H p (.dT kvs) ∧ Q (.int ((kvs.length : Nat) : Int)) H
theorem len_all {X : Cx} : CallR X (.builtin "len") rLenB := by
  intro pins s σ H xs us Q I r h
  have hs0 : sizeLine = 16777216 := sizeLine_eq
  rcases h with h | ⟨a, kvs, rfl, hd, q⟩ | ⟨a, kvs, rfl, hd, q⟩
  · exact len_any pins s σ H xs us Q I r h
  · obtain ⟨u, rfl, rx⟩ := vals1 r
    obtain rfl : u = .ref a := rx
    obtain ⟨z, hd, ys, rel, dd⟩ := dk_rd I.hok hd
    have hl : kvs.length = ys.length := Paired.length rel
    refine call_len_dict hd dd (by omega) ?_
    rw [← hl]
    exact ⟨.int ((kvs.length : Nat) : Int), H, I.tok _, ⟨_, rfl⟩, q⟩
  · obtain ⟨u, rfl, rx⟩ := vals1 r
    obtain rfl : u = .ref a := rx
    obtain ⟨z, hd, ys, rel, dd⟩ := dt_rd I.hok hd
    have hl : kvs.length = ys.length := Paired.length rel
    refine call_len_dictH hd dd (by omega) ?_
    rw [← hl]
    exact ⟨.int ((kvs.length : Nat) : Int), H, I.tok _, ⟨_, rfl⟩, q⟩
def fLenB : List Da → Option Da
  | [.dk xs] => some (.int ((xs.length : Nat) : Int))
  | [.dt xs] => some (.int ((xs.length : Nat) : Int))
  | as => fLen as
theorem rr_lenB : RefRA K rLenB fLenB := fun p H xs as c Q al va e q => by
  unfold fLenB at e
  split at e
  · cases e
    obtain ⟨v, rfl, h⟩ := vz1 va
    obtain ⟨a, vs, rfl, h1, h2, h3⟩ := vz_dk h
    refine .inr (.inl ⟨a, vs, rfl, h1, ?_⟩)
    rw [h3.length]
    exact q _ H (Same.refl H) (.int _)
  · cases e
    obtain ⟨v, rfl, h⟩ := vz1 va
    obtain ⟨a, vs, rfl, h1, h2, h3⟩ := vz_dt h
    refine .inr (.inr ⟨a, vs, rfl, h1, ?_⟩)
    rw [h3.length]
    exact q _ H (Same.refl H) (.int _)
  · exact .inl (rr_len p H xs _ c Q al va e q)
instance (a b : Int) : Decidable (RgOk a b) := by unfold RgOk; infer_instance
def strsD : List Da → Option (List Str)
  | [] => some []
  | .str s :: r => (strsD r).bind fun ss => some (s :: ss)
  | _ => none
theorem strs_dz : ∀ {vs : List V} {xs : List Da} {ss : List Str}, DzA K p H vs xs → strsD xs = some ss → vs = ss.map V.str
  | _, _, _, .nil, e => by cases e; rfl
  | _, _, _, .cons (d := d) h t, e => by
    cases d with
    | str s =>
      simp only [strsD, Option.bind_eq_some_iff] at e
      obtain ⟨ss, e1, e2⟩ := e
      cases e2
      rw [(vz_str (.of h)).1, strs_dz t e1]
      rfl
    | _ => cases e
def fJoin (a b : Da) : Option Da := match a with
  | .str a => (itemsD b).bind fun xs => (strsD xs).bind fun ys => if (ys.map (·.length)).sum + ys.length * a.length ≤ SLIM ∧ (Txt.join a ys).length ≤ SLIM then some (.str (Txt.join a ys)) else none
  | _ => none
def rJoin : V → List V → Hp → VK → Prop := fun x xs H Q => ∃ a p, ∃ ys : List Str, x = .str a ∧ xs = [.ref p] ∧ HasSeq H p (ys.map V.str) ∧ (ys.map (·.length)).sum + ys.length * a.length ≤ 16777216 ∧ Q (.str (Txt.join a ys)) H
theorem pe_joinH {X : Cx} {o e : Expr} {to te : TE} {apos pos : Pos} (ho : PE X o to) (he : PE X e te) (hs : starEach [e] X.env = [(false, eval e X.env)] := by rfl) (hbase : attributeBase o "join" X.env (eval o X.env) = eval o X.env := by rfl) (hline : (apos.endLine == pos.line) = true := by rfl) :
    PE X (.Call (.Attribute o "join" apos) [e] [] pos) (tM1 rJoin to te) :=
  pe_m1 F.slot_str_join F.type_str_join (fun pins s σ H x xs v us Q I rx rs ⟨a, q, ys, h1, h2, h3, h4, h5⟩ => mt_join pins s σ H x xs v us Q I rx rs ⟨a, q, ys, h1, h2, h3.elim (fun z => .inl (.of z)) (fun z => .inr (.of z)), h4, h5⟩) ho he hs hbase hline
def eJoin (ma mb : ME) : ME := fun α => (ma α).bind fun x => (res x.2 x.1).bind fun a0 => match a0 with
  | .str a => (mb x.2).bind fun y => (res y.2 y.1).bind fun b => (fJoin (.str a) b).bind fun c => some (.d c, y.2)
  | _ => none
theorem ref_join {ta tb : TE} {ma mb : ME} (ha : RefE K ta ma) (hb : RefE K tb mb) : RefE K (tM1 rJoin ta tb) (eJoin ma mb) := ⟨fun p H σ α A l α' Q R e h => by
  simp only [eJoin, Option.bind_eq_some_iff] at e
  obtain ⟨⟨l1, α1⟩, e1, a0, e0, e⟩ := e
  split at e
  · rename_i a
    simp only [Option.bind_eq_some_iff] at e
    obtain ⟨⟨l2, α2⟩, e2, b, e3, c, e4, e5⟩ := e
    cases e5
    refine ha.go p H σ α A l1 α1 _ R e1 fun p1 H1 A1 v R1 S1 q1 => ?_
    obtain ⟨rfl, _⟩ := vz_str (res_vz R1 q1 e0)
    refine ⟨⟨a, rfl⟩, ?_⟩
    refine hb.go p1 H1 σ α1 A1 l2 α2 _ R1 e2 fun p2 H2 A2 w R2 S2 q2 => ?_
    have z := res_vz R2 q2 e3
    simp only [fJoin, Option.bind_eq_some_iff] at e4
    obtain ⟨xs, f1, ys, f2, f3⟩ := e4
    split at f3
    · rename_i hl
      cases f3
      have fin : ∀ ad vs, DzA K p2 H2 vs xs → HasSeq H2 ad vs → rJoin (.str a) [.ref ad] H2 Q := fun ad vs dz hs => by
        refine ⟨a, ad, ys, rfl, rfl, by rw [← strs_dz dz f2]; exact hs, Nat.le_trans hl.1 (by decide), ?_⟩
        exact h p2 H2 A2 _ R2 (S1.trans R S2) (.str _ hl.2)
      cases b with
      | list ys' => cases f1; obtain ⟨ad, vs, rfl, h1, h2, h3⟩ := vz_lst z; exact fin ad vs h3 (.inl h1)
      | tuple ys' => cases f1; obtain ⟨ad, vs, rfl, h1, h2, h3⟩ := vz_tup z; exact fin ad vs h3 (.inr h1)
      | _ => cases f1
    · cases f3
  · cases e⟩
mutual
def toPyR : Da → Option PyData
  | .none => some .none
  | .bool b => some (.bool b)
  | .int i => some (.int i)
  | .str s => if s.length ≤ 100000 then some (.str s) else none
  | .list xs => if xs.length ≤ 100000 then (toPysR xs).map .list else none
  | .tuple xs => if xs.length ≤ 100000 then (toPysR xs).map .tuple else none
  | _ => none
def toPysR : List Da → Option (List PyData)
  | [] => some []
  | x :: xs => (toPyR x).bind fun d => (toPysR xs).bind fun ds => some (d :: ds)
end
mutual
theorem dz_dx : ∀ {v : V} {x : Da} {d : PyData}, Dz K p H v x → toPyR x = some d → Dx [] H v d
  | _, _, _, .non, e => by cases e; exact .non
  | _, _, _, .bl b, e => by cases e; exact .bl b
  | _, _, _, .int i, e => by cases e; exact .int i
  | _, _, _, .str x h, e => by
    simp only [toPyR] at e
    split at e
    · cases e; exact .str x (by assumption)
    · cases e
  | _, _, _, .lst n r l h, e => by
    simp only [toPyR] at e
    split at e
    · rename_i hl
      simp only [Option.map_eq_some_iff] at e
      obtain ⟨ds, e1, rfl⟩ := e
      exact .lst r (List.not_mem_nil) (by rw [h.length]; exact hl) (dzA_dx h e1)
    · cases e
  | _, _, _, .tup r l h, e => by
    simp only [toPyR] at e
    split at e
    · rename_i hl
      simp only [Option.map_eq_some_iff] at e
      obtain ⟨ds, e1, rfl⟩ := e
      exact .tup r (by rw [h.length]; exact hl) (dzA_dx h e1)
    · cases e
  | _, _, _, .dk _ _ _ _, e => by cases e
  | _, _, _, .dt _ _ _ _, e => by cases e
theorem dzA_dx : ∀ {vs : List V} {xs : List Da} {ds : List PyData}, DzA K p H vs xs → toPysR xs = some ds → DxA [] H vs ds
  | _, _, _, .nil, e => by cases e; exact .nil
  | _, _, _, .cons h t, e => by
    simp only [toPysR, Option.bind_eq_some_iff] at e
    obtain ⟨d, e1, ds, e2, e3⟩ := e
    cases e3
    exact .cons (dz_dx h e1) (dzA_dx t e2)
end
theorem vz_dx {v : V} {x : Da} {d : PyData} (h : Vz K p H v x) (e : toPyR x = some d) : Dx [] H v d := by
  cases h with
  | of h => exact dz_dx h e
  | top h =>
    cases x with
    | list ys =>
      obtain ⟨vs, h1, h2, h3⟩ := h
      simp only [toPyR] at e
      split at e
      · rename_i hl
        simp only [Option.map_eq_some_iff] at e
        obtain ⟨ds, e1, rfl⟩ := e
        exact .lst h1 List.not_mem_nil (by rw [h3.length]; exact hl) (dzA_dx h3 e1)
      · cases e
    | dk ys => cases e
    | dt ys => cases e
    | _ => exact h.elim
open Classical in
noncomputable def fRepr : List Da → Option Da
  | [x] => (toPyR x).bind fun d => if Shows d then some (.str d.shown) else none
  | _ => none
theorem rr_repr : RefRA K (rRepr []) fRepr := fun p H xs as c Q al va e q => by
  unfold fRepr at e
  split at e
  · simp only [Option.bind_eq_some_iff] at e
    obtain ⟨d, e1, e2⟩ := e
    split at e2
    · rename_i hs
      cases e2
      obtain ⟨v, rfl, h⟩ := vz1 va
      have hx : Dx [] H v d := vz_dx h e1
      exact ⟨v, d, rfl, hx, hs, q _ H (Same.refl H) (.str _ hs.size)⟩
    · cases e2
  · cases e
end
end Vm
namespace Vm
open PySem PySem.Spec PyProof.Rows L2 Gk
section
variable {K : PySem.W.Frag} {p p' p2 : List Addr} {H H' H2 : Hp} {σ σ' σ2 : L2.St} {α α' α2 α0 : AS} {A A' A2 : FT}
theorem Rel.own_ext (R : Rel K p H σ α A) {i : Nat} {a : Addr} {φ : Heap → Prop} (h : a ∈ A i) (e : H a = some (.ext φ)) : False := by
  obtain ⟨r, er⟩ := R.has_slot h
  obtain ⟨v, q, z⟩ := (R.sl i r er).mut a h
  rcases q with q | ⟨o, q⟩
  · rw [e] at q
    cases q
    rcases z with ⟨_, z⟩ | ⟨_, z⟩ | ⟨_, z⟩ <;> cases z
  · rw [e] at q
    cases q
theorem Rel.tb_own {i : Nat} {q : List Addr} (R : Rel K p H σ α A) (keep : ∀ b o, H b = some o → b ∉ A i → H' b = some o) (hq : ∀ b ∈ q, b ∈ p ∨ H b = none) : TabP q H' := by
  refine ⟨fun t mt => ?_, fun t mt m => ?_⟩
  · obtain ⟨ps, h1, h2, h3⟩ := R.tb.1 t mt
    refine ⟨ps, keep _ _ h1 fun z => R.tb.2 t mt (R.inp i _ z), h2, fun pos cv hc => ?_⟩
    obtain ⟨c, e1, e2⟩ := h3 pos cv hc
    exact ⟨c, e1, keep _ _ e2 fun z => R.own_ext z e2⟩
  · obtain ⟨ps, h1, _⟩ := R.tb.1 t mt
    rcases hq _ m with z | z
    · exact R.tb.2 t mt z
    · rw [h1] at z; cases z
theorem root_core {i : Nat} {q q' : AV} {f' : List Addr} (R : Rel K p H σ α A) (hi : α[i]? = some q) (kin : Kin q q') (hs : SlotR K p' H' (σ[i]?).join f' q') (t : Tr p H p' H') (keep : ∀ b o, H b = some o → b ∉ A i → H' b = some o)
    (dom : ∀ b, H' b = none → H b = none) (hp : ∀ b ∈ p, b ∈ p') (hp' : ∀ b ∈ p', b ∈ p ∨ H b = none) (al : ∀ b ∈ p', H' b ≠ none) (nd : f'.Nodup) (hin : ∀ b ∈ f', b ∈ p') (new : ∀ b ∈ f', b ∈ A i ∨ H b = none) :
    Rel K p' H' σ (α.set i q') (setF A i f') ∧ Step p H σ α A p' H' σ (α.set i q') (setF A i f') := by
  have hia : i < α.length := getElem?_lt hi
  refine ⟨⟨by rw [List.length_set]; exact R.len, fun j r e => ?_, fun j e => ?_, fun j => ?_, fun j k a h1 h2 => ?_, fun j a h => ?_, al, R.tb_own keep hp'⟩,
    ⟨fun b o _ e n => .inl (keep b o e (n i)), dom, fun j b h => ?_, hp', fun b h => .inl (hp b h), by rw [List.length_set], fun j r e f => ⟨rfl, ?_⟩, fun j r e f => ?_⟩⟩
  · by_cases z : j = i
    · subst z
      rw [List.getElem?_set_self hia] at e
      cases e
      rw [setF_same]
      exact hs
    · rw [List.getElem?_set_ne (fun y => z y.symm)] at e
      rw [setF_ne z]
      exact (R.sl j r e).tr t fun c m u hu => keep c u hu fun mi => z (R.dj j i c m mi)
  · have z : j ≠ i := fun z => by subst z; rw [List.getElem?_set_self hia] at e; cases e
    rw [List.getElem?_set_ne (fun y => z y.symm)] at e
    rw [setF_ne z]
    exact R.out j e
  · by_cases z : j = i
    · subst z; rw [setF_same]; exact nd
    · rw [setF_ne z]; exact R.nd j
  · have one : ∀ k, k ≠ i → a ∈ f' → a ∉ A k := fun k hk m1 m2 => by
      rcases new a m1 with y | y
      · exact hk (R.dj k i a m2 y)
      · exact R.in_al m2 y
    rcases setF_mem h1 with ⟨rfl, m1⟩ | ⟨n1, m1⟩ <;> rcases setF_mem h2 with ⟨rfl, m2⟩ | ⟨n2, m2⟩
    · rfl
    · exact (one k n2 m1 m2).elim
    · exact (one j n1 m2 m1).elim
    · exact R.dj j k a m1 m2
  · rcases setF_mem h with ⟨_, m⟩ | ⟨_, m⟩
    · exact hin a m
    · exact hp a (R.inp j a m)
  · rcases setF_mem h with ⟨rfl, m⟩ | ⟨_, m⟩
    · exact new b m
    · exact .inl m
  · by_cases z : j = i
    · subst z
      rw [hi] at e
      cases e
      exact ⟨q', List.getElem?_set_self hia, kin⟩
    · exact ⟨r, by rw [List.getElem?_set_ne (fun y => z y.symm)]; exact e, .refl⟩
  · by_cases z : j = i
    · subst z
      rw [List.getElem?_set_self hia] at e
      cases e
      exact ⟨q, hi, by rw [← kin.fx]; exact f⟩
    · rw [List.getElem?_set_ne (fun y => z y.symm)] at e
      exact ⟨r, e, f⟩
/-- an own flat thing changed at its place -/
theorem root_put {i : Nat} {fx : Bool} {x x' : Da} {a : Addr} {o o' : HO} (R : Rel K p H σ α A) (hi : α[i]? = some (.r fx false x)) (hs : (σ[i]?).join = some (.ref a)) (ho : H a = some o) (hn : HO.noTup o) (ha : A i = [a])
    (top : Top K p (L2.upd H a o') false a x') :
    Rel K p (L2.upd H a o') σ (α.set i (.r fx false x')) (setF A i [a]) ∧ Step p H σ α A p (L2.upd H a o') σ (α.set i (.r fx false x')) (setF A i [a]) := by
  have am : a ∈ A i := by rw [ha]; exact List.mem_cons_self ..
  have hp := R.inp i a am
  refine root_core R hi ⟨rfl, rfl, rfl, fun z => by cases z⟩ (by rw [hs]; exact ⟨a, rfl, rfl, top⟩) (tr_upd hp ho hn) (fun b u e n => ?_) (fun b e => ?_) (fun b h => h) (fun b h => .inl h) (fun b h z => ?_) (by simp) (fun b m => by cases List.mem_singleton.mp m; exact hp) (fun b m => by cases List.mem_singleton.mp m; exact .inl am)
  · rw [upd_ne (fun z => n (by rw [z]; exact am))]; exact e
  · by_cases z : b = a
    · subst z; rw [upd_same] at e; cases e
    · rw [upd_ne z] at e; exact e
  · by_cases y : b = a
    · subst y; rw [upd_same] at z; cases z
    · rw [upd_ne y] at z; exact R.al b h z
theorem root_at {i : Nat} {fx lk : Bool} {x : Da} (R : Rel K p H σ α A) (hi : α[i]? = some (.r fx lk x)) : ∃ a, σ[i]? = some (some (.ref a)) ∧ A i = [a] ∧ Top K p H lk a x := by
  obtain ⟨v, hv⟩ := R.has hi (by intro z; cases z)
  obtain ⟨a, e, ha, t⟩ := R.sl i _ hi
  rw [join_of hv] at e
  cases e
  exact ⟨a, hv, ha, t⟩
def AV.asR : AV → Option (Bool × Da)
  | .r f false x => some (f, x)
  | _ => none
theorem asR_some {q : AV} {f : Bool} {x : Da} (h : q.asR = some (f, x)) : q = .r f false x := by
  cases q with
  | r a b c => cases b <;> cases h; rfl
  | _ => cases h
def rootAt (α : AS) (i : Nat) : Option (Bool × Da) := (α[i]?).bind AV.asR
theorem rootAt_some {i : Nat} {f : Bool} {x : Da} (h : rootAt α i = some (f, x)) : α[i]? = some (.r f false x) := by
  obtain ⟨q, e1, e2⟩ := Option.bind_eq_some_iff.mp h
  rw [e1, asR_some e2]
def sAppend (i : Nat) (ma : MA) : MS := fun α => match rootAt α i with
  | some (_, .list _) => (ma α).bind fun x => (ownA x.2 x.1).bind fun ys => match ys, rootAt x.2 i with
    | [y], some (f, .list xs) => if xs.length < LIM then some (.nx (x.2.set i (.r f false (.list (xs ++ [y]))))) else none
    | _, _ => none
  | _ => none
theorem ref_append {i : Nat} {ta : TA} {ma : MA} (ha : RefA K ta ma) : RefS K (tDrop (tBM K "list" rAppend (tVar i) ta)) (sAppend i ma) := ⟨fun p H σ α A o D R e h => by
  unfold sAppend at e
  split at e
  · rename_i f0 xs0 h0
    obtain ⟨a, hs, ha0, vs, h1, h2, h3⟩ := root_at R (rootAt_some h0)
    refine ⟨.ref a, hs, .inl ⟨rfl, vs, .of h1⟩, ?_⟩
    simp only [Option.bind_eq_some_iff] at e
    obtain ⟨⟨l, α1⟩, e1, ys, e2, e3⟩ := e
    split at e3
    · rename_i y f xs hr
      split at e3
      · rename_i hlt
        cases e3
        refine ha.go p H σ α A l α1 _ R e1 fun p1 H1 A1 us R1 S1 q1 => ?_
        have zu := ownA_dz R1 q1 e2
        cases zu with
        | @cons u _ _ _ d1 d2 =>
          cases d2
          obtain ⟨b, hs1, ha1, ws, w1, w2, w3⟩ := root_at R1 (rootAt_some hr)
          rw [hs] at hs1
          cases hs1
          have lw : ws.length < LIM := by rw [w3.length]; exact hlt
          refine ⟨a, ws, _, rfl, rfl, w1, line_lt w2, ?_⟩
          have hp := R1.inp i a (by rw [ha1]; exact List.mem_cons_self ..)
          have t : Tr p1 H1 p1 (L2.upd H1 a (.lst (ws ++ [u]))) := tr_upd hp w1 trivial
          have ⟨P, S⟩ := root_put (x' := .list (xs ++ [y])) (o' := .lst (ws ++ [u])) R1 (rootAt_some hr) (join_of hs) w1 trivial ha1 ⟨_, upd_same, by rw [List.length_append]; exact lw, (w3.append (.cons d1 .nil)).tr t⟩
          exact h p1 _ σ _ P (S1.trans R S)
      · cases e3
    · cases e3
  · cases e⟩
theorem DzK.any (k : Key) : ∀ {xs : List (Key × V)} {ds : List (Key × Da)}, DzK K p H xs ds → (xs.any fun kv => decide (kv.1 = k)) = ds.any fun kv => decide (kv.1 = k)
  | _, _, .nil => rfl
  | _, _, .cons _ _ t => by rw [List.any_cons, List.any_cons, DzK.any k t]
theorem DzT.any (k : List Key) : ∀ {xs : List (List Key × V)} {ds : List (List Key × Da)}, DzT K p H xs ds → (xs.any fun kv => decide (kv.1 = k)) = ds.any fun kv => decide (kv.1 = k)
  | _, _, .nil => rfl
  | _, _, .cons _ _ t => by rw [List.any_cons, List.any_cons, DzT.any k t]
def putD {κ τ : Type} [DecidableEq κ] (kvs : List (κ × τ)) (k : κ) (v : τ) : List (κ × τ) :=
  if (kvs.any fun kv => decide (kv.1 = k)) = true then kvs.map (fun kv => if kv.1 = k then (kv.1, v) else kv) else kvs ++ [(k, v)]
theorem putD_length {κ τ : Type} [DecidableEq κ] (kvs : List (κ × τ)) (k : κ) (v : τ) : (putD kvs k v).length ≤ kvs.length + 1 := by
  unfold putD
  split
  · rw [List.length_map]; omega
  · rw [List.length_append]; exact Nat.le_refl _
theorem DzK.map {k : Key} {v : V} {d : Da} (hd : Dz K p H v d) : ∀ {xs : List (Key × V)} {ds : List (Key × Da)}, DzK K p H xs ds → DzK K p H (xs.map fun kv => if kv.1 = k then (kv.1, v) else kv) (ds.map fun kv => if kv.1 = k then (kv.1, d) else kv)
  | _, _, .nil => .nil
  | _, _, .cons (k := j) h x t => by
    rw [List.map_cons, List.map_cons]
    by_cases e : j = k
    · rw [if_pos e, if_pos e]; exact .cons h hd (DzK.map hd t)
    · rw [if_neg e, if_neg e]; exact .cons h x (DzK.map hd t)
theorem DzT.map {k : List Key} {v : V} {d : Da} (hd : Dz K p H v d) : ∀ {xs : List (List Key × V)} {ds : List (List Key × Da)}, DzT K p H xs ds → DzT K p H (xs.map fun kv => if kv.1 = k then (kv.1, v) else kv) (ds.map fun kv => if kv.1 = k then (kv.1, d) else kv)
  | _, _, .nil => .nil
  | _, _, .cons (k := j) h x t => by
    rw [List.map_cons, List.map_cons]
    by_cases e : j = k
    · rw [if_pos e, if_pos e]; exact .cons h hd (DzT.map hd t)
    · rw [if_neg e, if_neg e]; exact .cons h x (DzT.map hd t)
theorem DzK.append : ∀ {xs ys : List (Key × V)} {ds es : List (Key × Da)}, DzK K p H xs ds → DzK K p H ys es → DzK K p H (xs ++ ys) (ds ++ es)
  | _, _, _, _, .nil, s => s
  | _, _, _, _, .cons h x t, s => .cons h x (DzK.append t s)
theorem DzT.append : ∀ {xs ys : List (List Key × V)} {ds es : List (List Key × Da)}, DzT K p H xs ds → DzT K p H ys es → DzT K p H (xs ++ ys) (ds ++ es)
  | _, _, _, _, .nil, s => s
  | _, _, _, _, .cons h x t, s => .cons h x (DzT.append t s)
theorem DzK.put {k : Key} {v : V} {d : Da} (hk : KeyOk k) (hd : Dz K p H v d) {xs : List (Key × V)} {ds : List (Key × Da)} (h : DzK K p H xs ds) : DzK K p H (putK xs k v) (putD ds k d) := by
  unfold putK putD
  rw [h.any k]
  split
  · exact h.map hd
  · exact h.append (.cons hk hd .nil)
theorem DzT.put {k : List Key} {v : V} {d : Da} (hk : (∀ x ∈ k, KeyOk x) ∧ k.length ≤ LIM) (hd : Dz K p H v d) {xs : List (List Key × V)} {ds : List (List Key × Da)} (h : DzT K p H xs ds) : DzT K p H (putK xs k v) (putD ds k d) := by
  unfold putK putD
  rw [h.any k]
  split
  · exact h.map hd
  · exact h.append (.cons hk hd .nil)
/-- what x[k] = v makes of x -/
def setDa (x k v : Da) : Option Da := match x with
  | .list xs => match k with
    | .int j => (ixN xs.length j).bind fun n => some (.list (xs.set n v))
    | _ => none
  | .dk kvs => (keyD k).bind fun j => if kvs.length < LIM then some (.dk (putD kvs j v)) else none
  | .dt kvs => (keyT k).bind fun j => if kvs.length < LIM then some (.dt (putD kvs j v)) else none
  | _ => none
theorem put_top {x k v x' : Da} {a : Addr} {vk vv : V} (hp : a ∈ p) (t : Top K p H false a x) (hd : x.isDict = true) (hk : Vz K p H vk k) (hv : Dz K p H vv v) (e : setDa x k v = some x') :
    ∃ o o', H a = some o ∧ HO.noTup o ∧ DPut H a vk vv (L2.upd H a o') ∧ Top K p (L2.upd H a o') false a x' := by
  cases x with
  | dk kvs =>
    obtain ⟨xs, h1, h2, h3⟩ := t
    have h1 := h1.ex
    simp only [setDa, Option.bind_eq_some_iff] at e
    obtain ⟨j, e1, e2⟩ := e
    split at e2
    · rename_i hl
      cases e2
      obtain ⟨rfl, ok⟩ := vz_key hk e1
      have lx : xs.length < LIM := by rw [h3.length]; exact hl
      refine ⟨_, .dK (putK xs j vv), h1, trivial, .inl ⟨xs, j, h1, rfl, line_lt h2, rfl⟩, _, .of upd_same, ?_, (h3.put ok hv).tr (tr_upd hp h1 trivial)⟩
      have := length_putK xs j vv
      omega
    · cases e2
  | dt kvs =>
    obtain ⟨xs, h1, h2, h3⟩ := t
    have h1 := h1.ex
    simp only [setDa, Option.bind_eq_some_iff] at e
    obtain ⟨j, e1, e2⟩ := e
    split at e2
    · rename_i hl
      cases e2
      obtain ⟨b, rfl, hb, ok⟩ := vz_keyT hk e1
      have lx : xs.length < LIM := by rw [h3.length]; exact hl
      refine ⟨_, .dT (putK xs j vv), h1, trivial, .inr ⟨xs, j, b, h1, rfl, hb, line_lt h2, rfl⟩, _, .of upd_same, ?_, (h3.put ok hv).tr (tr_upd hp h1 trivial)⟩
      have := length_putK xs j vv
      omega
    · cases e2
  | _ => cases hd
/-- x[k] = e, x an own thing -/
def sSetI (i : Nat) (me mk : ME) : MS := fun α => (me α).bind fun x => (rootAt x.2 i).bind fun _ => (mk x.2).bind fun y => (own y.2 x.1).bind fun v => (res y.2 y.1).bind fun k => (rootAt y.2 i).bind fun r => (setDa r.2 k v).bind fun c => some (.nx (y.2.set i (.r r.1 false c)))
theorem ref_setI {i : Nat} {te tk : TE} {me mk : ME} (he : RefE K te me) (hk : RefE K tk mk) : RefS K (tOrS (tAsg te (gSub (tVar i) tk rSetL)) (sDPut (tVar i) tk te)) (sSetI i me mk) := ⟨fun p H σ α A o D R e h => by
  simp only [sSetI, Option.bind_eq_some_iff] at e
  obtain ⟨⟨l, α1⟩, e1, ⟨f0, x0⟩, h0, ⟨lk, α2⟩, e2, v, e3, k, e4, ⟨f, x⟩, e5, c, e6, e7⟩ := e
  cases e7
  have dict : x.isDict = true → sDPut (tVar i) tk te D σ H := fun hd => by
    refine he.go p H σ α A l α1 _ R e1 fun p1 H1 A1 u R1 S1 q1 => ?_
    obtain ⟨a, hs, _, _⟩ := root_at R1 (rootAt_some h0)
    refine ⟨.ref a, hs, ?_⟩
    refine hk.go p1 H1 σ α1 A1 lk α2 _ R1 e2 fun p2 H2 A2 w R2 S2 q2 => ?_
    obtain ⟨b, hs1, ha1, t⟩ := root_at R2 (rootAt_some e5)
    rw [hs] at hs1
    cases hs1
    obtain ⟨o, o', w1, w2, w3, w4⟩ := put_top (R2.inp i a (by rw [ha1]; exact List.mem_cons_self ..)) t hd (res_vz R2 q2 e4) (own_dz R2 (q1.step R1 S2) e3) e6
    refine ⟨a, _, rfl, w3, ?_⟩
    have ⟨P, S⟩ := root_put R2 (rootAt_some e5) (join_of hs) w1 w2 ha1 w4
    exact h p2 _ σ _ P ((S1.trans R S2).trans R S)
  cases x with
  | list xs =>
    left
    simp only [setDa] at e6
    split at e6
    · rename_i j
      obtain ⟨n, e8, e9⟩ := Option.bind_eq_some_iff.mp e6
      cases e9
      refine he.go p H σ α A l α1 _ R e1 fun p1 H1 A1 u R1 S1 q1 => ?_
      obtain ⟨a, hs, _, _⟩ := root_at R1 (rootAt_some h0)
      refine ⟨.ref a, hs, ?_⟩
      refine hk.go p1 H1 σ α1 A1 lk α2 _ R1 e2 fun p2 H2 A2 w R2 S2 q2 => ?_
      obtain ⟨b, hs1, ha1, ws, w1, w2, w3⟩ := root_at R2 (rootAt_some e5)
      rw [hs] at hs1
      cases hs1
      cases vz_int (res_vz R2 q2 e4)
      refine ⟨a, ws, j, n, rfl, rfl, w1, by rw [w3.length]; exact e8, ?_⟩
      have hp := R2.inp i a (by rw [ha1]; exact List.mem_cons_self ..)
      have t : Tr p2 H2 p2 (L2.upd H2 a (.lst (ws.set n u))) := tr_upd hp w1 trivial
      have du := own_dz R2 (q1.step R1 S2) e3
      have ⟨P, S⟩ := root_put (x' := .list (xs.set n v)) (o' := .lst (ws.set n u)) R2 (rootAt_some e5) (join_of hs) w1 trivial ha1 ⟨_, upd_same, by rw [List.length_set]; exact w2, (w3.set n du).tr t⟩
      exact h p2 _ σ _ P ((S1.trans R S2).trans R S)
    · cases e6
  | dk kvs => exact .inr (dict rfl)
  | dt kvs => exact .inr (dict rfl)
  | _ => cases e6⟩
end
end Vm
namespace Vm
open PySem PySem.Spec PyProof.Rows L2 Gk
section
variable {K : PySem.W.Frag} {p p' p2 : List Addr} {H H' H2 : Hp} {σ σ' σ2 : L2.St} {α α' α2 α0 : AS} {A A' A2 : FT}
def mkD {κ τ : Type} [DecidableEq κ] (es : List (κ × τ)) : List (κ × τ) := es.foldl (fun acc kv => putD acc kv.1 kv.2) []
theorem mkD_snoc {κ τ : Type} [DecidableEq κ] (es : List (κ × τ)) (kv : κ × τ) : mkD (es ++ [kv]) = putD (mkD es) kv.1 kv.2 := by
  unfold mkD; rw [List.foldl_append]; rfl
def AccT (K : PySem.W.Frag) (p : List Addr) (H : Hp) (D : Addr) (done : List (List Key × Da)) : Prop := ∃ kvs, H D = some (.dT kvs) ∧ kvs.length ≤ done.length ∧ DzT K p H kvs (mkD done)
theorem accT : AccOk (AccT K) := ⟨fun ⟨vs, h1, h3, h2⟩ t e => ⟨vs, by rw [e]; exact h1, h3, h2.tr t⟩, fun ⟨vs, h1, _⟩ => ⟨_, h1, trivial⟩⟩
def uDcT (tk tv : TE) : L2.St → Hp → Addr → (Hp → Prop) → Prop := fun σ H D Nx => tk σ H fun y H4 => tv σ H4 fun z H5 => ∃ kvs k c, y = .ref c ∧ H5 c = some (.tup (List.map kV k)) ∧ H5 D = some (.dT kvs) ∧ kvs.length < sizeLine ∧ Nx (upd H5 D (.dT (putK kvs k z)))
def mDc {κ : Type} (key : Da → Option κ) (mk mv : ME) : AS → Option (List (κ × Da) × AS) := fun α => (mk α).bind fun l => (mv l.2).bind fun r => (own r.2 l.1).bind fun x => (own r.2 r.1).bind fun y => (key x).bind fun k => some ([(k, y)], r.2)
theorem acc_stay {D : Addr} {o : HO} {p1 : List Addr} {H1 : Hp} {σ1 : L2.St} {α1 : AS} {A1 : FT} (R : Rel K p H σ α A) (S1 : Step p H σ α A p1 H1 σ1 α1 A1) (hDp : D ∈ p) (nD : ∀ i, D ∉ A i) (ho : H D = some o) (hnt : HO.isTbl o = false := by rfl) : H1 D = some o ∧ D ∈ p1 ∧ ∀ i, D ∉ A1 i := by
  refine ⟨(S1.keep D _ hnt ho nD).exp hDp, ?_, fun j z => ?_⟩
  · rcases S1.mono D hDp with z | ⟨k, z⟩
    · exact z
    · exact (nD k z).elim
  · rcases S1.new j D z with q | q
    · exact nD j q
    · rw [ho] at q; cases q
theorem ref_uDcT {tk tv : TE} {mk mv : ME} (hk : RefE K tk mk) (hv : RefE K tv mv) : RefC K (AccT K) (uDcT tk tv) (mDc keyT mk mv) :=
  ⟨fun p0 H0 σ0 α0 A0 p H σ α A D done ys α' Nx R0 S h0 R hDp nD acc e hl h => by
    simp only [mDc, Option.bind_eq_some_iff] at e
    obtain ⟨⟨l, α1⟩, e1, ⟨r, α2⟩, e2, x, e3, y, e4, k, e5, e6⟩ := e
    cases e6
    refine hk.go p H σ α A l α1 _ R e1 fun p1 H1 A1 v R1 S1 q1 => ?_
    refine hv.go p1 H1 σ α1 A1 r α2 _ R1 e2 fun p2 H2 A2 w R2 S2 q2 => ?_
    obtain ⟨vs, g1, g2, dz⟩ := acc
    have S12 := S1.trans R S2
    obtain ⟨hD1, hDp1, nD1⟩ := acc_stay R S12 hDp nD g1
    have lv : vs.length < LIM := by simp only [List.length_cons, List.length_nil] at hl; omega
    obtain ⟨c, rfl, hc, ok⟩ := vz_keyT (.of (own_dz R2 (q1.step R1 S2) e3)) e5
    refine ⟨vs, k, c, rfl, hc, hD1, line_lt (Nat.le_of_lt lv), h p2 _ A2 (rel_upd R2 hDp1 hD1 trivial nD1) ((S.trans R0 S12).upd h0) hDp1 nD1 ⟨_, upd_same, ?_, ?_⟩⟩
    · have := length_putK vs k w
      rw [List.length_append, List.length_singleton]
      omega
    · rw [mkD_snoc]
      exact ((dz.tr (S12.tr R)).put ok (own_dz R2 q2 e4)).tr (tr_upd hDp1 hD1 trivial)⟩
def fDcT (m : AS → Option (List (List Key × Da) × AS)) : MF := fun α => (m α).bind fun r => if r.1.length ≤ LIM then some (.r (.dt (mkD r.1)), r.2) else none
theorem ref_fDcT {w : TI} {g : TG} {tt : TT} {u : L2.St → Hp → Addr → (Hp → Prop) → Prop} {vs : List Nat} {mi : MI} {mg : MG} {mt : MT} {mu : AS → Option (List (List Key × Da) × AS)} (hi : RefI K w mi) (hg : RefB K g mg vs) (ht : RefT K tt mt) (hu : RefC K (AccT K) u mu) :
    RefF K (tCmp w g tt u vs (.dT [])) (fDcT (cmI mi vs mg mt mu)) := ⟨fun p H σ α A r α' Q R e h => by
  simp only [fDcT, Option.bind_eq_some_iff] at e
  obtain ⟨⟨ys, α1⟩, e1, e2⟩ := e
  split at e2
  · rename_i hl
    cases e2
    refine cmp_core accT (fun p H D => ⟨[], upd_same, Nat.le_refl _, .nil⟩) hi hg ht hu R e1 hl fun p1 H1 A1 a R1 S1 fr acc => ?_
    obtain ⟨vs, h1, h2, h3⟩ := acc
    exact h p1 H1 A1 a [] R1 S1 fr ⟨rfl, vs, .of h1, Nat.le_trans h2 hl, h3⟩
  · cases e2⟩
theorem paired_len {τ υ : Type} {R : τ → υ → Prop} : ∀ {xs : List τ} {ys : List υ}, Paired R xs ys → xs.length = ys.length
  | _, _, .nil => rfl
  | _, _, .cons _ t => congrArg (· + 1) (paired_len t)
end
end Vm
namespace Vm
open PySem PySem.Spec PyProof.Rows L2 Gk
section
variable {K : PySem.W.Frag} {p p' p2 : List Addr} {H H' H2 : Hp} {σ σ' σ2 : L2.St} {α α' α2 α0 : AS} {A A' A2 : FT}
def rSortD (K : PySem.W.Frag) : List V → Hp → VK → Prop := fun xs H Q => ∃ (a : Addr) (vs : List V) (ds : List PyData), xs = [V.ref a] ∧ SqL K H a vs ∧ DpAll K H vs ds ∧ PySem.W.AllAlike ds ∧ PySem.W.Sortable ds ∧ (∀ d ∈ ds, d.depth ≤ 64) ∧
  ∀ q, H q = none → Q (.ref q) (upd H q (.lst (((vs.zip ds).mergeSort (PySem.W.dataLe false (·.2))).map (·.1))))
theorem DpAll.length : ∀ {vs : List V} {ds : List PyData}, DpAll K H vs ds → vs.length = ds.length
  | _, _, .nil => rfl
  | _, _, .cons _ t => congrArg (· + 1) (DpAll.length t)
theorem zip_snd {τ υ : Type} : ∀ {xs : List τ} {ys : List υ}, xs.length = ys.length → (xs.zip ys).map (·.2) = ys
  | [], [], _ => rfl
  | x :: xs, y :: ys, h => by rw [List.zip_cons_cons, List.map_cons, zip_snd (by simpa using h)]
  | [], _ :: _, h => by cases h
  | _ :: _, [], h => by cases h
theorem each_of {R : Value → V × PyData → Prop} : ∀ {vs : List V} {us : List Value} {ds : List PyData}, Vals vs us → vs.length = ds.length → (∀ (i : Nat) (v : V) (u : Value) (d : PyData), vs[i]? = some v → us[i]? = some u → ds[i]? = some d → RelV v u → R u (v, d)) → PySem.W.EachIs R us (vs.zip ds)
  | [], [], [], .nil, _, _ => .nil
  | v :: vs, u :: us, d :: ds, .cons r t, hl, h => .cons (h 0 v u d rfl rfl rfl r) (each_of t (by simpa using hl) fun i v u d h1 h2 h3 => h (i + 1) v u d (by simpa using h1) (by simpa using h2) (by simpa using h3))
  | _ :: _, _ :: _, [], _, hl, _ => by cases hl
theorem cr_sortD {X : Cx} (hK : X.K = K) (hu : X.A.units + 70 < cLine) : CallR X (.builtin "sorted") (rSortD K) := by
  subst hK
  intro pins s σ H xs us Q I r h
  obtain ⟨a, vs, ds, rfl, hs, hd, al, so, dep, q⟩ := h
  obtain ⟨its, rv, hl, hz⟩ := I.list hs
  rw [Vals.ref1 r]
  have hlen := DpAll.length hd
  have e : PySem.W.EachIs (fun u (b : V × PyData) => RelV b.1 u) its (vs.zip ds) := each_of rv hlen fun i v u d _ _ _ hr => hr
  obtain ⟨as, ra⟩ := Dp.readsAll I ds vs its hd rv
  have er : PySem.W.EachIs (fun u (b : V × PyData) => ∃ as, Reads s.heap u b.2 as) its (vs.zip ds) := by
    have ra' : ReadsAll s.heap its ((vs.zip ds).map (·.2)) as := by rw [zip_snd hlen]; exact ra
    exact PySem.W.readsAll_each (fun b : V × PyData => b.2) ra'
  have em : (vs.zip ds).map (·.2) = ds := zip_snd hlen
  refine PySem.W.sorted_data (enc := fun b : V × PyData => b.2) hl.isList e er (by rw [em]; exact al) (by rw [em]; exact so) (by rw [List.length_zip]; omega) (fun b hb => ?_) fun out ol eo => ?_
  · have : b.2 ∈ ds := by rw [← em]; exact List.mem_map_of_mem hb
    have := dep _ this
    omega
  · have rv' : Vals (((vs.zip ds).mergeSort (PySem.W.dataLe false (·.2))).map (·.1)) out := by
      have gen : ∀ {us : List Value} {bs : List (V × PyData)}, PySem.W.EachIs (fun u (b : V × PyData) => RelV b.1 u) us bs → Vals (bs.map (·.1)) us := fun {us bs} h => by
        induction h with
        | nil => exact .nil
        | cons h _ ih => exact .cons h ih
      exact gen eo
    obtain ⟨ep, he'⟩ := PyProof.Rows.sortedAll_at s.heap its out.toArray
    have hlen' : (((vs.zip ds).mergeSort (PySem.W.dataLe false (·.2))).map (·.1)).length ≤ sizeLine := by
      rw [List.length_map, List.length_mergeSort, List.length_zip]; omega
    exact ⟨.ref _, upd H (s.heap.objs.size + 1) (.lst _), I.laid (t' := s.toks) (fun _ _ => PyProof.Rows.sortedAll_old) (Nat.le_succ _) ⟨hlen', out, ep, rv', he'⟩, rfl, q _ (I.hok.fresh (Nat.le_succ _))⟩
open Classical in
/-- the data sorted as Python does; none where they can't be told apart -/
noncomputable def sortD (xs : List Da) : Option (List Da) := (toPys xs).bind fun ds => if PySem.W.AllAlike ds ∧ PySem.W.Sortable ds ∧ (∀ d ∈ ds, d.depth ≤ 64) then some (((xs.zip ds).mergeSort (PySem.W.dataLe false (·.2))).map (·.1)) else none
theorem toPys_len : ∀ {xs : List Da} {ds : List PyData}, toPys xs = some ds → ds.length = xs.length
  | [], _, e => by cases e; rfl
  | x :: xs, _, e => by
    simp only [toPys, Option.bind_eq_some_iff] at e
    obtain ⟨d, _, ds, e2, e3⟩ := e
    cases e3
    exact congrArg (· + 1) (toPys_len e2)
theorem merge_map {τ υ : Type} (f : τ → υ) (le : υ → υ → Bool) (l : List τ) : (l.map f).mergeSort le = (l.mergeSort fun a b => le (f a) (f b)).map f :=
  (List.map_mergeSort (f := f) (r := fun a b => le (f a) (f b)) (s := le) (fun _ _ _ _ => rfl)).symm
theorem DzA.get2 : ∀ {vs : List V} {xs : List Da}, DzA K p H vs xs → ∀ vx ∈ vs.zip xs, Dz K p H vx.1 vx.2
  | _, _, .nil, _, m => by cases m
  | _, _, .cons h t, vx, m => by
    rw [List.zip_cons_cons] at m
    rcases List.mem_cons.mp m with rfl | m
    · exact h
    · exact DzA.get2 t vx m
theorem dzA_of : ∀ {l : List (V × Da)}, (∀ vx ∈ l, Dz K p H vx.1 vx.2) → DzA K p H (l.map (·.1)) (l.map (·.2))
  | [], _ => .nil
  | vx :: l, h => .cons (h vx (List.mem_cons_self ..)) (dzA_of fun y m => h y (List.mem_cons_of_mem _ m))
theorem sort_dz {vs : List V} {xs : List Da} {ds : List PyData} (h : DzA K p H vs xs) (hl : ds.length = xs.length) :
    DzA K p H (((vs.zip ds).mergeSort (PySem.W.dataLe false (·.2))).map (·.1)) (((xs.zip ds).mergeSort (PySem.W.dataLe false (·.2))).map (·.1)) := by
  have hv := h.length
  have e1 : vs.zip ds = ((vs.zip xs).zip ds).map fun t => (t.1.1, t.2) := by
    apply List.ext_getElem?
    intro i
    simp only [List.getElem?_map, List.getElem?_zip_eq_some, List.zip, List.getElem?_zipWith]
    rcases Nat.lt_or_ge i ds.length with hi | hi
    · have h1 : i < vs.length := by omega
      have h2 : i < xs.length := by omega
      simp [h1, h2, hi]
    · have h1 : vs.length ≤ i := by omega
      have h2 : xs.length ≤ i := by omega
      simp [h1, h2, hi]
  have e2 : xs.zip ds = ((vs.zip xs).zip ds).map fun t => (t.1.2, t.2) := by
    apply List.ext_getElem?
    intro i
    simp only [List.getElem?_map, List.getElem?_zip_eq_some, List.zip, List.getElem?_zipWith]
    rcases Nat.lt_or_ge i ds.length with hi | hi
    · have h1 : i < vs.length := by omega
      have h2 : i < xs.length := by omega
      simp [h1, h2, hi]
    · have h1 : vs.length ≤ i := by omega
      have h2 : xs.length ≤ i := by omega
      simp [h1, h2, hi]
  rw [e1, e2, merge_map, merge_map, List.map_map, List.map_map]
  have key := dzA_of (K := K) (p := p) (H := H) (l := (((vs.zip xs).zip ds).mergeSort fun a b => PySem.W.dataLe false (fun t : (V × Da) × PyData => t.2) a b).map (·.1)) fun vx m => by
    obtain ⟨t, m1, rfl⟩ := List.mem_map.mp m
    have m2 := List.mem_mergeSort.mp m1
    exact h.get2 _ (List.of_mem_zip m2).1
  rw [List.map_map, List.map_map] at key
  exact key
noncomputable def fSortM (ma : MA) : MF := fun α => (ma α).bind fun x => (resA x.2 x.1).bind fun a => match a with
  | [.list xs] => (sortD xs).bind fun ys => some (.r (.list ys), x.2)
  | _ => none
theorem ref_fSort {ta : TA} {ma : MA} (ha : RefA K ta ma) : RefF K (tCB (rSortD K) ta) (fSortM ma) := ⟨fun p H σ α A r α' Q R e h => by
  simp only [fSortM, Option.bind_eq_some_iff] at e
  obtain ⟨⟨ls, α1⟩, e1, a, e2, e3⟩ := e
  split at e3
  · rename_i xs
    simp only [Option.bind_eq_some_iff] at e3
    obtain ⟨ys, e4, e5⟩ := e3
    cases e5
    simp only [sortD, Option.bind_eq_some_iff] at e4
    obtain ⟨ds, e6, e7⟩ := e4
    split at e7
    · rename_i hc
      cases e7
      refine ha.go p H σ α A ls _ _ R e1 fun p1 H1 A1 vs R1 S1 q1 => ?_
      obtain ⟨v, rfl, hv⟩ := vz1 (resA_vz R1 q1 e2)
      obtain ⟨ad, us, rfl, h1, h2, h3⟩ := vz_lst hv
      refine ⟨ad, us, ds, rfl, .of h1, dzA_dp h3 e6, hc.1, hc.2.1, hc.2.2, fun q hq => ?_⟩
      obtain ⟨R2, S2, nr⟩ := rel_new (o := .lst (((us.zip ds).mergeSort (PySem.W.dataLe false (·.2))).map (·.1))) R1 hq
      refine h _ _ A1 q [] R2 (S1.trans R S2) (fresh_one (List.mem_cons_self ..) (S1.dom q hq) nr) ⟨rfl, _, upd_same, ?_, (sort_dz h3 (toPys_len e6)).tr (tr_new hq (same_new hq))⟩
      rw [List.length_map, List.length_mergeSort, List.length_zip]
      omega
    · cases e7
  · cases e3⟩
end
end Vm
namespace Vm
open PySem PySem.Spec PyProof.Rows L2 Gk
section
variable {K : PySem.W.Frag} {p p' p2 : List Addr} {H H' H2 : Hp} {σ σ' σ2 : L2.St} {α α' α2 α0 : AS} {A A' A2 : FT}
def oneF (f : List Addr) : FT := fun i => if i = 0 then f else []
theorem callO {F : FV} {a : Addr} {as : List Addr} {r : Nw} {y : Rv} {bs : List AV} {Q : VK} {E : XK} (R : Rel K p H σ α A) (R1 : Rel K p' H' σ α' A') (S1 : Step p H σ α A p' H' σ α' A') (fr : Fresh p' H A' (a :: as)) (nw : NewR K p' H' a as r) (e : F [r.av] = some (y, bs))
    (h : ∀ p2 H2 v, Rel K p2 H2 σ α' A' → Step p H σ α A p2 H2 σ α' A' → Dz K p2 H2 v y.da → Q v H2) : spV K F [.ref a] H' Q E := by
  have om : ∀ {i b}, b ∈ oneF (a :: as) i → i = 0 ∧ b ∈ a :: as := fun {i b} m => by
    unfold oneF at m
    split at m
    · exact ⟨by assumption, m⟩
    · exact (List.not_mem_nil m).elim
  have RA : Rel K p' H' ([V.ref a].map some) [r.av] (oneF (a :: as)) := by
    refine ⟨rfl, fun i q e => ?_, fun i e => ?_, fun i => ?_, fun i j b h1 h2 => (om h1).1.trans (om h2).1.symm, fun i b m => fr.inp b (om m).2, R1.al, R1.tb⟩
    · cases i with
      | zero => cases e; exact new_slot nw
      | succ i => simp at e
    · unfold oneF
      split
      · rename_i z; subst z; simp at e
      · rfl
    · unfold oneF
      split
      · exact fr.nd
      · exact .nil
  refine ⟨p', [r.av], oneF (a :: as), y, bs, RA, e, fun p2 H2 B v R2 S2 rr => ?_⟩
  have t := S2.tr RA
  have nin : ∀ i b, b ∈ A' i → ∀ j, b ∉ oneF (a :: as) j := fun i b m j z => fr.noA b (om z).2 i m
  have R3 : Rel K p2 H2 σ α' A' := by
    refine ⟨R1.len, fun i q e => (R1.sl i q e).tr t fun c m u hu => (S2.keep c u (R1.own_tbl m hu) hu (nin i c m)).exp (R1.inp i c m), R1.out, R1.nd, R1.dj, fun i b m => ?_, R2.al, R2.tb⟩
    rcases S2.mono b (R1.inp i b m) with z | ⟨j, z⟩
    · exact z
    · exact (nin i b m j z).elim
  have S3 : Step p H σ α A p2 H2 σ α' A' := by
    refine ⟨fun b o ht e n => ?_, fun b e => S1.dom b (S2.dom b e), S1.new, fun b m => ?_, fun b m => ?_, S1.ln, S1.fix, S1.nof⟩
    · have nb : ∀ j, b ∉ oneF (a :: as) j := fun j z => by
        have := fr.non b (om z).2
        rw [e] at this; cases this
      rcases S1.keep b o ht e n with z | ⟨z1, z2, od, z3⟩
      · rcases S2.keep b o ht z nb with w | ⟨w1, w2, w3⟩
        · exact .inl w
        · refine .inr ⟨fun m => ?_, w2, w3⟩
          rcases S1.mono b m with y | ⟨i, y⟩
          · exact w1 y
          · exact n i y
      · exact .inr ⟨z1, z2, od, (S2.keep b _ rfl z3 nb).ex rfl⟩
    · rcases S2.sub b m with z | z
      · exact S1.sub b z
      · exact .inr (S1.dom b z)
    · rcases S1.mono b m with z | z
      · rcases S2.mono b z with w | ⟨j, w⟩
        · exact .inl w
        · exact (R.al b m (fr.non b (om w).2)).elim
      · exact .inr z
  -- the answer as data
  have nf : ∀ bs', Fresh p2 H' B bs' → Fresh p2 H A' bs' := fun bs' f => ⟨f.inp, fun b m => S1.dom b (f.non b m), fun b m i z => R1.in_al z (f.non b m), f.nd⟩
  have rr' : ResR K H p2 H2 A' v y := by
    cases y with
    | one r => obtain ⟨cs, q1, q2⟩ := rr; exact ⟨cs, q1, nf cs q2⟩
    | tup rs => obtain ⟨t, us, cs, q1, q2, q3, q4, q5⟩ := rr; exact ⟨t, us, cs, q1, q2, q3, q4, nf cs q5⟩
  obtain ⟨p4, R4, S4, d⟩ := res_da R R3 S3 rr'
  exact h p4 H2 v R4 S4 d
def eCallO (F : FV) (mf : MF) : ME := fun α => (mf α).bind fun x => (F [x.1.av]).bind fun y => some (.d y.1.da, x.2)
theorem ref_callO {F : FV} {t : TE} {mf : MF} {E : XK} (hf : RefF K t mf) : RefE K (tCall (spV K F) [] E (tCons t tNil)) (eCallO F mf) := ⟨fun p H σ α A l α' Q R e h => by
  simp only [eCallO, Option.bind_eq_some_iff] at e
  obtain ⟨⟨r, α1⟩, e1, ⟨y, bs⟩, e2, e4⟩ := e
  cases e4
  refine hf.go p H σ α A r α1 _ R e1 fun p1 H1 A1 a as R1 S1 fr nw => ?_
  exact callO (E := E) R R1 S1 fr nw e2 fun p2 H2 v R2 S2 d => h p2 H2 A1 v R2 S2 d⟩
theorem sc_sq {i : Nat} {ns : List Int} (R : Rel K p H σ α A) (h : α[i]? = some (.sc ns)) : ∃ a, σ[i]? = some (some (.ref a)) ∧ SqL K H a (ns.map V.int) := by
  obtain ⟨v, hv⟩ := R.has h (by intro z; cases z)
  obtain ⟨_, a, e, q⟩ := R.sl i _ h
  rw [join_of hv] at e
  cases e
  exact ⟨a, hv, q.elim (fun z => .inl z.2) .inr⟩
def rLenL (K : PySem.W.Frag) : List V → Hp → VK → Prop := fun xs H Q => ∃ a ys, xs = [.ref a] ∧ SqL K H a ys ∧ Q (.int ((ys.length : Nat) : Int)) H
theorem len_L {X : Cx} (hK : X.K = K) : CallR X (.builtin "len") (rLenL K) := by
  subst hK
  intro pins s σ H xs us Q I r h
  obtain ⟨a, ys, rfl, hs, q⟩ := h
  exact call_len pins s σ H _ us Q I r ⟨.ref a, ys.length, rfl, .inl ⟨ys, hs, rfl⟩, q⟩
def eScLen (i : Nat) : ME := fun α => match α[i]? with
  | some (.sc ns) => some (.d (.int ((ns.length : Nat) : Int)), α)
  | _ => none
theorem ref_scLen {i : Nat} : RefE K (tCB (rLenL K) (tCons (tVar i) tNil)) (eScLen i) := ⟨fun p H σ α A l α' Q R e h => by
  unfold eScLen at e
  split at e
  · rename_i ns hi
    cases e
    obtain ⟨a, hs, sq⟩ := sc_sq R hi
    refine ⟨.ref a, hs, a, _, rfl, sq, ?_⟩
    rw [List.length_map]
    exact h p H A _ R .refl (.int _)
  · cases e⟩
theorem ix_L {X : Cx} (hK : X.K = K) : IxR X (rIxL K) := by subst hK; exact ix_list
def eScIx (i : Nat) (mk : ME) : ME := fun α => match α[i]? with
  | some (.sc _) => (mk α).bind fun y => match y.2[i]? with
    | some (.sc ns) => (res y.2 y.1).bind fun k => match k with
      | .int j => (atI ns j).bind fun n => some (.d (.int n), y.2)
      | _ => none
    | _ => none
  | _ => none
theorem atI_map {ns : List Int} {j n : Int} (h : atI ns j = some n) : atI (ns.map V.int) j = some (.int n) := by
  unfold atI at h ⊢
  rw [List.length_map]
  obtain ⟨k, e1, e2⟩ := Option.bind_eq_some_iff.mp h
  rw [e1, Option.bind_some, List.getElem?_map, e2]
  rfl
theorem ref_scIx {i : Nat} {tk : TE} {mk : ME} (hk : RefE K tk mk) : RefE K (tOp (rIxL K) (tVar i) tk) (eScIx i mk) := ⟨fun p H σ α A l α' Q R e h => by
  unfold eScIx at e
  split at e
  · rename_i ns0 hi0
    obtain ⟨a, hs, _⟩ := sc_sq R hi0
    simp only [Option.bind_eq_some_iff] at e
    obtain ⟨⟨ly, α1⟩, e1, e2⟩ := e
    split at e2
    · rename_i ns hi
      simp only [Option.bind_eq_some_iff] at e2
      obtain ⟨k, e3, e4⟩ := e2
      split at e4
      · rename_i j
        obtain ⟨n, e5, e6⟩ := Option.bind_eq_some_iff.mp e4
        cases e6
        refine ⟨.ref a, hs, ?_⟩
        refine hk.go p H σ α A ly _ _ R e1 fun p1 H1 A1 v R1 S1 q => ?_
        obtain ⟨b, hs1, sq⟩ := sc_sq R1 hi
        rw [hs] at hs1
        cases hs1
        cases vz_int (res_vz R1 q e3)
        exact ⟨a, _, j, _, rfl, rfl, sq, atI_map e5, h p1 H1 A1 _ R1 S1 (.int _)⟩
      · cases e4
    · cases e2
  · cases e⟩
noncomputable def bigN : Int := big_worth.choose
theorem bigN_pos : 0 < bigN := big_worth.choose_spec.1
def rBig : List V → Hp → VK → Prop := fun xs H Q => xs = [.str bigS] ∧ Q (.int bigN) H
theorem cr_big {X : Cx} (hd : PySem.W.nsIn X.K cStatics "sys.int_max_str_digits" = some none) : CallR X (.type "int") rBig := by
  intro pins s σ H xs us Q I r h
  obtain ⟨rfl, q⟩ := h
  obtain ⟨u, rfl, t, rfl⟩ := vals1 r
  exact call_big big_worth.choose_spec.2 (noDigits_of I.kIn I.nolimit hd) ⟨.int bigN, H, I.tok _, ⟨_, rfl⟩, q⟩
noncomputable def eBig : ME := fun α => some (.d (.int bigN), α)
def setDs : List Nat → List Da → AS → Option AS
  | [], [], α => some α
  | i :: is, x :: xs, α => (setD i x α).bind fun β => setDs is xs β
  | _, _, _ => none
def sPar (is : List Nat) (ma : MA) : MS := fun α => (ma α).bind fun x => (ownA x.2 x.1).bind fun xs => (setDs is xs x.2).bind fun β => some (.nx β)
theorem setDs_ok : ∀ {is : List Nat} {vs : List V} {xs : List Da} {p : List Addr} {H : Hp} {σ : L2.St} {α : AS} {A : FT}, Rel K p H σ α A → DzA K p H vs xs → setDs is xs α = some α' →
    ∃ A', Rel K p H ((is.zip vs).foldl (fun σ iv => σ.set iv.1 (some iv.2)) σ) α' A' ∧ Step p H σ α A p H ((is.zip vs).foldl (fun σ iv => σ.set iv.1 (some iv.2)) σ) α' A'
  | [], _, _, p, H, σ, α, A, R, .nil, e => by cases e; exact ⟨A, R, .refl⟩
  | i :: is, _, _, p, H, σ, α, A, R, .nil, e => by cases e
  | [], _, _, p, H, σ, α, A, R, .cons _ _, e => by cases e
  | i :: is, _, _, p, H, σ, α, A, R, .cons d t, e => by
    simp only [setDs, Option.bind_eq_some_iff] at e
    obtain ⟨β, e1, e2⟩ := e
    obtain ⟨r, f1, f2, rfl⟩ := setD_some e1
    have ⟨R1, S1⟩ := rel_setD R d f1 f2
    obtain ⟨A', R2, S2⟩ := setDs_ok R1 t e2
    exact ⟨A', R2, S1.trans R S2⟩
theorem ref_par {i j : Nat} {ta : TA} {ma : MA} (ha : RefA K ta ma) : RefS K (tPar i j ta) (sPar [i, j] ma) := ⟨fun p H σ α A o D R e h => by
  simp only [sPar, Option.bind_eq_some_iff] at e
  obtain ⟨⟨ls, α1⟩, e1, xs, e2, β, e3, e4⟩ := e
  cases e4
  refine ha.go p H σ α A ls α1 _ R e1 fun p1 H1 A1 vs R1 S1 q => ?_
  have dz := ownA_dz R1 q e2
  obtain ⟨A2, R2, S2⟩ := setDs_ok R1 dz e3
  cases dz with
  | nil => cases e3
  | cons d1 t => cases t with
    | nil => simp [setDs] at e3
    | cons d2 t => cases t with
      | cons _ _ => simp [setDs] at e3
      | nil => exact ⟨_, _, rfl, h p1 H1 _ A2 R2 (S1.trans R S2)⟩⟩
theorem ref_lc {w : TI} {g : TG} {tt : TT} {te : TE} {vs : List Nat} {mi : MI} {mg : MG} {mt : MT} {me : ME} (hi : RefI K w mi) (hg : RefB K g mg vs) (ht : RefT K tt mt) (he : RefE K te me) :
    RefF K (tLc w g tt te vs) (fLc (cmI mi vs mg mt (mLc me))) := ref_fLc hi hg ht (ref_uLc he)
theorem ref_dcT {w : TI} {g : TG} {tt : TT} {tk tv : TE} {vs : List Nat} {mi : MI} {mg : MG} {mt : MT} {mk mv : ME} (hi : RefI K w mi) (hg : RefB K g mg vs) (ht : RefT K tt mt) (hk : RefE K tk mk) (hv : RefE K tv mv) :
    RefF K (tDcT w g tt tk tv vs) (fDcT (cmI mi vs mg mt (mDc keyT mk mv))) := ref_fDcT hi hg ht (ref_uDcT hk hv)
def tOrT (t u : TT) : TT := fun σ H Q => t σ H Q ∨ u σ H Q
theorem pt_orT {X : Cx} {e : Expr} {t u : TT} (a : PT X e t) (b : PT X e u) : PT X e (tOrT t u) := ⟨fun pins s σ H Q I h => h.elim (a.run pins s σ H Q I) (b.run pins s σ H Q I)⟩
theorem ref_testOr {t u : TE} {m : ME} (h : RefE K (tOrE t u) m) : RefT K (tOrT (tB t) (tB u)) (tOfE m) := ⟨fun p H σ α A b α' Q R e q => (ref_tB h).go p H σ α A b α' Q R e q⟩
end
end Vm
namespace Vm
open PySem PySem.Spec PyProof.Rows L2 Gk
theorem hu64_of {k : Nat} {A : Around} (h : Room k A) : A.units + 64 < cLine := by have := h.un; omega
theorem hu70_of {k : Nat} {A : Around} (h : Room k A) : A.units + 70 < cLine := by have := h.un; omega
theorem hu65_of {k : Nat} {A : Around} (h : Room k A) : A.units + 65 < cLine := by have := h.un; omega
section
variable {K : PySem.W.Frag} {p p' p2 : List Addr} {H H' H2 : Hp} {σ σ' σ2 : L2.St} {α α' α2 α0 : AS} {A A' A2 : FT}
theorem ref_big {ta : TA} (h : ∀ σ H Q, Q [V.str bigS] H → ta σ H Q) : RefE K (tCB rBig ta) eBig := ⟨fun p H σ α A l α' Q R e q => by
  cases e
  exact h σ H _ ⟨rfl, q p H A _ R .refl (.int _)⟩⟩
def tLkA (td : TE) : TE := fun σ H Q => td σ H fun x H1 => (∃ d u, x = .ref d ∧ H1 d = some u ∧ Mut (some u) ∧ ∀ od, Q x (upd H1 d (.frz od u))) ∨ Q x H1
theorem pe_lkA {X : Cx} {e : Expr} {td : TE} (he : PE X e td) : PE X e (tLkA td) := ⟨fun pins s σ H Q I h => by
  refine thn (he.run pins s σ H _ I h) fun u s1 ⟨x, H1, I1, rx, q⟩ => ?_
  rcases q with ⟨d, o, rfl, hd, mu, q⟩ | q
  · obtain ⟨od, I2⟩ := I1.lock hd mu
    exact ⟨_, _, I2, rx, q od⟩
  · exact ⟨x, H1, I1, rx, q⟩⟩
theorem dict_na {o u : HO} (hi : HO.isDict o = true) (e : o = u) : HO.isTbl u = false ∧ ∀ φ, u ≠ .ext φ := by
  subst e
  cases o with
  | dK _ => exact ⟨rfl, fun φ z => by cases z⟩
  | dT _ => exact ⟨rfl, fun φ z => by cases z⟩
  | _ => exact (Bool.false_ne_true hi).elim
theorem rel_lockD {d : Addr} {o : HO} {od : Obj} (R : Rel K p H σ α A) (hd : d ∉ p) (ho : H d = some o) (hi : HO.isDict o = true) :
    Rel K p (L2.upd H d (.frz od o)) σ α A ∧ Step p H σ α A p (L2.upd H d (.frz od o)) σ α A ∧ Tr p H p (L2.upd H d (.frz od o)) := by
  have nd : ∀ b u, HO.isDict u = false → H b = some u → b ≠ d := fun b u n e z => by subst z; rw [ho] at e; cases e; rw [n] at hi; cases hi
  have t : Tr p H p (L2.upd H d (.frz od o)) := by
    refine ⟨fun b u _ n r => ⟨?_, n⟩, fun b xs n r => ?_, fun b xs r => ?_, fun b o' u n r => ?_⟩
    · rcases r with r | ⟨o', r⟩
      · by_cases z : b = d
        · subst z; rw [ho] at r; cases r; exact .inr ⟨od, upd_same⟩
        · exact .inl (by rw [upd_ne z]; exact r)
      · exact .inr ⟨o', by rw [upd_ne (nd b _ rfl r)]; exact r⟩
    · rw [upd_ne (nd b _ rfl r)]; exact r
    · rw [upd_ne (nd b _ rfl r)]; exact r
    · rw [upd_ne (nd b _ rfl r)]; exact r
  refine ⟨⟨R.len, fun i r e => (R.sl i r e).tr t fun c m u hu => ?_, R.out, R.nd, R.dj, R.inp, fun b m z => ?_, R.tb.put (fun b u ne e => by rw [upd_ne ne]; exact e) (fun u e => dict_na hi (Option.some.inj (ho.symm.trans e))) fun b m => .inl m⟩, ⟨fun b u _ e n => ?_, fun b e => ?_, fun i b m => .inl m, fun b m => .inl m, fun b m => .inl m, rfl, fun i r e f => ⟨rfl, r, e, .refl⟩, fun i r e f => ⟨r, e, f⟩⟩, t⟩
  · rw [upd_ne (fun z => by subst z; exact hd (R.inp i c m))]; exact hu
  · by_cases y : b = d
    · subst y; exact hd m
    · rw [upd_ne y] at z; exact R.al b m z
  · by_cases z : b = d
    · subst z; rw [ho] at e; cases e; exact .inr ⟨hd, hi, od, upd_same⟩
    · exact .inl (by rw [upd_ne z]; exact e)
  · by_cases z : b = d
    · subst z; rw [upd_same] at e; cases e
    · rw [upd_ne z] at e; exact e
def kD : Key → Da
  | .inl i => .int i
  | .inr s => .str s
theorem key_dz {k : Key} (h : KeyOk k) : Dz K p H (kV k) (kD k) := by
  cases k with
  | inl i => exact .int i
  | inr s => exact .str s h
theorem keys_dz : ∀ {ks : List Key}, (∀ x ∈ ks, KeyOk x) → DzA K p H (ks.map kV) (ks.map kD)
  | [], _ => .nil
  | k :: ks, h => .cons (key_dz (h k (List.mem_cons_self ..))) (keys_dz fun x m => h x (List.mem_cons_of_mem _ m))
theorem DzK.at : ∀ {xs : List (Key × V)} {ds : List (Key × Da)}, DzK K p H xs ds → ∀ {i : Nat} {k : Key} {v : V}, xs[i]? = some (k, v) → ∃ d, ds[i]? = some (k, d) ∧ KeyOk k ∧ Dz K p H v d
  | _, _, .nil, i, k, v, e => by simp at e
  | _, _, .cons h d t, 0, k, v, e => by cases e; exact ⟨_, rfl, h, d⟩
  | _, _, .cons h d t, i + 1, k, v, e => by
    obtain ⟨d, h1, h2⟩ := DzK.at t (i := i) (by simpa using e)
    exact ⟨d, by simpa using h1, h2⟩
theorem DzT.at : ∀ {xs : List (List Key × V)} {ds : List (List Key × Da)}, DzT K p H xs ds → ∀ {i : Nat} {k : List Key} {v : V}, xs[i]? = some (k, v) → ∃ d, ds[i]? = some (k, d) ∧ ((∀ x ∈ k, KeyOk x) ∧ k.length ≤ LIM) ∧ Dz K p H v d
  | _, _, .nil, i, k, v, e => by simp at e
  | _, _, .cons h d t, 0, k, v, e => by cases e; exact ⟨_, rfl, h, d⟩
  | _, _, .cons h d t, i + 1, k, v, e => by
    obtain ⟨d, h1, h2⟩ := DzT.at t (i := i) (by simpa using e)
    exact ⟨d, by simpa using h1, h2⟩
/-- the keys of a dict as data -/
def keysOf : Da → Option (List Da)
  | .dk kvs => some (kvs.map fun kv => kD kv.1)
  | .dt kvs => some (kvs.map fun kv => .tuple (kv.1.map kD))
  | _ => none
def iKey (ma : ME) : MI := fun α => (ma α).bind fun l => (own l.2 l.1).bind fun x => (keysOf x).bind fun ks => some ((ks, []), l.2)
theorem itk_ok {d : Addr} {od : Obj} {kvs : List (Key × V)} {ds : List (Key × Da)} (hd : d ∉ p) (ho : H d = some (.frz od (.dK kvs))) (dz : DzK K p H kvs ds) : ItR K p H σ α (Itk d od kvs) (ds.map fun kv => kD kv.1) [] := ⟨fun p1 H1 σ1 α1 A1 R1 t _ => by
  have h1 := t.fz d od _ hd ho
  refine ⟨fun n x hx => ?_, h1, by rw [List.length_map, ← dz.length]; exact Nat.le_refl _⟩
  have hn : n < kvs.length := by have := getElem?_lt hx; rw [List.length_map, ← dz.length] at this; exact this
  refine ⟨⟨h1, hn⟩, fun v H2 z => ?_⟩
  obtain ⟨rfl, k, w, e1, rfl⟩ := z
  obtain ⟨d', e2, ok, _⟩ := dz.at e1
  rw [List.getElem?_map, e2] at hx
  cases hx
  exact ⟨Same.refl _, key_dz ok⟩⟩
theorem itkt_ok {d : Addr} {od : Obj} {kvs : List (List Key × V)} {ds : List (List Key × Da)} (hd : d ∉ p) (ho : H d = some (.frz od (.dT kvs))) (dz : DzT K p H kvs ds) : ItR K p H σ α (Itkt d od kvs) (ds.map fun kv => .tuple (kv.1.map kD)) [] := ⟨fun p1 H1 σ1 α1 A1 R1 t _ => by
  have h1 := t.fz d od _ hd ho
  refine ⟨fun n x hx => ?_, h1, by rw [List.length_map, ← dz.length]; exact Nat.le_refl _⟩
  have hn : n < kvs.length := by have := getElem?_lt hx; rw [List.length_map, ← dz.length] at this; exact this
  refine ⟨⟨h1, hn⟩, fun v H2 z => ?_⟩
  obtain ⟨rfl, k, w, q, e1, rfl, hq⟩ := z
  obtain ⟨d', e2, ok, _⟩ := dz.at e1
  rw [List.getElem?_map, e2] at hx
  cases hx
  exact ⟨Same.refl _, .tup hq (by rw [List.length_map]; exact ok.2) (keys_dz ok.1)⟩⟩
theorem ref_iKeys {td : TE} {ma : ME} (ha : RefE K td ma) : RefI K (iKeys (tLkA td)) (iKey ma) := ⟨fun p H σ α A x α' Rr R e h => by
  simp only [iKey, Option.bind_eq_some_iff] at e
  obtain ⟨⟨l, α1⟩, e1, y, e2, ks, e3, e4⟩ := e
  cases e4
  refine ha.go p H σ α A l α1 _ R e1 fun p1 H1 A1 v R1 S1 q1 => ?_
  have dz := own_dz R1 q1 e2
  cases dz with
  | dk n r hl ds =>
    cases e3
    rcases r with r | ⟨od, r⟩
    · left
      refine ⟨_, _, rfl, r, trivial, fun od => ⟨_, od, rfl, .inl ⟨_, upd_same, ?_⟩⟩⟩
      obtain ⟨R2, S2, t⟩ := rel_lockD (od := od) R1 n r rfl
      exact h p1 _ A1 _ R2 (S1.trans R S2) (itk_ok n upd_same (ds.tr t)) lockable_nil
    · right
      exact ⟨_, od, rfl, .inl ⟨_, r, h p1 H1 A1 _ R1 S1 (itk_ok n r ds) lockable_nil⟩⟩
  | dt n r hl ds =>
    cases e3
    rcases r with r | ⟨od, r⟩
    · left
      refine ⟨_, _, rfl, r, trivial, fun od => ⟨_, od, rfl, .inr ⟨_, upd_same, ?_⟩⟩⟩
      obtain ⟨R2, S2, t⟩ := rel_lockD (od := od) R1 n r rfl
      exact h p1 _ A1 _ R2 (S1.trans R S2) (itkt_ok n upd_same (ds.tr t)) lockable_nil
    · right
      exact ⟨_, od, rfl, .inr ⟨_, r, h p1 H1 A1 _ R1 S1 (itkt_ok n r ds) lockable_nil⟩⟩
  | _ => cases e3⟩
/-- a text, sign by sign -/
def iSgn (ma : ME) : MI := fun α => (ma α).bind fun l => (own l.2 l.1).bind fun x => match x with
  | .str z => some ((signsD z, []), l.2)
  | _ => none
theorem its_ok {z : Str} : ItR K p H σ α (Its z) (signsD z) [] := ⟨fun p1 H1 σ1 α1 A1 R1 t _ => by
  refine ⟨fun n x hx => ?_, by simp [Its, signsD]⟩
  unfold signsD at hx
  rw [List.getElem?_map] at hx
  obtain ⟨c, hc, rfl⟩ := Option.map_eq_some_iff.mp hx
  have hn := getElem?_lt hc
  rw [Array.length_toList] at hn
  refine ⟨hn, fun v H2 y => ?_⟩
  obtain ⟨rfl, c', e1, rfl⟩ := y
  rw [Array.getElem?_toList, e1] at hc
  cases hc
  exact ⟨Same.refl _, .str _ (by show 1 ≤ SLIM; decide)⟩⟩
theorem ref_iSgn {td : TE} {ma : ME} (ha : RefE K td ma) : RefI K (iStr td) (iSgn ma) := ⟨fun p H σ α A x α' Rr R e h => by
  simp only [iSgn, Option.bind_eq_some_iff] at e
  obtain ⟨⟨l, α1⟩, e1, y, e2, e3⟩ := e
  split at e3
  · rename_i z
    cases e3
    refine ha.go p H σ α A l _ _ R e1 fun p1 H1 A1 v R1 S1 q1 => ?_
    obtain ⟨rfl, _⟩ := vz_str (.of (own_dz R1 q1 e2))
    exact ⟨z, rfl, h p1 H1 A1 _ R1 S1 its_ok lockable_nil⟩
  · cases e3⟩
/-- whatever is walked -/
def iAny (ma : ME) : MI := fun α => (iLst ma α).or ((iTpl ma α).or ((iKey ma α).or (iSgn ma α)))
def iA (K : PySem.W.Frag) (t : TE) : TI := iOr (iList K t) (iOr (iTup K t) (iOr (iKeys (tLkA t)) (iStr t)))
theorem pi_any {X : Cx} {tg e : Expr} {t : TE} (hK : X.K = K) (he : PE X e t) : PI X tg e (iA K t) := by
  subst hK
  exact pi_or (pi_list he) (pi_or (pi_tup he) (pi_or (pi_keys (pe_lkA he)) (pi_str he)))
theorem ref_iAny {t : TE} {ma : ME} (ha : RefE K t ma) : RefI K (iA K t) (iAny ma) := ⟨fun p H σ α A x α' Rr R e h => by
  unfold iAny at e
  cases e1 : iLst ma α with
  | some y => rw [e1] at e; cases e; exact .inl ((ref_iList ha).go p H σ α A x α' Rr R e1 h)
  | none =>
    rw [e1, Option.none_or] at e
    cases e2 : iTpl ma α with
    | some y => rw [e2] at e; cases e; exact .inr (.inl ((ref_iTup ha).go p H σ α A x α' Rr R e2 h))
    | none =>
      rw [e2, Option.none_or] at e
      cases e3 : iKey ma α with
      | some y => rw [e3] at e; cases e; exact .inr (.inr (.inl ((ref_iKeys ha).go p H σ α A x α' Rr R e3 h)))
      | none =>
        rw [e3, Option.none_or] at e
        exact .inr (.inr (.inr ((ref_iSgn ha).go p H σ α A x α' Rr R e h)))⟩
def rLtD (K : PySem.W.Frag) : R2 := fun x y H Q => ∃ d e, Dp K H x d ∧ Dp K H y e ∧ PySem.W.alike d e = true ∧ d ≠ .none ∧ d.depth ≤ 64 ∧ Q (.bl (PySem.W.dataLt d e)) H
theorem op_ltD {X : Cx} (hK : X.K = K) (hu : X.A.units + 70 < cLine) : OpR X (compareOp .Lt) (rLtD K) := by
  subst hK
  intro pins s σ H x y v u Q I rx ry h
  obtain ⟨d, e, hd, he, al, nn, dp, q⟩ := h
  obtain ⟨as, r1⟩ := Dp.reads I d x v hd rx
  obtain ⟨bs, r2⟩ := Dp.reads I e y u he ry
  refine PySem.W.lt_data r1 r2 al nn ?_ ⟨.bl _, H, I, rfl, q⟩
  have : min d.depth e.depth ≤ d.depth := Nat.min_le_left _ _
  omega
def rLtA (K : PySem.W.Frag) : R2 := rOr (rI0 fun i j => .bl (decide (i < j))) (rLtD K)
theorem op_ltA {X : Cx} (hK : X.K = K) (hu : X.A.units + 70 < cLine) : OpR X (compareOp .Lt) (rLtA K) := opr_or op_lt (op_ltD hK hu)
def fLtA : Da → Da → Option Da
  | .int i, .int j => some (.bool (decide (i < j)))
  | a, b => (toPy a).bind fun d => (toPy b).bind fun e => match d with
    | .none => none
    | d => if PySem.W.alike d e = true ∧ d.depth ≤ 64 then some (.bool (PySem.W.dataLt d e)) else none
theorem rr_ltA : RefR2 K (rLtA K) fLtA := fun p H x y a b c Q al va vb e q => by
  unfold fLtA at e
  split at e
  · cases e
    cases vz_int va
    cases vz_int vb
    exact .inl ⟨_, _, rfl, rfl, q _ H (Same.refl H) (.bl _)⟩
  · simp only [Option.bind_eq_some_iff] at e
    obtain ⟨d, e1, f, e2, e3⟩ := e
    split at e3
    · cases e3
    · rename_i nn
      split at e3
      · rename_i hc
        cases e3
        exact .inr ⟨d, f, vz_dp va e1, vz_dp vb e2, hc.1, nn, hc.2, q _ H (Same.refl H) (.bl _)⟩
      · cases e3
end
end Vm
namespace Gk
open PySem PySem.Spec PyProof.Rows L2
end Gk
namespace Gk
open PySem PySem.Spec PyProof.Rows L2
end Gk
namespace Vm
open PySem PySem.Spec PyProof.Rows L2 Gk
section
variable {P : Program} {w : World} {K : PySem.W.Frag} {mg : Str → Option Value} {base : Heap}
theorem okGN {x qual : Str} {params : Arguments} {body : List Stmt} {scope : Scope} {dvs : List V} {kws : List (Str × V)}
    {f : Addr} {fd : FuncData} {N ps : List Str} {k : Nat} {sp : Sp}
    (F : FunD K x qual params body scope dvs kws f fd) (S : FnScope N ps scope)
    (ar : ∀ vs H Q E, sp vs H Q E → vs.length = ps.length)
    (hb : ∀ (cdv : Value) (A : Around) (outer : List Env) (s : Shared) (H : Hp) (vs : List V) (Q : VK) (E : XK),
      A.guards = some [] → Room k (A.deeper (envOfC qual scope s.heap.objs.size f cdv)) → sp vs H Q E →
      ∃ t, PSs (cxOf CX0 P w K mg base N qual scope f cdv A outer s H E).nox body t ∧
        t { nx := fun _ H' => Q .non H', rt := Q } (start N vs) H) :
    FnG P w K mg base CX0 (k + 1) f fd ps sp :=
  okGD F S ar fun cdv A outer s H vs Q E hg hr h => let ⟨t, h1, h2⟩ := hb cdv A outer s H vs Q E hg hr h; ⟨t, h1.nox, h2⟩
end
theorem rep_zero (n : Nat) : repS "0" n = ⟨(List.replicate n 48).toArray⟩ := by
  unfold repS
  rw [show ("0" : Str).cps.toList = [48] from rfl]
  congr 2
  induction n with
  | zero => rfl
  | succ n ih => rw [List.replicate_succ, List.flatten_cons, ih]; rfl
theorem big_text1 : ("1" : Str) ++ repS "0" 900 = bigS := by
  rw [rep_zero, show ("1" : Str) = ⟨#[49]⟩ from rfl]
  show (⟨#[49] ++ (List.replicate 900 48).toArray⟩ : Str) = _
  unfold bigS bigC
  simp
theorem big_arg {σ : L2.St} {H : Hp} {Q : List V → Hp → Prop} (h : Q [V.str bigS] H) :
    tCons (tOp rAddS (tC (V.str "1")) (tOp (fun x y H Q => ∃ (z : Str) (k : Nat), x = .str z ∧ y = .int (k : Int) ∧ z.length * k ≤ 10000000 ∧ k ≤ 10000000 ∧ z.length ≤ 10000000 ∧ Q (.str (repS z k)) H) (tC (V.str "0")) (tC (V.int 900)))) tNil σ H Q :=
  ⟨"0", 900, rfl, rfl, by decide +kernel, by decide, by decide, "1", _, rfl, rfl, by rw [repS_length]; decide, by rw [big_text1]; exact h⟩
end Vm
namespace Vm
open PySem PySem.Spec PyProof.Rows L2 Gk
def ClKG (P : Program) (w : World) (K : PySem.W.Frag) (mg : Str → Option Value) (base : Heap) (k : Nat) (x : Str) (ps : List Str) (sp : Sp)
    (n : Nat) (ks : List Str) (gV : List V → List V → List V) : Prop :=
  ∃ f fd g, FnG P w K mg base CX0 k f fd ps sp ∧ mg x = some (.ref f) ∧ PySem.W.keepIn K (.ref f) = true ∧ KBn K fd ps n ks g gV
section
variable {X : Cx} {k j n : Nat} {x : Str} {ps ks : List Str} {sp : Sp} {p pos : Pos} {e : Expr} {es : List Expr} {t tk : TA} {kws : List Keyword} {gV : List V → List V → List V} {dvs : List V}
theorem goes_named {f : Addr} {fd : FuncData} {g : List Value → List Value → List Value} {pins : List (Addr × Obj)} {σ : L2.St} {H : Hp} {s : Shared} {Q : VK} {us ws : List Value} {vs zs : List V}
    (F : FnG X.prog X.w X.K X.mg X.base CX0 k f fd ps sp) (gd : X.A.guards = some []) (hr : Room k X.A) (hb : KBn X.K fd ps n ks g gV)
    (I : L2.Inv X pins σ H s) (r : Vals vs us) (rz : Vals zs ws) (l1 : vs.length = n) (l2 : zs.length = ks.length) (h : sp (gV vs zs) H Q E0) :
    wpAny (model X.prog X.w) X.A (call (.ref f) us (ks.zip ws)) (EP X pins σ Q) X.xe s := by
  have bt := hb.to s us ws I.kIn (by rw [← r.length]; exact l1) (by rw [← rz.length]; exact l2)
  apply wpAny_call
  apply codeAny_mono (F.go X.A X.stack s H ⟨us, ks.zip ws⟩ _ _ Q E0 gd hr I.env0 bt (hb.rel r rz) h)
  intro out s' q
  rcases out with e | fl
  · exact pass0 pins σ H s e s' I q
  · cases fl <;> first | exact I.after q | exact q.elim
theorem pe_clK0G (c : ClKG X.prog X.w X.K X.mg X.base k x ps sp 0 ks gV) (gd : X.A.guards = some []) (hr : Room j X.A) (hk : k ≤ j) (hg : Gl X x) (ha : PK X kws tk)
    (hall : (backToKw pos (keywordEach kws X.env)).all (·.1.isSome) = true := by rfl)
    (hks : (backToKw pos (keywordEach kws X.env)).filterMap (·.1) = ks := by rfl)
    (hdb : (x == ("__debug__" : Str)) = false := by decide)
    (hpl : (backToKw pos (keywordEach kws X.env)).any (·.1.isNone) = false := by rfl) :
    PE X (.Call (.Name x p) [] kws pos) (tCallN 0 ks.length sp gV E0 tNil tk) := by
  obtain ⟨f, fd, g, F, hm, kp, b⟩ := c
  constructor
  intro pins s σ H Q I h
  apply wpAny_Call_Name_kw
  apply ld_glob I hg hm _ hdb
  apply PySem.W.callWith_KW0 (h₀ := X.base) I.ok.mod.kin kp hall _ hpl
  apply thn (ha.run pos pins s σ H _ I h)
  rintro ws s2 ⟨zs, H2, I2, rz, l1, l2, q2⟩
  refine ⟨I2.kIn, ?_⟩
  rw [hks]
  exact goes_named (us := []) F gd (hr.mono hk) b I2 .nil rz l1 l2 q2
end
section
variable {K : PySem.W.Frag} {p p' p2 : List Addr} {H H' H2 : Hp} {σ σ' σ2 : L2.St} {α α' α2 α0 : AS} {A A' A2 : FT}
theorem DzK.keys : ∀ {xs : List (Key × V)} {ds : List (Key × Da)}, DzK K p H xs ds → xs.map (·.1) = ds.map (·.1)
  | _, _, .nil => rfl
  | _, _, .cons _ _ t => by rw [List.map_cons, List.map_cons, DzK.keys t]
end
end Vm
namespace Vm
open PySem PySem.Spec PyProof.Rows L2 Gk
end Vm
namespace Vm
open PySem PySem.Spec PyProof.Rows L2 Gk
end Vm
namespace Vm
open PySem PySem.Spec PyProof.Rows L2 Gk
section
variable {K : PySem.W.Frag} {p p' p2 : List Addr} {H H' H2 : Hp} {σ σ' σ2 : L2.St} {α α' α2 α0 : AS} {A A' A2 : FT}
def enuD (xs : List Da) : List Da := xs.mapIdx fun n x => .tuple [.int ((n : Nat) : Int), x]
end
end Vm
namespace Vm
open PySem PySem.Spec PyProof.Rows L2 Gk
/-- the first of that key, or one more -/
def putF {κ τ : Type} [DecidableEq κ] : List (κ × τ) → κ → τ → List (κ × τ)
  | [], k, v => [(k, v)]
  | (j, x) :: r, k, v => if j = k then (j, v) :: r else (j, x) :: putF r k v
section
variable {K : PySem.W.Frag} {p p' p2 : List Addr} {H H' H2 : Hp} {σ σ' σ2 : L2.St} {α α' α2 α0 : AS} {A A' A2 : FT}
theorem KidsK.val (k : Key) : ∀ {r : List (Key × V)} {s : List (Key × Da)} {as : List Addr}, KidsK K p H r s as → (valA s k = none ∧ valV r k = none) ∨ ∃ c x, valA s k = some x ∧ valV r k = some (.ref c) ∧ c ∈ as ∧ Top K p H false c x
  | _, _, _, .nil => .inl ⟨rfl, rfl⟩
  | _, _, _, .cons (k := j) (c := c) (x := x) h d t => by
    by_cases e : j = k
    · exact .inr ⟨c, x, by simp [valA, e], by rw [valV_pos (by exact e)], List.mem_cons_self .., d⟩
    · rcases KidsK.val k t with ⟨h1, h2⟩ | ⟨c', x', h1, h2, h3, h4⟩
      · exact .inl ⟨by simpa [valA, List.find?_cons, e] using h1, by rw [valV_neg (by exact e)]; exact h2⟩
      · exact .inr ⟨c', x', by simpa [valA, List.find?_cons, e] using h1, by rw [valV_neg (by exact e)]; exact h2, List.mem_cons_of_mem _ h3, h4⟩
theorem KidsK.put {k : Key} {c : Addr} {o' : HO} {x' : Da} (t : Tr p H p (L2.upd H c o')) (top : Top K p (L2.upd H c o') false c x') : ∀ {r : List (Key × V)} {s : List (Key × Da)} {as : List Addr}, KidsK K p H r s as → as.Nodup → valV r k = some (.ref c) → c ∈ as → KidsK K p (L2.upd H c o') r (putF s k x') as
  | _, _, _, .nil, _, e, _ => by cases e
  | _, _, _, .cons (k := j) (c := c0) (x := x) (as := as) h d r, nd, e, m => by
    obtain ⟨n1, n2⟩ := List.nodup_cons.mp nd
    by_cases z : j = k
    · rw [valV_pos (by exact z)] at e
      cases e
      rw [show putF ((j, x) :: _) k x' = (j, x') :: _ from if_pos z]
      exact .cons h top (r.tr t fun b mb o ho => (upd_ne (fun y : b = c => n1 (by rw [← y]; exact mb))).trans ho)
    · rw [valV_neg (by exact z)] at e
      have hc : c ∈ as := by
        rcases List.mem_cons.mp m with y | y
        · subst y
          rcases KidsK.val k r with ⟨_, h2⟩ | ⟨c', x', _, h2, h3, _⟩
          · rw [h2] at e; cases e
          · rw [h2] at e; cases e; exact h3
        · exact y
      rw [show putF ((j, x) :: _) k x' = (j, x) :: putF _ k x' from if_neg z]
      exact .cons h (d.tr t fun o ho => by rw [upd_ne (fun y => n1 (by rw [y]; exact hc))]; exact ho) (KidsK.put t top r n2 e hc)
theorem KidsK.add {k : Key} {c : Addr} {x : Da} (ok : KeyOk k) (top : Top K p H false c x) : ∀ {r : List (Key × V)} {s : List (Key × Da)} {as : List Addr}, KidsK K p H r s as → KidsK K p H (r ++ [(k, .ref c)]) (s ++ [(k, x)]) (as ++ [c])
  | _, _, _, .nil => .cons ok top .nil
  | _, _, _, .cons h d t => .cons h d (KidsK.add ok top t)
theorem KidsT.val (k : List Key) : ∀ {r : List (List Key × V)} {s : List (List Key × Da)} {as : List Addr}, KidsT K p H r s as → (valA s k = none ∧ valV r k = none) ∨ ∃ c x, valA s k = some x ∧ valV r k = some (.ref c) ∧ c ∈ as ∧ Top K p H false c x
  | _, _, _, .nil => .inl ⟨rfl, rfl⟩
  | _, _, _, .cons (k := j) (c := c) (x := x) h d t => by
    by_cases e : j = k
    · exact .inr ⟨c, x, by simp [valA, e], by rw [valV_pos (by exact e)], List.mem_cons_self .., d⟩
    · rcases KidsT.val k t with ⟨h1, h2⟩ | ⟨c', x', h1, h2, h3, h4⟩
      · exact .inl ⟨by simpa [valA, List.find?_cons, e] using h1, by rw [valV_neg (by exact e)]; exact h2⟩
      · exact .inr ⟨c', x', by simpa [valA, List.find?_cons, e] using h1, by rw [valV_neg (by exact e)]; exact h2, List.mem_cons_of_mem _ h3, h4⟩
theorem KidsT.put {k : List Key} {c : Addr} {o' : HO} {x' : Da} (t : Tr p H p (L2.upd H c o')) (top : Top K p (L2.upd H c o') false c x') : ∀ {r : List (List Key × V)} {s : List (List Key × Da)} {as : List Addr}, KidsT K p H r s as → as.Nodup → valV r k = some (.ref c) → c ∈ as → KidsT K p (L2.upd H c o') r (putF s k x') as
  | _, _, _, .nil, _, e, _ => by cases e
  | _, _, _, .cons (k := j) (c := c0) (x := x) (as := as) h d r, nd, e, m => by
    obtain ⟨n1, n2⟩ := List.nodup_cons.mp nd
    by_cases z : j = k
    · rw [valV_pos (by exact z)] at e
      cases e
      rw [show putF ((j, x) :: _) k x' = (j, x') :: _ from if_pos z]
      exact .cons h top (r.tr t fun b mb o ho => (upd_ne (fun y : b = c => n1 (by rw [← y]; exact mb))).trans ho)
    · rw [valV_neg (by exact z)] at e
      have hc : c ∈ as := by
        rcases List.mem_cons.mp m with y | y
        · subst y
          rcases KidsT.val k r with ⟨_, h2⟩ | ⟨c', x', _, h2, h3, _⟩
          · rw [h2] at e; cases e
          · rw [h2] at e; cases e; exact h3
        · exact y
      rw [show putF ((j, x) :: _) k x' = (j, x) :: putF _ k x' from if_neg z]
      exact .cons h (d.tr t fun o ho => by rw [upd_ne (fun y => n1 (by rw [y]; exact hc))]; exact ho) (KidsT.put t top r n2 e hc)
theorem KidsT.add {k : List Key} {c : Addr} {x : Da} (ok : (∀ x ∈ k, KeyOk x) ∧ k.length ≤ LIM) (top : Top K p H false c x) : ∀ {r : List (List Key × V)} {s : List (List Key × Da)} {as : List Addr}, KidsT K p H r s as → KidsT K p H (r ++ [(k, .ref c)]) (s ++ [(k, x)]) (as ++ [c])
  | _, _, _, .nil => .cons ok top .nil
  | _, _, _, .cons h d t => .cons h d (KidsT.add ok top t)
/-- what stands in an own dict of own things -/
theorem nest_atT {i : Nat} {fx : Bool} {s : List (List Key × Da)} (R : Rel K p H σ α A) (hi : α[i]? = some (.n fx false (.dt s))) : ∃ a as xs, σ[i]? = some (some (.ref a)) ∧ A i = a :: as ∧ H a = some (.dT xs) ∧ xs.length ≤ LIM ∧ KidsT K p H xs s as := by
  obtain ⟨v, hv⟩ := R.has hi (by intro z; cases z)
  obtain ⟨a, as, e, ha, xs, h1, h2, h3⟩ := R.sl i _ hi
  rw [join_of hv] at e
  cases e
  exact ⟨a, as, xs, hv, ha, h1, h2, h3⟩
/-- one of its own things changed at its place -/
theorem nest_putT {i : Nat} {fx : Bool} {s : List (List Key × Da)} {a c : Addr} {as : List Addr} {xs : List (List Key × V)} {k : List Key} {o o' : HO} {x' : Da} (R : Rel K p H σ α A) (hi : α[i]? = some (.n fx false (.dt s))) (hs : σ[i]? = some (some (.ref a))) (ha : A i = a :: as) (h1 : H a = some (.dT xs)) (h2 : xs.length ≤ LIM) (h3 : KidsT K p H xs s as)
    (hc : valV xs k = some (.ref c)) (mc : c ∈ as) (ho : H c = some o) (hn : HO.noTup o) (top : Top K p (L2.upd H c o') false c x') :
    Rel K p (L2.upd H c o') σ (α.set i (.n fx false (.dt (putF s k x')))) (setF A i (a :: as)) ∧ Step p H σ α A p (L2.upd H c o') σ (α.set i (.n fx false (.dt (putF s k x')))) (setF A i (a :: as)) := by
  have nd : (a :: as).Nodup := by rw [← ha]; exact R.nd i
  obtain ⟨n1, n2⟩ := List.nodup_cons.mp nd
  have am : ∀ b ∈ a :: as, b ∈ A i := fun b m => by rw [ha]; exact m
  have cm : c ∈ A i := am c (List.mem_cons_of_mem _ mc)
  have hp := R.inp i c cm
  have t := tr_upd (o' := o') hp ho hn
  refine root_core R hi ⟨rfl, rfl, rfl, fun z => by cases z⟩ (by rw [join_of hs]; exact ⟨a, as, rfl, rfl, xs, (upd_ne (fun z => n1 (by rw [z]; exact mc))).trans h1, h2, h3.put t top n2 hc mc⟩) t (fun b u e n => ?_) (fun b e => ?_) (fun b h => h) (fun b h => .inl h) (fun b h z => ?_) nd (fun b m => R.inp i b (am b m)) (fun b m => .inl (am b m))
  · rw [upd_ne (fun z => n (by rw [z]; exact cm))]; exact e
  · by_cases z : b = c
    · subst z; rw [upd_same] at e; cases e
    · rw [upd_ne z] at e; exact e
  · by_cases y : b = c
    · subst y; rw [upd_same] at z; cases z
    · rw [upd_ne y] at z; exact R.al b h z
end
end Vm
namespace Vm
open PySem PySem.Spec PyProof.Rows L2 Gk
section
variable {K : PySem.W.Frag} {p p' p2 : List Addr} {H H' H2 : Hp} {σ σ' σ2 : L2.St} {α α' α2 α0 : AS} {A A' A2 : FT}
structure RefP (K : PySem.W.Frag) (t : TE) (m : ME) : Prop where
  go : ∀ p H σ α A l α' Q, Rel K p H σ α A → m α = some (l, α') → (∀ v H', Same H H' → LocR K p H' σ v l → Q v H') → t σ H Q
theorem refp_int {i : Int} : RefP K (tC (.int i)) (eC (.int i)) := ⟨fun p H σ α A l α' Q R e h => by cases e; exact h _ H (Same.refl H) (.int i)⟩
theorem refp_var {i : Nat} : RefP K (tVar i) (eV i) := ⟨fun p H σ α A l α' Q R e h => by
  unfold eV at e
  have key : ∀ r, α[i]? = some r → r ≠ .un → some (Lc.s i, α) = some (l, α') → tVar i σ H Q := fun r q n e => by
    cases e
    obtain ⟨v, hv⟩ := R.has q n
    exact ⟨v, hv, h v H (Same.refl H) hv⟩
  split at e
  · cases e
  · cases e
  · rename_i n1 n2
    cases q : α[i]? with
    | none => exact (n2 q).elim
    | some r => exact key r q (fun z => by subst z; exact n1 q) e⟩
def AV.asN : AV → Option (Bool × Da)
  | .n f false x => some (f, x)
  | _ => none
def nestAt (α : AS) (i : Nat) : Option (Bool × Da) := (α[i]?).bind AV.asN
theorem nestAt_some {i : Nat} {f : Bool} {x : Da} (h : nestAt α i = some (f, x)) : α[i]? = some (.n f false x) := by
  obtain ⟨q, e1, e2⟩ := Option.bind_eq_some_iff.mp h
  rw [e1]
  cases q with
  | n a b c => cases b <;> cases e2; rfl
  | _ => cases e2
theorem putK_new {κ : Type} [DecidableEq κ] {xs : List (κ × V)} {k : κ} {v : V} (h : valV xs k = none) : putK xs k v = xs ++ [(k, v)] := by
  unfold putK
  rw [if_neg]
  intro z
  obtain ⟨y, m, e⟩ := List.any_eq_true.mp z
  unfold valV at h
  have := List.find?_eq_none.mp (Option.map_eq_none_iff.mp h) y m
  exact this e
theorem KidsK.len : ∀ {r : List (Key × V)} {s : List (Key × Da)} {as : List Addr}, KidsK K p H r s as → r.length = s.length
  | _, _, _, .nil => rfl
  | _, _, _, .cons _ _ t => congrArg (· + 1) (KidsK.len t)
theorem KidsT.len : ∀ {r : List (List Key × V)} {s : List (List Key × Da)} {as : List Addr}, KidsT K p H r s as → r.length = s.length
  | _, _, _, .nil => rfl
  | _, _, _, .cons _ _ t => congrArg (· + 1) (KidsT.len t)
end
end Vm
namespace Vm
open PySem PySem.Spec PyProof.Rows L2 Gk
theorem each_ix {β : Type} {R : Value → β → Prop} : ∀ {vs : List Value} {bs : List β}, vs.length = bs.length → (∀ (i : Nat) (v : Value) (b : β), vs[i]? = some v → bs[i]? = some b → R v b) → PySem.W.EachIs R vs bs
  | [], [], _, _ => .nil
  | v :: vs, b :: bs, hl, h => .cons (h 0 v b rfl rfl) (each_ix (by simpa using hl) fun i v b h1 h2 => h (i + 1) v b (by simpa using h1) (by simpa using h2))
  | [], _ :: _, hl, _ => by cases hl
  | _ :: _, [], hl, _ => by cases hl
def kPy : Key → PyData
  | .inl i => .int i
  | .inr s => .str s
def sortK (ks : List Key) : List Key := ks.mergeSort (PySem.W.dataLe false kPy)
def rSortDK : List V → Hp → VK → Prop := fun xs H Q => ∃ (a : Addr) (kvs : List (Key × V)), xs = [.ref a] ∧ Rd H a (.dK kvs) ∧ PySem.W.AllAlike ((kvs.map (·.1)).map kPy) ∧ PySem.W.Sortable ((kvs.map (·.1)).map kPy) ∧
    ∀ p : Addr, H p = none → Q (.ref p) (upd H p (.lst ((sortK (kvs.map (·.1))).map kV)))
theorem cr_sortDK {X : Cx} (calm : X.calm = true) (hu : X.A.units + 70 < cLine) : CallR X (.builtin "sorted") rSortDK := by
  intro pins s σ H xs us Q I r q
  obtain ⟨a, kvs, ex, hd, al, so, q⟩ := q
  subst ex
  obtain ⟨u, eu, rx⟩ := vals1 r
  subst eu
  cases rx
  obtain ⟨z, lo, vs, rel, dd⟩ := dk_rd I.hok hd
  obtain ⟨ep, hat⟩ := dd.dictAt
  have hkeys : vs.map (·.1) = kvs.map (·.1) := rel.keys.symm
  have hl : vs.length = kvs.length := by
    have e := congrArg List.length hkeys
    rw [List.length_map, List.length_map] at e
    exact e
  have h16 : vs.length ≤ sizeLine := by rw [hl]; exact z
  refine Calls.call_function_entry PyProof.Rows.kind_sorted PyProof.Rows.plain_sorted PyProof.Rows.entry_sorted (PyProof.Rows.args_sorted1 _) ?_
  unfold Builtin.«sorted»
  refine wpAny_bind (m := checkCount "sorted" 1 1 _) (wpAny_pure ?_)
  refine wpAny_bind (PySem.W.kdu_collect (A := X.A.in1) (PySem.W.kdl_dict (knd := mixKind X.prog X.w) (kvs := vs) (ep := ep) lo) (I.ok.hd calm) hat h16 fun h' tk acc hk hacc => ?_)
  have hal : acc.toList.length = (kvs.map (·.1)).length := by rw [Array.length_toList, hacc.1, hl, List.length_map]
  have shape : ∀ (j : Nat) (v : Value) (b : Key), acc.toList[j]? = some v → (kvs.map (·.1))[j]? = some b → (∃ i t, b = .inl i ∧ v = .int i t) ∨ ∃ y t, b = .inr y ∧ v = .str y t := fun j v b e eb => by
    obtain ⟨k, x, e1, e2⟩ := hacc.2 j v (by rw [← Array.getElem?_toList]; exact e)
    have e3 : (vs.map (·.1))[j]? = some k := by rw [List.getElem?_map, e1]; rfl
    rw [hkeys, eb] at e3
    cases e3
    rcases keyIs_shape (show keyIs b v = true from e2) with ⟨i, t, ek, ev⟩ | ⟨y, t, ek, ev⟩
    · exact .inl ⟨i, t, ek, ev⟩
    · exact .inr ⟨y, t, ek, ev⟩
  have e : PySem.W.EachIs (fun v k => RelV (kV k) v) acc.toList (kvs.map (·.1)) := each_ix hal fun j v b h1 h2 => by
    rcases shape j v b h1 h2 with ⟨i, t, rfl, rfl⟩ | ⟨y, t, rfl, rfl⟩
    · exact ⟨t, rfl⟩
    · exact ⟨t, rfl⟩
  have I1 : L2.Inv X pins σ H { s with heap := h', toks := tk } := I.kept hk
  refine wpAny_bind (wpAny_newList ?_ (by rw [hal, List.length_map]; exact z))
  have hoL : (h'.push (seqObj "list" acc.toList.toArray 0)).get? h'.objs.size = some (seqObj "list" acc.toList.toArray 0) := Heap.get?_push_size _ rfl
  show wpAny _ _ _ _ _ { s with heap := h'.push (seqObj "list" acc.toList.toArray 0), toks := tk }
  have er : PySem.W.EachIs (fun v k => ∃ as, Reads (h'.push (seqObj "list" acc.toList.toArray 0)) v (kPy k) as ∧ h'.objs.size ∉ as) acc.toList (kvs.map (·.1)) := each_ix hal fun j v b h1 h2 => by
    rcases shape j v b h1 h2 with ⟨i, t, rfl, rfl⟩ | ⟨y, t, rfl, rfl⟩
    · exact ⟨[], .int _ _, List.not_mem_nil⟩
    · exact ⟨[], .str _ _, List.not_mem_nil⟩
  have dep0 : ∀ k : Key, (kPy k).depth = 0 := fun k => by cases k <;> rfl
  refine wpAny_bind (wpAny_holding (PySem.W.list_sort_data (s := { s with heap := h'.push (seqObj "list" acc.toList.toArray 0), toks := tk }) hoL e er al so (by rw [List.length_map]; exact z) (fun b _ => by rw [dep0]; have : X.A.in1.units = X.A.units + 1 := rfl; omega) fun out ol eo => ?_))
  · have rv' : Vals ((sortK (kvs.map (·.1))).map kV) out := by
      have gen : ∀ {us : List Value} {bs : List Key}, PySem.W.EachIs (fun v k => RelV (kV k) v) us bs → Vals (bs.map kV) us := fun {us bs} h => by
        induction h with
        | nil => exact .nil
        | cons h _ ih => exact .cons h ih
      exact gen eo
    obtain ⟨e', he'⟩ := PyProof.Rows.sortedHeap_at (vs := acc.toList) (out := out.toArray) hoL
    have hlen : ((sortK (kvs.map (·.1))).map kV).length ≤ sizeLine := by
      unfold sortK
      rw [List.length_map, List.length_mergeSort, List.length_map]
      exact z
    refine wpAny_pure ⟨_, rfl, .ref h'.objs.size, upd H h'.objs.size (.lst _), I1.laid (t' := tk) (fun b u e => ?_) (Nat.le_refl _) (show ObjOk X.prog X.w _ _ _ (.lst ((sortK (kvs.map (·.1))).map kV)) from ⟨hlen, out, e', rv', he'⟩), rfl, q _ (I1.hok.fresh (Nat.le_refl _))⟩
    have hb : b < h'.objs.size := Heap.lt_size e
    rw [PyProof.Rows.sortedHeap_old (Nat.ne_of_lt hb) (by rw [size_push']; exact Nat.lt_succ_of_lt hb)]
    exact Heap.get?_push_of_some _ e
section
variable {K : PySem.W.Frag} {p p' p2 : List Addr} {H H' H2 : Hp} {σ σ' σ2 : L2.St} {α α' α2 α0 : AS} {A A' A2 : FT}
theorem DzK.oks : ∀ {xs : List (Key × V)} {ds : List (Key × Da)}, DzK K p H xs ds → ∀ k ∈ ds.map (·.1), KeyOk k
  | _, _, .nil, k, m => (List.not_mem_nil m).elim
  | _, _, .cons h _ t, k, m => by
    rw [List.map_cons] at m
    rcases List.mem_cons.mp m with rfl | m
    · exact h
    · exact DzK.oks t k m
open Classical in
noncomputable def fSortDK (ma : MA) : MF := fun α => (ma α).bind fun x => (resA x.2 x.1).bind fun a => match a with
  | [.dk kvs] => if PySem.W.AllAlike ((kvs.map (·.1)).map kPy) ∧ PySem.W.Sortable ((kvs.map (·.1)).map kPy) then some (.r (.list ((sortK (kvs.map (·.1))).map kD)), x.2) else none
  | _ => none
theorem ref_fSortDK {ta : TA} {ma : MA} (ha : RefA K ta ma) : RefF K (tCB rSortDK ta) (fSortDK ma) := ⟨fun p H σ α A r α' Q R e h => by
  simp only [fSortDK, Option.bind_eq_some_iff] at e
  obtain ⟨⟨ls, α1⟩, e1, a, e2, e3⟩ := e
  split at e3
  · rename_i kvs
    split at e3
    · rename_i hc
      cases e3
      refine ha.go p H σ α A ls _ _ R e1 fun p1 H1 A1 vs R1 S1 q1 => ?_
      obtain ⟨v, rfl, hv⟩ := vz1 (resA_vz R1 q1 e2)
      obtain ⟨ad, xs, rfl, h1, h2, h3⟩ := vz_dk hv
      have ek : xs.map (·.1) = kvs.map (·.1) := h3.keys
      refine ⟨ad, xs, rfl, h1, by rw [ek]; exact hc.1, by rw [ek]; exact hc.2, fun q hq => ?_⟩
      rw [ek]
      obtain ⟨R2, S2, nr⟩ := rel_new (o := .lst ((sortK (kvs.map (·.1))).map kV)) R1 hq
      refine h _ _ A1 q [] R2 (S1.trans R S2) (fresh_one (List.mem_cons_self ..) (S1.dom q hq) nr) ⟨rfl, _, upd_same, ?_, keys_dz fun k m => h3.oks k ((List.mergeSort_perm ..).subset m)⟩
      unfold sortK
      rw [List.length_map, List.length_mergeSort, ← ek, List.length_map]
      exact h2
    · cases e3
  · cases e3⟩
end
end Vm
namespace Vm
open PySem PySem.Spec PyProof.Rows L2 Gk
section
variable {K : PySem.W.Frag} {p p' p2 : List Addr} {H H' H2 : Hp} {σ σ' σ2 : L2.St} {α α' α2 α0 : AS} {A A' A2 : FT}
structure RefPA (K : PySem.W.Frag) (t : TA) (m : MA) : Prop where
  st : ∀ {α l α'}, m α = some (l, α') → α' = α
  go : ∀ p H σ α A l α' Q, Rel K p H σ α A → m α = some (l, α') → (∀ vs H', Same H H' → LocA K p H' σ vs l → Q vs H') → t σ H Q
theorem eV_st {i : Nat} {l : Lc} (e : eV i α = some (l, α')) : α' = α := by
  unfold eV at e
  split at e
  · cases e
  · cases e
  · cases e; rfl
theorem refpa_nil : RefPA K tNil aNil := ⟨fun e => by cases e; rfl, fun p H σ α A l α' Q R e h => by cases e; exact h [] H (Same.refl H) .nil⟩
theorem refpa_cons {ta : TE} {tr : TA} {ma : ME} {mr : MA} (st : ∀ {α l α'}, ma α = some (l, α') → α' = α) (ha : RefP K ta ma) (hr : RefPA K tr mr) : RefPA K (tCons ta tr) (aCons ma mr) :=
  ⟨fun {α l α'} e => by
    simp only [aCons, Option.bind_eq_some_iff] at e
    obtain ⟨⟨l1, α1⟩, e1, ⟨l2, α2⟩, e2, e6⟩ := e
    cases e6
    have := st e1
    have := hr.st e2
    simp_all,
  fun p H σ α A l α' Q R e h => by
    simp only [aCons, Option.bind_eq_some_iff] at e
    obtain ⟨⟨l1, α1⟩, e1, ⟨l2, α2⟩, e2, e6⟩ := e
    cases e6
    have := st e1
    subst this
    refine ha.go p H σ _ A l1 _ _ R e1 fun v H1 s1 q1 => ?_
    refine hr.go p H1 σ _ A l2 _ _ (R.same s1) e2 fun vs H2 s2 q2 => ?_
    exact h (v :: vs) H2 (s1.trans s2) (.cons (LocR.step (R.same s1) (.same s2) q1) q2)⟩
end
end Vm
namespace Vm
open PySem PySem.Spec PyProof.Rows L2 Gk
section
variable {K : PySem.W.Frag} {p p' p2 : List Addr} {H H' H2 : Hp} {σ σ' σ2 : L2.St} {α α' α2 α0 : AS} {A A' A2 : FT}
theorem DzT.keys : ∀ {xs : List (List Key × V)} {ds : List (List Key × Da)}, DzT K p H xs ds → xs.map (·.1) = ds.map (·.1)
  | _, _, .nil => rfl
  | _, _, .cons _ _ t => by rw [List.map_cons, List.map_cons, DzT.keys t]
theorem DzT.oks : ∀ {xs : List (List Key × V)} {ds : List (List Key × Da)}, DzT K p H xs ds → ∀ k ∈ ds.map (·.1), (∀ x ∈ k, KeyOk x) ∧ k.length ≤ LIM
  | _, _, .nil, k, m => (List.not_mem_nil m).elim
  | _, _, .cons h _ t, k, m => by
    rw [List.map_cons] at m
    rcases List.mem_cons.mp m with rfl | m
    · exact h
    · exact DzT.oks t k m
end
end Vm
namespace Vm
open PySem PySem.Spec PyProof.Rows L2 Gk
end Vm
namespace Vm
open PySem PySem.Spec PyProof.Rows L2 Gk
end Vm
namespace Vm
open PySem PySem.Spec PyProof.Rows L2 Gk
end Vm
namespace Vm
open PySem PySem.Spec PyProof.Rows L2 Gk
end Vm
namespace Vm
open PySem PySem.Spec PyProof.Rows L2 Gk
section
variable {K : PySem.W.Frag} {p p' p2 : List Addr} {H H' H2 : Hp} {σ σ' σ2 : L2.St} {α α' α2 α0 : AS} {A A' A2 : FT}
def iEnL (ma : MA) : MI := fun α => (ma α).bind fun l => (ownA l.2 l.1).bind fun x => match x with
  | [.list xs] => some ((enuD xs, []), l.2)
  | _ => none
theorem el_ok {a : Addr} {us : List V} {xs : List Da} (hp : a ∉ p) (ha : H a = some (.lst us)) (dx : DzA K p H us xs) : ItR K p H σ α (Ite K a) (enuD xs) [] := ⟨fun p1 H1 σ1 α1 A1 R1 t _ => by
  have ha1 := SqL.of (K := K) (t.ls _ _ hp ha)
  have dx1 := dx.tr t
  refine ⟨fun n x hx => ?_, us, ha1, ?_⟩
  · unfold enuD at hx
    rw [List.getElem?_mapIdx] at hx
    obtain ⟨y, hy, rfl⟩ := Option.map_eq_some_iff.mp hx
    obtain ⟨u, eu, du⟩ := dx1.get hy
    refine ⟨⟨us, u, ha1, eu⟩, fun r H3 q => ?_⟩
    obtain ⟨T, u', rfl, hT, rfl, q1⟩ := q
    have e1 := q1 _ ha1
    rw [eu] at e1
    cases e1
    have s := same_new (o := .tup [.int ((n : Nat) : Int), u]) hT
    exact ⟨s, .tup upd_same (show 2 ≤ LIM by decide) ((DzA.cons (.int _) (.cons du .nil)).tr (tr_same s))⟩
  · unfold enuD
    rw [List.length_mapIdx, dx.length]
    exact Nat.le_refl _⟩
theorem ref_iEnL {ta : TA} {ma : MA} (ha : RefA K ta ma) : RefI K (iEnum K ta) (iEnL ma) := ⟨fun p H σ α A x α' Rr R e h => by
  simp only [iEnL, Option.bind_eq_some_iff] at e
  obtain ⟨⟨ls, α1⟩, e1, y, e2, e3⟩ := e
  split at e3
  · rename_i xs
    cases e3
    refine ha.go p H σ α A ls _ _ R e1 fun p1 H1 A1 vs R1 S1 q1 => ?_
    cases ownA_dz R1 q1 e2 with
    | cons d1 r =>
      cases r
      cases d1 with
      | lst h0 h1 l1 z1 => exact ⟨_, _, rfl, .of h1, h p1 H1 A1 _ R1 S1 (el_ok h0 h1 z1) lockable_nil⟩
  · cases e3⟩
end
end Vm
namespace Vm
open PySem PySem.Spec PyProof.Rows L2 Gk
end Vm
namespace Gk
open PySem PySem.Spec PyProof.Rows L2
end Gk
namespace Vm
open PySem PySem.Spec PyProof.Rows L2 Gk
end Vm
namespace Vm
open PySem PySem.Spec PyProof.Rows L2 Gk
theorem pick_vals {xs : List V} {us : List Value} (h : Vals xs us) : ∀ is : List Nat, Vals (is.filterMap (xs[·]?)) (is.filterMap (us[·]?))
  | [] => .nil
  | i :: is => by
    rw [List.filterMap_cons, List.filterMap_cons]
    cases e : xs[i]? with
    | none =>
      have : us[i]? = none := by
        rw [List.getElem?_eq_none_iff] at e ⊢
        rw [← h.length]; exact e
      rw [this]
      exact pick_vals h is
    | some x =>
      obtain ⟨u, e2, r⟩ := h.get e
      rw [e2]
      exact .cons r (pick_vals h is)
end Vm
namespace Vm
open PySem PySem.Spec PyProof.Rows L2 Gk
def Wp {τ : Type} (o : Option τ) (Q : τ → Prop) : Prop := ∃ r, o = some r ∧ Q r
theorem Wp.mono {τ : Type} {o : Option τ} {Q R : τ → Prop} (h : Wp o Q) (i : ∀ r, Q r → R r) : Wp o R := let ⟨r, e, q⟩ := h; ⟨r, e, i r q⟩
theorem wp_some {τ : Type} {a : τ} {Q : τ → Prop} : Wp (some a) Q = Q a := propext ⟨fun ⟨_, e, q⟩ => by cases e; exact q, fun q => ⟨a, rfl, q⟩⟩
theorem wp_none {τ : Type} {Q : τ → Prop} : Wp none Q = False := propext ⟨fun ⟨_, e, _⟩ => (nomatch e), False.elim⟩
theorem wp_bind {τ υ : Type} {o : Option τ} {f : τ → Option υ} {Q : υ → Prop} : Wp (o.bind f) Q = Wp o fun a => Wp (f a) Q := propext ⟨fun ⟨r, e, q⟩ => by
  obtain ⟨a, e1, e2⟩ := Option.bind_eq_some_iff.mp e
  exact ⟨a, e1, r, e2, q⟩, fun ⟨a, e1, r, e2, q⟩ => ⟨r, Option.bind_eq_some_iff.mpr ⟨a, e1, e2⟩, q⟩⟩
theorem wp_if {τ : Type} {c : Prop} [Decidable c] {a b : Option τ} {Q : τ → Prop} : Wp (if c then a else b) Q = ((c → Wp a Q) ∧ (¬c → Wp b Q)) := by
  by_cases h : c <;> simp [h]
/-- a loop, by an invariant of the items that are behind and ahead -/
theorem for_wp {g : MG} {b : MS} {Q : Out → Prop} (I : List Da → List Da → AS → Prop)
    (step : ∀ done x rest α, I done (x :: rest) α → Wp (g x α) fun α1 => Wp (b α1) fun o => match o with
      | .nx α2 => I (done ++ [x]) rest α2
      | .ct α2 => I (done ++ [x]) rest α2
      | .bk α2 => Q (.bk α2)
      | .rt r α2 => Q (.rt r α2)) (fin : ∀ done α, I done [] α → Q (.nx α)) : ∀ xs done α, I done xs α → Wp (forL g b xs α) Q
  | [], done, α, h => ⟨_, rfl, fin done α h⟩
  | x :: xs, done, α, h => by
    unfold forL
    rw [wp_bind]
    refine (step done x xs α h).mono fun α1 h1 => ?_
    rw [wp_bind]
    refine h1.mono fun o h2 => ?_
    cases o with
    | nx α2 => exact for_wp I step fin xs _ α2 h2
    | ct α2 => exact for_wp I step fin xs _ α2 h2
    | bk α2 => exact ⟨_, rfl, h2⟩
    | rt r α2 => exact ⟨_, rfl, h2⟩
/-- the parts of a comprehension, one by one; the state is told by s -/
theorem cm_all {β S : Type} {vs : List Nat} {g : MG} {tt : MT} {u : AS → Option (List β × AS)} {St : S → AS} {OK : S → Prop} {P : Da → List β → Prop} : ∀ {xs : List Da} {s : S},
    (∀ x ∈ xs, ∀ s, OK s → Wp (g x (St s)) fun α1 => Wp (tt α1) fun c => if c.1 = true then Wp (u c.2) fun y => P x y.1 ∧ ∃ s', OK s' ∧ wipeA y.2 vs = St s' else P x [] ∧ ∃ s', OK s' ∧ wipeA c.2 vs = St s') →
    OK s → Wp (cmL vs g tt u xs (St s)) fun r => ∃ yss s', OK s' ∧ r = (yss.flatten, St s') ∧ Paired P xs yss
  | [], s, _, hs => ⟨_, rfl, [], s, hs, rfl, .nil⟩
  | x :: xs, s, h, hs => by
    unfold cmL
    rw [wp_bind]
    refine (h x (List.mem_cons_self ..) s hs).mono fun α1 h1 => ?_
    rw [wp_bind]
    refine h1.mono fun c h2 => ?_
    have rest : ∀ s', OK s' → Wp (cmL vs g tt u xs (St s')) fun r => ∃ yss s', OK s' ∧ r = (yss.flatten, St s') ∧ Paired P xs yss := fun s' hs' =>
      cm_all (fun x m => h x (List.mem_cons_of_mem _ m)) hs'
    by_cases hc : c.1 = true
    · rw [if_pos hc] at h2 ⊢
      rw [wp_bind]
      refine h2.mono fun y ⟨hp, s', hs', e⟩ => ?_
      rw [wp_bind, e]
      refine (rest s' hs').mono fun r ⟨yss, s2, h3, er, pr⟩ => ?_
      subst er
      rw [wp_some]
      exact ⟨y.1 :: yss, s2, h3, rfl, .cons hp pr⟩
    · rw [if_neg hc] at h2 ⊢
      obtain ⟨hp, s', hs', e⟩ := h2
      rw [e]
      refine (rest s' hs').mono fun r ⟨yss, s2, h3, er, pr⟩ => ?_
      subst er
      exact ⟨[] :: yss, s2, h3, rfl, .cons hp pr⟩
theorem ones_flat {β : Type} {P : Da → β → Prop} : ∀ {xs : List Da} {yss : List (List β)}, Paired (fun x ys => ∃ y, ys = [y] ∧ P x y) xs yss → ∃ ys, yss.flatten = ys ∧ Paired P xs ys
  | _, _, .nil => ⟨[], rfl, .nil⟩
  | _, _, .cons ⟨y, e, h⟩ t => by
    obtain ⟨ys, e2, p⟩ := ones_flat t
    subst e
    exact ⟨y :: ys, by rw [List.flatten_cons, e2]; rfl, .cons h p⟩
/-- a list comprehension without a test -/
theorem lc_wp {S : Type} {i : MI} {vs : List Nat} {g : MG} {me : ME} {St : S → AS} {OK : S → Prop} {P : Da → Da → Prop} {α : AS} {Q : Nw × AS → Prop}
    (hi : Wp (i α) fun x => ∃ s, OK s ∧ x.1.2 = [] ∧ noRoots x.2 vs ∧ wipeA x.2 vs = St s ∧ x.1.1.length ≤ LIM ∧
      (∀ y ∈ x.1.1, ∀ s, OK s → Wp (g y (St s)) fun α1 => Wp (me α1) fun l => Wp (own l.2 l.1) fun z => P y z ∧ ∃ s', OK s' ∧ wipeA l.2 vs = St s') ∧
      ∀ ys s', OK s' → Paired P x.1.1 ys → Q (.r (.list ys), backA x.2 (St s') vs)) : Wp (fLc (cmI i vs g tYesM (mLc me)) α) Q := by
  unfold fLc cmI
  rw [wp_bind, wp_bind]
  refine hi.mono fun x hx => ?_
  obtain ⟨s, hs, e1, nr, e2, hl, h, q⟩ := hx
  rw [e1, if_pos ⟨nr, fun i m => (List.not_mem_nil m).elim⟩, wp_bind, lockA_nil, e2]
  refine (cm_all (P := fun x ys => ∃ y, ys = [y] ∧ P x y) (fun y m s hs => ?_) hs).mono ?_
  · refine (h y m s hs).mono fun α1 h1 => ?_
    show Wp (some (true, α1)) _
    rw [wp_some]
    show Wp (mLc me α1) _
    unfold mLc
    rw [wp_bind]
    refine h1.mono fun l h2 => ?_
    rw [wp_bind]
    refine h2.mono fun z h3 => ?_
    rw [wp_some]
    exact ⟨⟨z, rfl, h3.1⟩, h3.2⟩
  · rintro r ⟨yss, s', hs', er, pr⟩
    subst er
    obtain ⟨ys, e, p2⟩ := ones_flat pr
    rw [wp_some, freeA_nil, wp_if]
    have hlen : ys.length = x.1.1.length := (paired_len p2).symm
    refine ⟨fun _ => ?_, fun z => (z ?_).elim⟩
    · rw [wp_some, e]
      exact q ys s' hs' p2
    · show yss.flatten.length ≤ LIM
      rw [e, hlen]
      exact hl
theorem lc_go {S : Type} {i : MI} {vs : List Nat} {g : MG} {me : ME} {St : S → AS} {OK : S → Prop} {P : Da → Da → Prop} {α α1 : AS} {Q : Nw × AS → Prop} {xs : List Da} {s : S}
    (hi : i α = some ((xs, []), α1)) (hs : OK s) (nr : noRoots α1 vs) (e2 : wipeA α1 vs = St s) (hl : xs.length ≤ LIM)
    (h : ∀ y ∈ xs, ∀ s, OK s → Wp (g y (St s)) fun α1 => Wp (me α1) fun l => Wp (own l.2 l.1) fun z => P y z ∧ ∃ s', OK s' ∧ wipeA l.2 vs = St s')
    (q : ∀ ys s', OK s' → Paired P xs ys → Q (.r (.list ys), backA α1 (St s') vs)) : Wp (fLc (cmI i vs g tYesM (mLc me)) α) Q :=
  lc_wp ⟨_, hi, s, hs, rfl, nr, e2, hl, h, q⟩
def rgN (n : Nat) : List Da := (List.range n).map fun k : Nat => Da.int (k : Int)
theorem rgN_len (n : Nat) : (rgN n).length = n := by unfold rgN; rw [List.length_map, List.length_range]
theorem rgN_mem {n : Nat} {x : Da} (h : x ∈ rgN n) : ∃ k : Nat, k < n ∧ x = .int (k : Int) := by
  unfold rgN at h
  obtain ⟨k, m, rfl⟩ := List.mem_map.mp h
  exact ⟨k, List.mem_range.mp m, rfl⟩
theorem noRoots_of {α : AS} {vs : List Nat} (h : (vs.all fun i => (α[i]?).all fun r => !r.isRoot) = true) : noRoots α vs := fun i m r e => by
  have h1 := List.all_eq_true.mp h i m
  rw [e] at h1
  simpa using h1
end Vm
namespace Vm
open PySem PySem.Spec PyProof.Rows L2 Gk
def lettersS : Str := "abcdefghijklmnopqrstuvwxyz"
def Tx (n : Nat) (x : Str) : Prop := x.length ≤ n ∧ ∀ c ∈ x.cps.toList, c < 1000000
theorem Tx.mono {n m : Nat} {x : Str} (h : Tx n x) (l : n ≤ m) : Tx m x := ⟨Nat.le_trans h.1 l, h.2⟩
theorem Tx.cat {n m : Nat} {x y : Str} (h : Tx n x) (k : Tx m y) : Tx (n + m) (x ++ y) := by
  refine ⟨?_, fun c hc => ?_⟩
  · rw [strLen_append]
    have := h.1
    have := k.1
    omega
  · have e : (x ++ y).cps.toList = x.cps.toList ++ y.cps.toList := by
      show (x.cps ++ y.cps).toList = _
      simp
    rw [e] at hc
    exact (List.mem_append.mp hc).elim (h.2 c) (k.2 c)
theorem Tx.cut {n : Nat} {x : Str} (h : Tx n x) (lo hi : Option Int) : Tx n (cutS x lo hi) := by
  refine ⟨Nat.le_trans (cutS_length x lo hi) h.1, fun c hc => h.2 c ?_⟩
  exact List.mem_of_mem_drop (List.mem_of_mem_take hc)
theorem Tx.one {c : Nat} (h : c < 1000000) : Tx 1 ⟨#[c]⟩ := ⟨Nat.le_refl 1, fun e he => by
  have : e = c := by simpa using he
  rw [this]; exact h⟩
theorem letters_small : ∀ c ∈ lettersS.cps.toList, c < 1000000 := by decide +kernel
/-- a name as it is drawn -/
def Nm (x : Str) : Prop := 1 ≤ x.length ∧ x.length ≤ 6 ∧ ∀ c ∈ x.cps.toList, c ∈ lettersS.cps.toList
theorem Nm.tx {x : Str} (h : Nm x) : Tx 6 x := ⟨h.2.1, fun c hc => letters_small c (h.2.2 c hc)⟩
theorem join_one {ys : List Str} (h : ∀ y ∈ ys, ∃ c, y = ⟨#[c]⟩ ∧ c ∈ lettersS.cps.toList) :
    (Txt.join "" ys).length = ys.length ∧ ∀ c ∈ (Txt.join "" ys).cps.toList, c ∈ lettersS.cps.toList := by
  rw [TL.join_eq]
  induction ys with
  | nil => exact ⟨rfl, fun c hc => absurd hc List.not_mem_nil⟩
  | cons y r ih =>
    obtain ⟨c, rfl, hc⟩ := h y (List.mem_cons_self ..)
    have ih := ih fun z hz => h z (List.mem_cons_of_mem _ hz)
    cases r with
    | nil => exact ⟨rfl, fun e he => by
        have : e = c := by simpa [Str.join] using he
        rw [this]; exact hc⟩
    | cons z r =>
      have e : Str.join "" (⟨#[c]⟩ :: z :: r) = (⟨#[c]⟩ ++ "" ++ Str.join "" (z :: r) : Str) := rfl
      rw [e]
      refine ⟨?_, fun e he => ?_⟩
      · rw [strLen_append, strLen_append, ih.1]
        show 1 + 0 + (r.length + 1) = r.length + 1 + 1
        omega
      · have q : ((⟨#[c]⟩ : Str) ++ "" ++ Str.join "" (z :: r)).cps.toList = c :: (Str.join "" (z :: r)).cps.toList := by
          show ((#[c] ++ #[]) ++ (Str.join "" (z :: r)).cps).toList = _
          simp
        rw [q] at he
        rcases List.mem_cons.mp he with z' | z'
        · rw [z']; exact hc
        · exact ih.2 e z'
theorem shown_z {z : Str} (h : Tx 6 z) : (PyData.str z).shown.length ≤ 62 := by
  have := StrLaws.reprText_len z fun c hc => Nat.lt_of_lt_of_le (h.2 c hc) (by decide)
  have := h.1
  show (reprText z).length ≤ 62
  omega
theorem all_sh : ∀ {ds : List PyData}, (∀ d ∈ ds, d.showable = true) → PyData.showableAll ds = true
  | [], _ => rfl
  | d :: ds, h => by
    simp only [PyData.showableAll, h d (List.mem_cons_self ..), all_sh fun e he => h e (List.mem_cons_of_mem _ he), Bool.and_self]
theorem all_dp {k : Nat} : ∀ {ds : List PyData}, (∀ d ∈ ds, d.depth ≤ k) → PyData.depthAll ds ≤ k
  | [], _ => by simp only [PyData.depthAll]; omega
  | d :: ds, h => by
    have h1 := h d (List.mem_cons_self ..)
    have h2 := all_dp fun e he => h e (List.mem_cons_of_mem _ he)
    simp only [PyData.depthAll]
    omega
theorem all_nd : ∀ {ds : List PyData}, (∀ d ∈ ds, d.hasDict = false) → PyData.hasDictAll ds = false
  | [], _ => rfl
  | d :: ds, h => by
    simp only [PyData.hasDictAll, h d (List.mem_cons_self ..), all_nd fun e he => h e (List.mem_cons_of_mem _ he), Bool.or_self]
theorem six_in : ∀ c ∈ ("abcxyz" : Str).cps.toList, c ∈ lettersS.cps.toList := by decide +kernel
def Ls (n : Nat) (x : Str) : Prop := x.length ≤ n ∧ ∀ c ∈ x.cps.toList, c ∈ lettersS.cps.toList
theorem Ls.cat {n m : Nat} {x y : Str} (h : Ls n x) (k : Ls m y) : Ls (n + m) (x ++ y) := by
  refine ⟨by rw [strLen_append]; exact Nat.add_le_add h.1 k.1, fun c hc => ?_⟩
  have e : (x ++ y).cps.toList = x.cps.toList ++ y.cps.toList := by
    show (x.cps ++ y.cps).toList = _
    simp
  rw [e] at hc
  exact (List.mem_append.mp hc).elim (h.2 c) (k.2 c)
theorem Ls.cut {n : Nat} {x : Str} (h : Ls n x) (lo hi : Option Int) : Ls n (cutS x lo hi) :=
  ⟨Nat.le_trans (cutS_length x lo hi) h.1, fun c hc => h.2 c (List.mem_of_mem_drop (List.mem_of_mem_take hc))⟩
theorem cut_both (x : Str) (k : Nat) : (cutS x none (some (k : Int))).length + (cutS x (some (k : Int)) none).length = x.length := by
  show (List.take _ _).toArray.size + (List.take _ _).toArray.size = _
  rw [List.size_toArray, List.size_toArray, List.length_take, List.length_take, List.length_drop, List.length_drop, Array.length_toList]
  have e1 : HT.sIx x.length x.length (some (k : Int)) = min k x.length := HT.sIx_nat _ _ k
  have e2 : HT.sIx x.length 0 (some (k : Int)) = min k x.length := HT.sIx_nat _ _ k
  have e3 : HT.sIx x.length 0 none = 0 := rfl
  have e4 : HT.sIx x.length x.length none = x.length := rfl
  rw [e1, e2, e3, e4]
  show min (min k x.cps.size - 0) (x.cps.size - 0) + min (x.cps.size - min k x.cps.size) (x.cps.size - min k x.cps.size) = x.cps.size
  omega
structure Sh (d : PyData) (k n : Nat) : Prop where
  ok : d.showable = true
  deep : d.depth ≤ k
  size : d.shown.length ≤ n
  clean : d.hasDict = false
theorem Sh.shows {d : PyData} {k n : Nat} (h : Sh d k n) (hk : k ≤ 30) (hn : n ≤ 16000000) : Shows d := ⟨h.ok, Nat.le_trans h.deep hk, Nat.le_trans h.size hn, .inl h.clean⟩
theorem Sh.mono {d : PyData} {k n k' n' : Nat} (h : Sh d k n) (hk : k ≤ k') (hn : n ≤ n') : Sh d k' n' := ⟨h.ok, Nat.le_trans h.deep hk, Nat.le_trans h.size hn, h.clean⟩
theorem tup_sh {ds : List PyData} {k n m : Nat} (h : ∀ d ∈ ds, Sh d k n) (hl : ds.length ≤ m) : Sh (.tuple ds) (k + 1) (m * (n + 2) + 3) := by
  refine ⟨all_sh fun d hd => (h d hd).ok, ?_, ?_, all_nd fun d hd => (h d hd).clean⟩
  · have := all_dp fun d hd => (h d hd).deep
    simp only [PyData.depth]
    omega
  · have := shown_tuple_le fun d hd => (h d hd).size
    have := Nat.mul_le_mul_right (n + 2) hl
    omega
theorem lst_sh {ds : List PyData} {k n m : Nat} (h : ∀ d ∈ ds, Sh d k n) (hl : ds.length ≤ m) : Sh (.list ds) (k + 1) (m * (n + 2) + 3) := by
  refine ⟨all_sh fun d hd => (h d hd).ok, ?_, ?_, all_nd fun d hd => (h d hd).clean⟩
  · have := all_dp fun d hd => (h d hd).deep
    simp only [PyData.depth]
    omega
  · have := shown_list_le fun d hd => (h d hd).size
    have := Nat.mul_le_mul_right (n + 2) hl
    omega
theorem small_ints : ∀ b : Fin 41, (PyData.int ((b.val : Nat) : Int)).showable = true ∧ (PyData.int ((b.val : Nat) : Int)).depth ≤ 0 ∧ (PyData.int ((b.val : Nat) : Int)).shown.length ≤ 2 ∧ (PyData.int ((b.val : Nat) : Int)).hasDict = false := by
  decide +kernel
theorem int_sh {b : Nat} (h : b < 41) : Sh (.int (b : Int)) 0 2 := let ⟨h1, h2, h3, h4⟩ := small_ints ⟨b, h⟩; ⟨h1, h2, h3, h4⟩
theorem str_sh {z : Str} (h : Nm z) : Sh (.str z) 0 62 := ⟨rfl, Nat.le_refl _, shown_z h.tx, rfl⟩
end Vm
namespace Wo
open PySem PySem.Spec PyProof.Rows L2 Gk Vm
noncomputable def m_law_pot : MS := (sSeq (sAsg (eOp fAdd (eOp fMul (eC (.int 3)) (eV 1)) (eScLen 0)) (setD 2))
  (sSeq (sIf (tOfE (eOp fLtA (eV 1) (eScLen 0))) (sAsg (eScIx 0 (eV 1)) (setD 2)) sNext)
  (sSeq (sAsg (eOp fMul (eOp fMod (eCB fAbs (aCons (eV 2) aNil)) eBig) (eCB fInt (aCons (eOp fGe (eCB fAbs (aCons (eV 2) aNil)) (eOp fPow (eC (.int 10)) (eC (.int 18)))) aNil))) (setD 3))
  (sRetF (fLst (aCons (eV 3) (aCons (eOp fMod (eOp fMul (eOp fAdd (eOp fAdd (eOp fMod (eV 2) (eC (.int 2305843009213693951))) (eOp fMul (eOp fMul (eC (.int 7919)) (eV 1)) (eV 1))) (eC (.int 11))) (eC (.int 48271))) (eC (.int 2305843009213693951))) aNil)))))))
noncomputable def F_law_pot : FV := mDef 2 4 m_law_pot
noncomputable def m_law_take : MS := (sSeq (sIf (tOfE (eOp fGt (eOp fSubs (eV 0) (eC (.int 0))) (eC (.int 0)))) (sSeq (sAsg (eOp fMod (eOp fSubs (eV 0) (eC (.int 0))) (eV 1)) (setD 2))
  (sSeq (sSetI 0 (eOp fDiv (eOp fSubs (eV 0) (eC (.int 0))) (eV 1)) (eC (.int 0)))
  (sRet (eV 2)))) sNext)
  (sSeq (sSetI 0 (eOp fMod (eOp fAdd (eOp fMul (eOp fSubs (eV 0) (eC (.int 1))) (eC (.int 1181783497276652981))) (eC (.int 12345678910987))) (eC (.int 2305843009213693951))) (eC (.int 1)))
  (sRet (eOp fMod (eOp fDiv (eOp fMod (eOp fMul (eOp fDiv (eOp fSubs (eV 0) (eC (.int 1))) (eC (.int 65537))) (eOp fAdd (eOp fMod (eOp fSubs (eV 0) (eC (.int 1))) (eC (.int 65537))) (eC (.int 3)))) (eC (.int 2305843009213693921))) (eC (.int 97))) (eV 1)))))
noncomputable def F_law_take : FV := mDef 2 3 m_law_take
noncomputable def m_law_of : MS := (sRet (eOp fSubs (eV 1) (eCall F_law_take [] (aCons (eV 0) (aCons (eCB fLenB (aCons (eV 1) aNil)) aNil)))))
noncomputable def F_law_of : FV := mDef 2 2 m_law_of
noncomputable def m_law_names : MS := (sSeq (sAsg (eJoin (eC (.str (Str.ofString ""))) (eF (fLc (cmI (iRg1 (aCons (eCall F_law_take [] (aCons (eV 0) (aCons (eC (.int 6)) aNil))) aNil)) [7] (setD 7) tYesM (mLc (eCall F_law_of [] (aCons (eV 0) (aCons (eF (fListM (aCons (eC (.str (Str.ofString "abcxyz"))) aNil))) aNil)))))))) (setD 2))
  (sSeq (sAsg (eTup (aCons (eCall F_law_take [] (aCons (eV 0) (aCons (eOp fAdd (eCB fLenB (aCons (eV 2) aNil)) (eC (.int 1))) aNil))) (aCons (eCall F_law_take [] (aCons (eV 0) (aCons (eC (.int 26)) aNil))) (aCons (eCall F_law_of [] (aCons (eV 0) (aCons (eF (fLst (aCons (eC (.int 1)) (aCons (eC (.int 3)) (aCons (eC (.int 5)) (aCons (eC (.int 7)) (aCons (eC (.int 9)) (aCons (eC (.int 11)) aNil)))))))) aNil))) aNil)))) (gTupD 3 (gsCons (setD 3) (gsCons (setD 4) (gsCons (setD 5) gsNil)))))
  (sSeq (sAsg (eF (fLc (cmI (iRg1 (aCons (eV 1) aNil)) [7] (setD 7) tYesM (mLc (eOp fSubs (eC (.str (Str.ofString "abcdefghijklmnopqrstuvwxyz"))) (eOp fMod (eOp fAdd (eV 4) (eOp fMul (eV 5) (eV 7))) (eC (.int 26)))))))) (setD 6))
  (sRet (eF (fSortM (aCons (eF (fLc (cmI (iAny (eV 6)) [8] (setD 8) tYesM (mLc (eOp fAdd (eOp fAdd (eSl (eV 2) oNone (oSome (eV 3))) (eV 8)) (eSl (eV 2) (oSome (eV 3)) oNone)))))) aNil)))))))
noncomputable def F_law_names : FV := mDef 2 9 m_law_names
noncomputable def m_law_web : MS := (sSeq (sAsgR 4 (fLst aNil))
  (sSeq (sForD (iRg1 (aCons (eV 1) aNil)) (setD 5) (sForD (iAny (eV 2)) (setD 6) (sSeq (sAsgR 7 (fDK false))
  (sSeq (sForD (iRg1 (aCons (eCall F_law_take [] (aCons (eV 0) (aCons (eOp fAdd (eV 3) (eC (.int 1))) aNil))) aNil)) (setD 8) (sSetI 7 (eC (.bool true)) (eCall F_law_take [] (aCons (eV 0) (aCons (eV 1) aNil)))))
  (sIf (tOfE (eEmp true (eV 7))) (sAppend 4 (aCons (eTup (aCons (eV 5) (aCons (eV 6) (aCons (eCB fTuple (aCons (eF (fSortDK (aCons (eV 7) aNil))) aNil)) aNil)))) aNil)) sNext)))))
  (sRet (eTup (aCons (eV 1) (aCons (eCB fTuple (aCons (eV 4) aNil)) aNil))))))
noncomputable def F_law_web : FV := mDef 4 9 m_law_web
end Wo
namespace Vm
open PySem PySem.W PySem.Spec PyProof.Rows L2 Gk
end Vm
namespace Vm
open PySem PySem.Spec PyProof.Rows L2 Gk
end Vm
namespace Wo
open PySem PySem.Spec PyProof.Rows L2 Gk Vm
noncomputable def m_posted_arms : MS := (sRet (eF (fDcT (cmI (iAny (eOp fSubs (eV 0) (eC (.int 1)))) [1] (setD 1) tYesM (mDc keyT (eSl (eV 1) oNone (oSome (eC (.int 2)))) (eOp fSubs (eV 1) (eC (.int 2))))))))
noncomputable def F_posted_arms : FV := mDef 1 2 m_posted_arms
end Wo
namespace Vm
open PySem PySem.Spec PyProof.Rows L2 Gk
end Vm
namespace Wo
open PySem PySem.Spec PyProof.Rows L2 Gk Vm
end Wo
namespace Vm
open PySem PySem.Spec PyProof.Rows L2 Gk
end Vm
namespace Vm
open PySem PySem.Spec PyProof.Rows L2 Gk
end Vm
namespace Vm
open PySem PySem.Spec PyProof.Rows L2 Gk
def pk {α : Type} (is : List Nat) (xs : List α) : List α := is.filterMap (xs[·]?)
def gQ (is : List Nat) (dvs : List V) : List V → List V → List V := fun us ws => pk is (us ++ ws ++ dvs)
def gP (is : List Nat) (ds : List Da) : List Lc → List Lc → List Lc := fun ls ms => pk is (ls ++ ms ++ ds.map Lc.d)
theorem paired_pk {α β : Type} {R : α → β → Prop} {xs : List α} {us : List β} (h : Paired R xs us) : ∀ is : List Nat, Paired R (pk is xs) (pk is us)
  | [] => .nil
  | i :: is => by
    unfold pk
    rw [List.filterMap_cons, List.filterMap_cons]
    have t := paired_pk h is
    unfold pk at t
    have key : ∀ {xs : List α} {us : List β} (_ : Paired R xs us) (i : Nat), (xs[i]? = none ∧ us[i]? = none) ∨ ∃ x u, xs[i]? = some x ∧ us[i]? = some u ∧ R x u := by
      intro xs us h
      induction h with
      | nil => exact fun i => .inl ⟨rfl, rfl⟩
      | cons a b ih =>
        intro i
        cases i with
        | zero => exact .inr ⟨_, _, rfl, rfl, a⟩
        | succ i => rw [List.getElem?_cons_succ, List.getElem?_cons_succ]; exact ih i
    rcases key h i with ⟨e1, e2⟩ | ⟨x, u, e1, e2, r⟩
    · rw [e1, e2]; exact t
    · rw [e1, e2]; exact .cons r t
section
variable {K : PySem.W.Frag}
theorem ref_callP {F : FV} {ta tk : TA} {ma mk : MA} {E : XK} {n m : Nat} {is : List Nat} {dvs : List V} {ds : List Da} (hd : DfA dvs ds) (ha : RefA K ta ma) (hk : RefA K tk mk) :
    RefE K (L2.tCallN n m (spV K F) (gQ is dvs) E ta tk) (eCallN n m F (gP is ds) ma mk) := ⟨fun p H σ α A l α' Q R e h => by
  simp only [eCallN, Option.bind_eq_some_iff] at e
  obtain ⟨⟨ls, α1⟩, e1, ⟨ks, α2⟩, e2, e3⟩ := e
  split at e3
  · rename_i hn
    simp only [Option.bind_eq_some_iff] at e3
    obtain ⟨⟨r, α3⟩, e4, e6⟩ := e3
    cases e6
    refine ha.go p H σ α A ls α1 _ R e1 fun p1 H1 A1 vs R1 S1 q1 => ?_
    refine hk.go p1 H1 σ α1 A1 ks α2 _ R1 e2 fun p2 H2 A2 zs R2 S2 q2 => ?_
    refine ⟨by rw [(locA_get q1).1]; exact hn.1, by rw [(locA_get q2).1]; exact hn.2, ?_⟩
    exact call_data R2 (paired_pk (paired_app (paired_app (q1.step R1 S2) q2) hd.loc) is) e4 fun p3 H3 A3 v R3 S3 dz => h p3 H3 A3 v R3 ((S1.trans R S2).trans R S3) dz
  · cases e3⟩
end
theorem vals_pk {xs : List V} {us : List Value} (h : Vals xs us) (is : List Nat) : Vals (pk is xs) (pk is us) := pick_vals h is
theorem vals_app {xs ys : List V} {us ws : List Value} (h : Vals xs us) (g : Vals ys ws) : Vals (xs ++ ys) (us ++ ws) := h.append g
section
variable {K : PySem.W.Frag} {y qual : Str} {params : Arguments} {body : List Stmt} {scope : Scope} {kwd : List (Str × V)} {f : Addr} {fd : FuncData} {ps ks : List Str} {n : Nat}
theorem kbn_p (is : List Nat) (F : FunD K y qual params body scope [] kwd f fd)
    (h : ∀ (kV doc pm : Value) (an : Option Addr) (cdv ct : Value) (us ws : List Value), us.length = n → ws.length = ks.length →
      bindArgs (PySem.W.fnOf y qual params body scope .none kV doc pm an cdv ct) ⟨us, ks.zip ws⟩ = pure (ps.zip (pk is (us ++ ws ++ [])))) :
    ∃ g, KBn K fd ps n ks g (gQ is []) :=
  ⟨_, kbn_mk F (g := fun us ws => pk is (us ++ ws ++ [])) (fun r1 r2 => vals_pk (vals_app (vals_app r1 r2) .nil) is) h⟩
end
end Vm
namespace Vm
open PySem PySem.Spec PyProof.Rows L2 Gk
end Vm
namespace Vm
open PySem PySem.Spec PyProof.Rows L2 Gk
section
variable {K : PySem.W.Frag} {p p' p2 : List Addr} {H H' H2 : Hp} {σ σ' σ2 : L2.St} {α α' α2 α0 : AS} {A A' A2 : FT}
theorem dz_erase : ∀ {vs : List V} {xs : List Da} (k : Nat), DzA K p H vs xs → DzA K p H (vs.eraseIdx k) (xs.eraseIdx k)
  | _, _, _, .nil => .nil
  | _, _, 0, .cons h t => t
  | _, _, k + 1, .cons h t => .cons h (dz_erase k t)
end
end Vm
namespace Vm
open PySem PySem.Spec PyProof.Rows L2 Gk
section
variable {K : PySem.W.Frag} {p p' p2 : List Addr} {H H' H2 : Hp} {σ σ' σ2 : L2.St} {α α' α2 α0 : AS} {A A' A2 : FT}
abbrev MM := AS → Option (List R1 × AS)
theorem NewR.keep {a : Addr} {as : List Addr} {r : Nw} (t : Tr p H p' H') (k : ∀ c ∈ a :: as, ∀ o, H c = some o → H' c = some o) (h : NewR K p H a as r) : NewR K p' H' a as r := by
  cases r with
  | r x => exact ⟨h.1, h.2.tr t fun o e => k a (List.mem_cons_self ..) o e⟩
  | n x => exact Nest.tr t k h
theorem ResL.keep (t : Tr p H p' H') : ∀ {vs : List V} {rs : List R1} {as : List Addr}, (∀ c ∈ as, ∀ o, H c = some o → H' c = some o) → ResL K p H vs rs as → ResL K p' H' vs rs as
  | _, _, _, k, .nil => .nil
  | _, _, _, k, .d h r => .d (h.tr t) (ResL.keep t k r)
  | _, _, _, k, .w h r => .w (h.keep t fun c m => k c (List.mem_append_left _ m)) (ResL.keep t (fun c m => k c (List.mem_append_right _ m)) r)
/-- what stands new stays so, while something else is told -/
theorem Fresh.step {as : List Addr} {H0 : Hp} (R : Rel K p H σ α A) (S : Step p H σ α A p' H' σ' α' A') (f : Fresh p H0 A as) : Fresh p' H0 A' as :=
  ⟨fun b m => by
      rcases S.mono b (f.inp b m) with h | ⟨i, h⟩
      · exact h
      · exact (f.noA b m i h).elim,
    f.non, fun b m i z => by
      rcases S.new i b z with h | h
      · exact f.noA b m i h
      · exact R.al b (f.inp b m) h, f.nd⟩
theorem Fresh.kept {as : List Addr} {H0 : Hp} (S : Step p H σ α A p' H' σ' α' A') (f : Fresh p H0 A as) (hs : ∀ c ∈ as, ∀ u, H c = some u → HO.isTbl u = false) : ∀ c ∈ as, ∀ o, H c = some o → H' c = some o := fun c m o e => (S.keep c o (hs c m o e) e fun i => f.noA c m i).exp (f.inp c m)
theorem Fresh.add {as bs : List Addr} {H0 : Hp} (R : Rel K p H σ α A) (dom : ∀ b, H b = none → H0 b = none) (S : Step p H σ α A p' H' σ' α' A') (f : Fresh p H0 A as) (g : Fresh p' H A' bs) : Fresh p' H0 A' (as ++ bs) := by
  have f' := f.step R S
  refine ⟨fun b m => ?_, fun b m => ?_, fun b m => ?_, ?_⟩
  · rcases List.mem_append.mp m with m | m
    · exact f'.inp b m
    · exact g.inp b m
  · rcases List.mem_append.mp m with m | m
    · exact f'.non b m
    · exact dom b (g.non b m)
  · rcases List.mem_append.mp m with m | m
    · exact f'.noA b m
    · exact g.noA b m
  · refine List.nodup_append.mpr ⟨f.nd, g.nd, fun a ma b mb e => ?_⟩
    subst e
    exact R.al a (f.inp a ma) (g.non a mb)
end
end Vm
namespace Vm
end Vm
namespace Wo
open PySem PySem.Spec PyProof.Rows L2 Gk Vm
end Wo
namespace Vm
open PySem PySem.Spec PyProof.Rows L2 Gk
end Vm
namespace Vm
open PySem PySem.Spec PyProof.Rows L2 Gk
end Vm
namespace Vm
open PySem PySem.Spec PyProof.Rows L2 Gk
end Vm
namespace Vm
open PySem PySem.Spec PyProof.Rows L2 Gk
section
variable {K : PySem.W.Frag}
theorem eOp_st {f : Da → Da → Option Da} {ma mb : ME} (sa : ∀ {α l α'}, ma α = some (l, α') → α' = α) (sb : ∀ {α l α'}, mb α = some (l, α') → α' = α) {α : AS} {l : Lc} {α' : AS} (e : eOp f ma mb α = some (l, α')) : α' = α := by
  simp only [eOp, Option.bind_eq_some_iff] at e
  obtain ⟨⟨l1, α1⟩, e1, ⟨l2, α2⟩, e2, a, e3, b, e4, c, e5, e6⟩ := e
  cases e6
  have h1 := sa e1
  have h2 := sb e2
  exact h2.trans h1
theorem refp_op {r : R2} {f : Da → Da → Option Da} {ta tb : TE} {ma mb : ME} (hr : RefR2 K r f) (sa : ∀ {α l α'}, ma α = some (l, α') → α' = α) (sb : ∀ {α l α'}, mb α = some (l, α') → α' = α) (ha : RefP K ta ma) (hb : RefP K tb mb) : RefP K (tOp r ta tb) (eOp f ma mb) := ⟨fun p H σ α A l α' Q R e h => by
  simp only [eOp, Option.bind_eq_some_iff] at e
  obtain ⟨⟨l1, α1⟩, e1, ⟨l2, α2⟩, e2, a, e3, b, e4, c, e5, e6⟩ := e
  cases e6
  obtain rfl := sa e1
  obtain rfl := sb e2
  refine ha.go p H σ _ A l1 _ _ R e1 fun v H1 s1 q1 => ?_
  have R1 := R.same s1
  refine hb.go p H1 σ _ A l2 _ _ R1 e2 fun w H2 s2 q2 => ?_
  have R2 := R1.same s2
  refine hr p H2 v w a b c _ R2.al (res_vz R2 (LocR.step R1 (.same s2) q1) e3) (res_vz R2 q2 e4) e5 fun z H3 s q => ?_
  exact h z H3 ((s1.trans s2).trans s) q⟩
theorem refp_sub {ta tb : TE} {ma mb : ME} (sa : ∀ {α l α'}, ma α = some (l, α') → α' = α) (sb : ∀ {α l α'}, mb α = some (l, α') → α' = α) (ha : RefP K ta ma) (hb : RefP K tb mb) : RefP K (tOrE (tOp rIxA ta tb) (tDGet ta tb)) (eOp fSubs ma mb) := ⟨fun p H σ α A l α' Q R e h => by
  have e0 := e
  simp only [eOp, Option.bind_eq_some_iff] at e
  obtain ⟨⟨l1, α1⟩, e1, ⟨l2, α2⟩, e2, a, e3, b, e4, c, e5, e6⟩ := e
  cases e6
  by_cases hd : a.isDict = true
  · right
    unfold fSubs at e5
    rw [if_pos hd] at e5
    obtain ⟨r, e7, e8⟩ := Option.bind_eq_some_iff.mp e5
    obtain rfl := sa e1
    obtain rfl := sb e2
    refine ha.go p H σ _ A l1 _ _ R e1 fun v H1 s1 q1 => ?_
    have R1 := R.same s1
    refine hb.go p H1 σ _ A l2 _ _ R1 e2 fun w H2 s2 q2 => ?_
    have R2 := R1.same s2
    obtain ⟨ad, o, rfl, g, _, z⟩ := look_get (res_vz R2 (LocR.step R1 (.same s2) q1) e3) (res_vz R2 q2 e4) e7
    rcases z with ⟨z, _⟩ | ⟨v, d, z1, z2, z3⟩
    · subst z; cases e8
    · subst z1
      cases e8
      subst z2
      exact ⟨ad, v, rfl, g, h v H2 (s1.trans s2) z3⟩
  · left
    refine (refp_op rr_ix sa sb ha hb).go p H σ α A _ α2 Q R ?_ h
    simp only [eOp, Option.bind_eq_some_iff]
    unfold fSubs at e5
    rw [if_neg hd] at e5
    exact ⟨_, e1, _, e2, a, e3, b, e4, c, e5, rfl⟩⟩
variable {p p' p2 : List Addr} {H H' H2 : Hp} {σ σ' σ2 : L2.St} {α α' α2 α0 : AS} {A A' A2 : FT}
end
end Vm
namespace Vm
open PySem PySem.Spec PyProof.Rows L2 Gk RT
end Vm
namespace Vm
open PySem PySem.Spec PyProof.Rows L2 Gk RT
end Vm
namespace Vm
open PySem PySem.Spec PyProof.Rows L2 Gk RT
end Vm
namespace Gk
open PySem PySem.Spec PyProof.Rows L2
end Gk
namespace Vm
open PySem PySem.Spec PyProof.Rows L2 Gk
end Vm
namespace Vm
open PySem PySem.Spec PyProof.Rows L2 Gk
/-- at the interpreter's own place of its modules something stands -/
def SysK (K : PySem.W.Frag) : Prop := ∃ o, K.lookup sysModules = some o
def keyPy : Key → PyData
  | .inl i => .int i
  | .inr s => .str s
mutual
def toPyY : Da → Option PyData
  | .none => some .none
  | .bool b => some (.bool b)
  | .int i => some (.int i)
  | .str s => if s.length ≤ 100000 then some (.str s) else none
  | .list xs => if xs.length ≤ 100000 then (toPysY xs).map .list else none
  | .tuple xs => if xs.length ≤ 100000 then (toPysY xs).map .tuple else none
  | .dk kvs => (toPysZ kvs).map .dict
  | .dt _ => none
def toPysY : List Da → Option (List PyData)
  | [] => some []
  | x :: xs => (toPyY x).bind fun d => (toPysY xs).bind fun ds => some (d :: ds)
def toPysZ : List (Key × Da) → Option (List (PyData × PyData))
  | [] => some []
  | (k, x) :: xs => (toPyY x).bind fun d => (toPysZ xs).bind fun ds => some ((keyPy k, d) :: ds)
end
end Vm
namespace Vm
open PySem PySem.Spec PyProof.Rows L2 Gk RT
end Vm
namespace Vm
open PySem PySem.Spec PyProof.Rows L2 Gk
theorem wp_asg {m : ME} {g : MG} {α : AS} {Q : Out → Prop} : Wp (sAsg m g α) Q = Wp (m α) fun x => Wp (own x.2 x.1) fun y => Wp (g y x.2) fun β => Q (.nx β) := by
  unfold sAsg; simp only [wp_bind, wp_some]
theorem wp_eF {m : MF} {α : AS} {Q : Lc × AS → Prop} : Wp (eF m α) Q = Wp (m α) fun x => Q (.d x.1.da, x.2) := by
  unfold eF; simp only [wp_bind, wp_some]
theorem wp_join {a : Str} {mb : ME} {α : AS} {Q : Lc × AS → Prop} : Wp (eJoin (eC (.str a)) mb α) Q = Wp (mb α) fun y => Wp (res y.2 y.1) fun b => Wp (fJoin (.str a) b) fun c => Q (.d c, y.2) := by
  unfold eJoin eC; simp only [wp_bind, wp_some, res, Option.bind_some]
theorem wp_seq {m n : MS} {α : AS} {Q : Out → Prop} : Wp (sSeq m n α) Q = Wp (m α) fun o => match o with | .nx β => Wp (n β) Q | o => Q o := by
  unfold sSeq
  rw [wp_bind]
  congr 1
  funext o
  cases o <;> simp [wp_some]
theorem wp_ret {m : ME} {α : AS} {Q : Out → Prop} : Wp (sRet m α) Q = Wp (m α) fun x => Q (.rt (.one x.1) x.2) := by
  unfold sRet; simp only [wp_bind, wp_some]
theorem wp_aCons {m : ME} {n : MA} {α : AS} {Q : List Lc × AS → Prop} : Wp (aCons m n α) Q = Wp (m α) fun x => Wp (n x.2) fun y => Q (x.1 :: y.1, y.2) := by
  unfold aCons; simp only [wp_bind, wp_some]
theorem wp_aNil {α : AS} {Q : List Lc × AS → Prop} : Wp (aNil α) Q = Q ([], α) := by unfold aNil; rw [wp_some]
theorem wp_sort {m : MA} {α : AS} {Q : Nw × AS → Prop} : Wp (fSortM m α) Q = Wp (m α) fun x => Wp (resA x.2 x.1) fun a => match a with
    | [.list xs] => Wp (sortD xs) fun ys => Q (.r (.list ys), x.2)
    | _ => False := by
  unfold fSortM
  simp only [wp_bind]
  congr 1
  funext x
  congr 1
  funext a
  split <;> simp [wp_bind, wp_some, wp_none]
theorem toPys_strs : ∀ zs : List Str, toPys (zs.map Da.str) = some (zs.map PyData.str)
  | [] => rfl
  | z :: zs => by simp [toPys, toPy, toPys_strs zs]
theorem strsD_map : ∀ zs : List Str, strsD (zs.map Da.str) = some zs
  | [] => rfl
  | z :: zs => by simp [strsD, strsD_map zs]
theorem rg1_go {ma : MA} {α α1 : AS} {ls : List Lc} {k : Nat} (e : ma α = some (ls, α1)) (e2 : resA α1 ls = some [.int (k : Int)]) (hk : k ≤ 1000000) : iRg1 ma α = some ((rgN k, []), α1) := by
  unfold iRg1
  rw [e, Option.bind_some]
  dsimp only
  rw [e2, Option.bind_some]
  dsimp only
  rw [if_pos ⟨by omega, by omega⟩]
  rfl
theorem all_of_paired {τ υ : Type} {P : υ → Prop} : ∀ {xs : List τ} {ys : List υ}, Paired (fun _ y => P y) xs ys → ∀ y ∈ ys, P y
  | _, _, .nil, y, m => (List.not_mem_nil m).elim
  | _, _, .cons h t, y, m => (List.mem_cons.mp m).elim (fun e => by rw [e]; exact h) (all_of_paired t y)
theorem sif_true {c : MT} {m n : MS} {α α1 : AS} {Q : Out → Prop} (e : c α = some (true, α1)) (h : Wp (m α1) Q) : Wp (sIf c m n α) Q := by
  unfold sIf; rw [wp_bind, e, wp_some]; exact h
theorem sif_false {c : MT} {m n : MS} {α α1 : AS} {Q : Out → Prop} (e : c α = some (false, α1)) (h : Wp (n α1) Q) : Wp (sIf c m n α) Q := by
  unfold sIf; rw [wp_bind, e, wp_some]; exact h
theorem wp_asgR {i : Nat} {m : MF} {α : AS} {Q : Out → Prop} : Wp (sAsgR i m α) Q = Wp (m α) fun x => Wp (setR i x.1 x.2) fun β => Q (.nx β) := by
  unfold sAsgR; simp only [wp_bind, wp_some]
theorem wp_next {α : AS} {Q : Out → Prop} : Wp (sNext α) Q = Q (.nx α) := by unfold sNext; rw [wp_some]
theorem setD_go {i : Nat} {x : Da} {α : AS} {q : AV} (h : α[i]? = some q) (hf : q.isFix = false) : setD i x α = some (α.set i (.d x)) := by
  unfold setD; rw [h]; simp [hf]
theorem setR_go {i : Nat} {x : Nw} {α : AS} {q : AV} (h : α[i]? = some q) (hf : q.isFix = false) : setR i x α = some (α.set i x.av) := by
  unfold setR; rw [h]; simp [hf]
theorem for_go {i : MI} {g : MG} {b : MS} {α α1 : AS} {xs : List Da} {Q : Out → Prop} (hi : i α = some ((xs, []), α1))
    (h : Wp (forL g b xs α1) fun o => match o with
      | .nx β => Q (.nx β)
      | .bk β => Q (.nx β)
      | .ct β => Q (.nx β)
      | .rt r β => Q (.rt r β)) : Wp (sForD i g b α) Q := by
  unfold sForD
  rw [wp_bind, hi, wp_some, wp_bind]
  dsimp only
  rw [lockA_nil]
  refine h.mono fun o ho => ?_
  rw [wp_some]
  cases o <;> simp only [Out.freed, freeA_nil] <;> exact ho
/-- a loop that goes to its end -/
theorem for_inv {S : Type} {i : MI} {g : MG} {b : MS} {α α1 : AS} {xs : List Da} {Q : Out → Prop} (St : S → AS) (J : Nat → S → Prop) (s0 : S) (hi : i α = some ((xs, []), α1)) (e0 : α1 = St s0) (h0 : J 0 s0)
    (h : ∀ k x s, xs[k]? = some x → J k s → Wp (g x (St s)) fun β => Wp (b β) fun o => ∃ s', o = .nx (St s') ∧ J (k + 1) s')
    (fin : ∀ s, J xs.length s → Q (.nx (St s))) : Wp (sForD i g b α) Q := by
  refine for_go hi ?_
  refine for_wp (fun done rest β => ∃ s, β = St s ∧ J done.length s ∧ done ++ rest = xs) ?_ ?_ xs [] α1 ⟨s0, e0, h0, rfl⟩
  · rintro done x rest _ ⟨s, rfl, hj, e⟩
    refine (h done.length x s ?_ hj).mono fun β hb => hb.mono ?_
    · rw [← e, List.getElem?_append_right (Nat.le_refl _), Nat.sub_self]
      rfl
    · rintro _ ⟨s', rfl, hj'⟩
      exact ⟨s', rfl, by rw [List.length_append]; exact hj', by rw [List.append_assoc]; exact e⟩
  · rintro done _ ⟨s, rfl, hj, e⟩
    rw [List.append_nil] at e
    rw [e] at hj
    exact fin s hj
/-- arms, as they are gathered -/
def armD (bs : List Nat) : List (Key × Da) := bs.map fun b : Nat => (.inl (b : Int), .bool true)
theorem arm_len (bs : List Nat) : (armD bs).length = bs.length := by unfold armD; rw [List.length_map]
theorem append_go {i : Nat} {ma : MA} {α α1 : AS} {l : Lc} {y : Da} {f f0 : Bool} {xs ys : List Da} (h1 : rootAt α i = some (f0, .list ys)) (h2 : ma α = some ([l], α1)) (h3 : own α1 l = some y) (h4 : rootAt α1 i = some (f, .list xs)) (hl : xs.length < LIM) :
    sAppend i ma α = some (.nx (α1.set i (.r f false (.list (xs ++ [y]))))) := by
  unfold sAppend
  rw [h1]
  dsimp only
  rw [h2, Option.bind_some]
  dsimp only
  rw [show ownA α1 [l] = some [y] by simp [ownA, h3], Option.bind_some]
  simp [h4, hl]
end Vm
namespace Vm
open PySem PySem.Spec PyProof.Rows L2 Gk
theorem flat_ones {τ υ : Type} (f : τ → υ) : ∀ xs : List τ, (xs.flatMap fun x => [f x]) = xs.map f
  | [] => rfl
  | x :: xs => by rw [List.flatMap_cons, flat_ones f xs]; rfl
theorem ecb_one {F : List Da → Option Da} {mf : MF} {α0 α : AS} {xs : List Da} {c : Da} (h : mf α0 = some (.r (.list xs), α)) (hc : F [.list xs] = some c) : eCB F (aCons (eF mf) aNil) α0 = some (.d c, α) := by
  unfold eCB aCons eF aNil
  rw [h, Option.bind_some, Option.bind_some]
  dsimp only
  rw [Option.bind_some, Option.bind_some]
  dsimp only
  rw [show resA α [Lc.d (Nw.r (.list xs)).da] = some [.list xs] from rfl, Option.bind_some, hc, Option.bind_some]
theorem tuple_one {mf : MF} {α0 α : AS} {xs : List Da} (h : mf α0 = some (.r (.list xs), α)) : eCB fTuple (aCons (eF mf) aNil) α0 = some (.d (.tuple xs), α) := ecb_one h rfl
end Vm
namespace Vm
open PySem PySem.Spec PyProof.Rows L2 Gk
theorem put0 {p p' : AV} {rest as' : List AV} {ls : List Lc} (hp : p.isRoot = true) (hn : ls.filterMap (rootIx (p :: rest)) = []) : putBack (p :: rest) (.s 0 :: ls) (p' :: as') = p' :: rest := by
  unfold putBack
  apply List.ext_getElem?
  intro k
  rw [List.getElem?_mapIdx]
  cases k with
  | zero =>
    show some (if p.isRoot = true then _ else _) = some p'
    rw [if_pos hp, List.findIdx?_cons, if_pos (by decide)]
    rfl
  | succ k =>
    rw [List.getElem?_cons_succ, List.getElem?_cons_succ]
    cases z : rest[k]? with
    | none => rfl
    | some r =>
      show some (if r.isRoot = true then _ else _) = some r
      by_cases hr : r.isRoot = true
      · rw [if_pos hr, List.findIdx?_cons, if_neg (by simp [isS])]
        cases f : ls.findIdx? (isS (k + 1)) with
        | none => rfl
        | some i =>
          have m := findIdx?_isS f
          have : k + 1 ∈ ls.filterMap (rootIx (p :: rest)) := List.mem_filterMap.mpr ⟨_, List.mem_of_getElem? m, by
            show ((p :: rest)[k + 1]?).bind _ = _
            rw [List.getElem?_cons_succ, z]
            simp [hr]⟩
          rw [hn] at this
          exact (List.not_mem_nil this).elim
      · rw [if_neg hr]
theorem putD0 {α : AS} {as' : List AV} {ls : List Lc} (hn : ls.filterMap (rootIx α) = []) : putBack α ls as' = α := by
  unfold putBack
  apply List.ext_getElem?
  intro k
  rw [List.getElem?_mapIdx]
  cases z : α[k]? with
  | none => rfl
  | some r =>
    show some (if r.isRoot = true then _ else _) = some r
    by_cases hr : r.isRoot = true
    · rw [if_pos hr]
      cases f : ls.findIdx? (isS k) with
      | none => rfl
      | some i =>
        have m := findIdx?_isS f
        have : k ∈ ls.filterMap (rootIx α) := List.mem_filterMap.mpr ⟨_, List.mem_of_getElem? m, by
          show (α[k]?).bind _ = _
          rw [z]
          simp [hr]⟩
        rw [hn] at this
        exact (List.not_mem_nil this).elim
    · rw [if_neg hr]
/-- f(pot, ..) -/
theorem wcallP {F : FV} {ma : MA} {α : AS} {p : AV} {rest as : List AV} {ls : List Lc} {Q : Lc × AS → Prop} (hm : ma α = some (.s 0 :: ls, p :: rest)) (hp : p.isRoot = true) (ha : argsOf (p :: rest) ls = some as) (hn : ls.filterMap (rootIx (p :: rest)) = [])
    (hF : Wp (F (p :: as)) fun y => ∃ p' as', y.2 = p' :: as' ∧ Q (.d y.1.da, p' :: rest)) : Wp (eCall F [] ma α) Q := by
  obtain ⟨⟨v, zs⟩, e, p', as', rfl, q⟩ := hF
  refine ⟨_, ?_, q⟩
  have hu : argOf (p :: rest) (.s 0) = some p := by
    unfold argOf
    cases p with
    | un => cases hp
    | d x => cases hp
    | sc x => cases hp
    | g x => cases hp
    | r a b c => rfl
    | n a b c => rfl
  have hr : rootIx (p :: rest) (.s 0) = some 0 := by
    unfold rootIx
    simp [hp]
  unfold eCall callM
  rw [hm, Option.bind_some]
  dsimp only
  rw [List.map_nil, List.append_nil]
  unfold argsOf
  rw [hu, Option.bind_some, ha, Option.bind_some, Option.bind_some, e, Option.bind_some]
  dsimp only
  rw [List.filterMap_cons, hr, hn]
  dsimp only
  rw [if_pos (by simp), Option.bind_some, put0 hp hn]
end Vm
namespace Vm
open PySem PySem.Spec PyProof.Rows L2 Gk
theorem def_go {np nn : Nat} {b : MS} {as as' α : AS} {l : Lc} {r : R1} (hl : as.length = np) (hb : b (startA nn as) = some (.rt (.one l) α)) (hr : resL1 α l = some r) (ha : backP as α = as') : mDef np nn b as = some (.one r, as') := by
  unfold mDef
  rw [if_pos hl, hb, Option.bind_some]
  dsimp only
  unfold resRL
  dsimp only
  rw [hr, Option.bind_some, Option.bind_some, ha]
def natsT (bs : List Nat) : Da := .tuple (bs.map fun b : Nat => .int (b : Int))
theorem paired_imp {τ υ : Type} {R S : τ → υ → Prop} (h : ∀ x y, R x y → S x y) : ∀ {xs : List τ} {ys : List υ}, Paired R xs ys → Paired S xs ys
  | _, _, .nil => .nil
  | _, _, .cons a t => .cons (h _ _ a) (paired_imp h t)
theorem list_go {i : Nat} {α : AS} {xs : List Da} (h : α[i]? = some (.d (.list xs))) : iAny (eV i) α = some ((xs, []), α) := by
  unfold iAny iLst eV
  simp [h]
theorem in_nats (e : Nat) (bs : List Nat) (neg : Bool) : fIn neg (.int (e : Int)) (natsT bs) = some (.bool (if neg = true then !decide (e ∈ bs) else decide (e ∈ bs))) := by
  have fl : (bs.map fun b : Nat => Da.int (b : Int)).all flatD = true := by
    rw [List.all_eq_true]
    intro x m
    obtain ⟨b, _, rfl⟩ := List.mem_map.mp m
    rfl
  have an : ((bs.map fun b : Nat => Da.int (b : Int)).any fun y => eqF y (.int (e : Int))) = decide (e ∈ bs) := by
    clear fl
    induction bs with
    | nil => rfl
    | cons b bs ih =>
      rw [List.map_cons, List.any_cons, ih]
      by_cases h : e = b
      · subst h; simp [eqF]
      · have : eqF (.int (b : Int)) (.int (e : Int)) = false := by simp [eqF]; omega
        rw [this]; simp [h]
  unfold fIn fInB natsT
  dsimp only
  rw [if_pos ⟨rfl, fl⟩, an]
  rfl
theorem bls_bools : ∀ bs : List Bool, blsD (bs.map Da.bool) = some bs
  | [] => rfl
  | b :: bs => by rw [List.map_cons]; unfold blsD; rw [bls_bools bs]; rfl
theorem mnot_go {m : MT} {α α1 : AS} {b : Bool} (h : m α = some (b, α1)) : mNot m α = some (!b, α1) := by
  unfold mNot
  rw [h, Option.bind_some]
def addN (bs : List Nat) (b : Nat) : List Nat := if b ∈ bs then bs else bs ++ [b]
theorem put_arm (bs : List Nat) (b : Nat) : putD (armD bs) (.inl (b : Int)) (.bool true) = armD (addN bs b) := by
  unfold putD armD addN
  by_cases h : b ∈ bs
  · rw [if_pos, if_pos h]
    · rw [List.map_map]
      apply List.map_congr_left
      intro c _
      simp only [Function.comp]
      split
      · rfl
      · rfl
    · rw [List.any_eq_true]
      exact ⟨_, List.mem_map_of_mem h, by simp⟩
  · rw [if_neg, if_neg h]
    · simp
    · rw [List.any_eq_true]
      rintro ⟨x, m, e⟩
      obtain ⟨c, mc, rfl⟩ := List.mem_map.mp m
      simp only [decide_eq_true_eq, Sum.inl.injEq, Int.ofNat_inj] at e
      rw [e] at mc
      exact h mc
theorem toPys_nats : ∀ gs : List Nat, toPys (gs.map fun g : Nat => Da.int (g : Int)) = some (gs.map fun g : Nat => PyData.int (g : Int))
  | [] => rfl
  | g :: gs => by
    rw [List.map_cons]
    unfold toPys
    rw [toPys_nats gs]
    rfl
theorem lay_nats : ∀ gs : List Nat, PyData.canLayAll0 (gs.map fun g : Nat => PyData.int (g : Int)) = true
  | [] => rfl
  | g :: gs => by
    rw [List.map_cons]
    unfold PyData.canLayAll0
    rw [lay_nats gs]
    rfl
theorem dep_nats : ∀ gs : List Nat, PyData.depthAll (gs.map fun g : Nat => PyData.int (g : Int)) = 0
  | [] => rfl
  | g :: gs => by
    rw [List.map_cons]
    unfold PyData.depthAll
    rw [dep_nats gs]
    rfl
theorem eop_go {f : Da → Da → Option Da} {ma mb : ME} {α α1 α2 : AS} {la lb : Lc} {a b c : Da} (h1 : ma α = some (la, α1)) (h2 : mb α1 = some (lb, α2)) (ra : res α2 la = some a) (rb : res α2 lb = some b) (hf : f a b = some c) : eOp f ma mb α = some (.d c, α2) := by
  unfold eOp
  rw [h1, Option.bind_some]
  dsimp only
  rw [h2, Option.bind_some]
  dsimp only
  rw [ra, Option.bind_some, rb, Option.bind_some, hf, Option.bind_some]
theorem sub0 (y : Da) (ys : List Da) : fSubs (.tuple (y :: ys)) (.int 0) = some y := by
  show atI _ _ = _
  unfold atI ixN
  rw [if_pos (by decide), if_pos (by simp only [List.length_cons]; omega)]
  rfl
theorem sub1 (x y : Da) (ys : List Da) : fSubs (.tuple (x :: y :: ys)) (.int 1) = some y := by
  show atI _ _ = _
  unfold atI ixN
  rw [if_pos (by decide), if_pos (by simp only [List.length_cons]; omega)]
  rfl
def ShD (x : Da) (k n : Nat) : Prop := ∃ d, toPyR x = some d ∧ Sh d k n
theorem ShD.mono {x : Da} {k n k' n' : Nat} (h : ShD x k n) (hk : k ≤ k') (hn : n ≤ n') : ShD x k' n' := let ⟨d, e, s⟩ := h; ⟨d, e, s.mono hk hn⟩
theorem shd_int {b : Nat} (h : b < 41) : ShD (.int (b : Int)) 0 2 := ⟨_, rfl, int_sh h⟩
theorem shd_str {z : Str} (h : Sh (.str z) 0 62) (hl : z.length ≤ 100000) : ShD (.str z) 0 62 := ⟨.str z, by unfold toPyR; rw [if_pos hl], h⟩
theorem shd_nm {z : Str} (h : Nm z) : ShD (.str z) 0 62 := shd_str (str_sh h) (by have := h.2.1; omega)
theorem toPysR_sh {k n : Nat} : ∀ {xs : List Da}, (∀ x ∈ xs, ShD x k n) → ∃ ds, toPysR xs = some ds ∧ (∀ d ∈ ds, Sh d k n) ∧ ds.length = xs.length
  | [], _ => ⟨[], rfl, fun d m => (List.not_mem_nil m).elim, rfl⟩
  | x :: xs, h => by
    obtain ⟨d, e, s⟩ := h x (List.mem_cons_self ..)
    obtain ⟨ds, e2, s2, l⟩ := toPysR_sh (xs := xs) fun y m => h y (List.mem_cons_of_mem _ m)
    refine ⟨d :: ds, ?_, fun y m => ?_, by rw [List.length_cons, List.length_cons, l]⟩
    · unfold toPysR
      rw [e, e2]
      rfl
    · rcases List.mem_cons.mp m with rfl | m
      · exact s
      · exact s2 y m
theorem shd_tup {xs : List Da} {k n : Nat} (m : Nat) (h : ∀ x ∈ xs, ShD x k n) (hl : xs.length ≤ m) (hm : m ≤ 100000) : ShD (.tuple xs) (k + 1) (m * (n + 2) + 3) := by
  obtain ⟨ds, e, s, l⟩ := toPysR_sh h
  refine ⟨.tuple ds, ?_, tup_sh s (by omega)⟩
  unfold toPyR
  rw [if_pos (by omega), e]
  rfl
theorem shd_nats {bs : List Nat} (h : ∀ b ∈ bs, b < 41) (hl : bs.length ≤ 50) : ShD (natsT bs) 1 203 := shd_tup 50 (k := 0) (n := 2) (fun x m => by
  obtain ⟨b, mb, rfl⟩ := List.mem_map.mp m
  exact shd_int (h b mb)) (by rw [List.length_map]; exact hl) (by decide)
theorem repr_go {x : Da} {k n : Nat} (h : ShD x k n) (hk : k ≤ 30) (hn : n ≤ 16000000) : ∃ z, fRepr [x] = some (.str z) := by
  obtain ⟨d, e, s⟩ := h
  refine ⟨d.shown, ?_⟩
  unfold fRepr
  dsimp only
  rw [e, Option.bind_some, if_pos (s.shows hk hn)]
def sl : Option Da → AV
  | some x => .d x
  | none => .un
theorem sl_fix (o : Option Da) : (sl o).isFix = false := by cases o <;> rfl
end Vm
namespace Mth
abbrev Pl := Nat × Nat
structure Post (ν : Type) where
  c : Nat
  nm : ν
  arms : List Nat
section
variable {ν : Type} (posts : List (Post ν)) (W : List (Nat × ν × Nat)) (G : List Nat) (hi : Nat → List Nat) (ends : List Nat)
variable {posts W G hi ends}
/-- the posts, each with the arm of the world alone -/
def right (posts : List (Post ν)) (w : List Nat) : List (Post ν) := (posts.zip w).map fun x => ⟨x.1.c, x.1.nm, [x.2]⟩
theorem most {τ : Type} (f : τ → Nat) (P : τ → Prop) : ∀ (L : List τ), (∃ x ∈ L, P x) → ∃ x ∈ L, P x ∧ ∀ y ∈ L, P y → f y ≤ f x
  | [], ⟨x, m, _⟩ => (List.not_mem_nil m).elim
  | a :: L, h => by
    by_cases hl : ∃ x ∈ L, P x
    · obtain ⟨x, h1, h2, h3⟩ := most f P L hl
      by_cases ha : P a ∧ f x < f a
      · refine ⟨a, List.mem_cons_self .., ha.1, fun y m hy => ?_⟩
        rcases List.mem_cons.mp m with rfl | m
        · exact Nat.le_refl _
        · exact Nat.le_of_lt (Nat.lt_of_le_of_lt (h3 y m hy) ha.2)
      · refine ⟨x, List.mem_cons_of_mem _ h1, h2, fun y m hy => ?_⟩
        rcases List.mem_cons.mp m with rfl | m
        · exact Nat.le_of_not_lt fun z => ha ⟨hy, z⟩
        · exact h3 y m hy
    · obtain ⟨x, m, hx⟩ := h
      rcases List.mem_cons.mp m with rfl | m
      · refine ⟨x, List.mem_cons_self .., hx, fun y m hy => ?_⟩
        rcases List.mem_cons.mp m with rfl | m
        · exact Nat.le_refl _
        · exact (hl ⟨y, m, hy⟩).elim
      · exact (hl ⟨x, m, hx⟩).elim
end
section
variable {τ : Type} [DecidableEq τ]
def addP (S : List τ) (q : τ) : List τ := if q ∈ S then S else S ++ [q]
theorem addP_mem {S : List τ} {q x : τ} : x ∈ addP S q ↔ x ∈ S ∨ x = q := by
  unfold addP
  split
  · rename_i h
    exact ⟨.inl, fun z => z.elim id fun e => by rw [e]; exact h⟩
  · rw [List.mem_append, List.mem_singleton]
theorem addP_nodup {S : List τ} {q : τ} (h : S.Nodup) : (addP S q).Nodup := by
  unfold addP
  split
  · exact h
  · rename_i n
    rw [List.nodup_append]
    exact ⟨h, by simp, fun a ha b hb e => n (by rw [List.mem_singleton.mp hb] at e; rw [← e]; exact ha)⟩
theorem addP_len {S : List τ} {q : τ} : S.length ≤ (addP S q).length ∧ (addP S q).length ≤ S.length + 1 := by
  unfold addP
  split
  · omega
  · rw [List.length_append, List.length_singleton]; omega
end
end Mth
namespace Vm
open PySem PySem.Spec PyProof.Rows L2 Gk Mth
/-- a loop over things that are told by xs -/
theorem for_map {τ S : Type} {i : MI} {g : MG} {b : MS} {α α1 : AS} {xs : List τ} {f : τ → Da} {Q : Out → Prop} (St : S → AS) (J : List τ → S → Prop) (s0 : S) (hi : i α = some ((xs.map f, []), α1)) (e0 : α1 = St s0) (h0 : J [] s0)
    (h : ∀ done x rest s, done ++ x :: rest = xs → J done s → Wp (g (f x) (St s)) fun β => Wp (b β) fun o => ∃ s', o = .nx (St s') ∧ J (done ++ [x]) s')
    (fin : ∀ s, J xs s → Q (.nx (St s))) : Wp (sForD i g b α) Q := by
  refine for_inv St (fun k s => J (xs.take k) s) s0 hi e0 h0 (fun k x s hx hj => ?_) fun s hj => fin s (by rw [List.length_map, List.take_length] at hj; exact hj)
  rw [List.getElem?_map] at hx
  obtain ⟨y, hy, rfl⟩ := Option.map_eq_some_iff.mp hx
  have hk : k < xs.length := getElem?_lt hy
  have e1 : xs.take (k + 1) = xs.take k ++ [y] := by rw [List.take_succ, hy]; rfl
  have e2 : xs.take k ++ y :: xs.drop (k + 1) = xs := by
    have : xs.drop k = y :: xs.drop (k + 1) := by
      rw [List.drop_eq_getElem_cons hk]
      congr 1
      rw [List.getElem?_eq_getElem hk] at hy
      exact Option.some.inj hy
    rw [← this, List.take_append_drop]
  refine (h _ y _ s e2 hj).mono fun β hb => hb.mono fun o ⟨s', eo, hs⟩ => ⟨s', eo, ?_⟩
  rw [e1]
  exact hs
def kP (x : Pl) : List Key := [.inl (x.1 : Int), .inl (x.2 : Int)]
theorem mkD_nodup {κ τ : Type} [DecidableEq κ] {es : List (κ × τ)} (h : (es.map (·.1)).Nodup) : mkD es = es := by
  have gen : ∀ (es acc : List (κ × τ)), ((acc ++ es).map (·.1)).Nodup → es.foldl (fun acc kv => putD acc kv.1 kv.2) acc = acc ++ es := by
    intro es
    induction es with
    | nil => intro acc _; rw [List.append_nil]; rfl
    | cons e es ih =>
      intro acc hn
      rw [List.foldl_cons]
      have : putD acc e.1 e.2 = acc ++ [e] := by
        unfold putD
        rw [if_neg]
        intro z
        obtain ⟨y, my, ey⟩ := List.any_eq_true.mp z
        rw [List.map_append, List.nodup_append] at hn
        exact hn.2.2 y.1 (List.mem_map_of_mem my) e.1 (by simp) (of_decide_eq_true ey)
      rw [this, ih _ (by rw [List.append_assoc]; exact hn), List.append_assoc]
      rfl
  have := gen es [] (by rw [List.nil_append]; exact h)
  rw [List.nil_append] at this
  exact this
/-- a nodup list within another one -/
theorem nodup_le {τ : Type} [DecidableEq τ] : ∀ {l m : List τ}, l.Nodup → (∀ x ∈ l, x ∈ m) → l.length ≤ m.length
  | [], m, _, _ => Nat.zero_le _
  | a :: l, m, h, s => by
    rw [List.nodup_cons] at h
    have ha : a ∈ m := s a (List.mem_cons_self ..)
    have := nodup_le (l := l) (m := m.erase a) h.2 fun x mx => by
      rw [List.mem_erase_of_ne]
      · exact s x (List.mem_cons_of_mem _ mx)
      · intro e; rw [e] at mx; exact h.1 mx
    rw [List.length_erase_of_mem ha] at this
    have hp : 0 < m.length := List.length_pos_of_mem ha
    rw [List.length_cons]
    omega
def box (n m : Nat) : List Pl := (List.range n).flatMap fun c => (List.range m).map fun s => (c, s)
theorem box_mem {n m : Nat} {x : Pl} : x ∈ box n m ↔ x.1 < n ∧ x.2 < m := by
  unfold box
  rw [List.mem_flatMap]
  constructor
  · rintro ⟨c, hc, h⟩
    obtain ⟨s, hs, rfl⟩ := List.mem_map.mp h
    exact ⟨List.mem_range.mp hc, List.mem_range.mp hs⟩
  · rintro ⟨h1, h2⟩
    exact ⟨x.1, List.mem_range.mpr h1, List.mem_map.mpr ⟨x.2, List.mem_range.mpr h2, rfl⟩⟩
theorem box_len (n m : Nat) : (box n m).length = n * m := by
  unfold box
  rw [List.length_flatMap]
  simp only [List.length_map, List.length_range]
  induction n with
  | zero => simp
  | succ n ih => rw [List.range_succ, List.map_append, List.sum_append, ih, Nat.succ_mul]; simp
theorem box_le {n m : Nat} {S : List Pl} (hn : S.Nodup) (h : ∀ x ∈ S, x.1 < n ∧ x.2 < m) : S.length ≤ n * m := by
  rw [← box_len]
  exact nodup_le hn fun x mx => box_mem.mpr (h x mx)
end Vm
namespace Vm
open PySem PySem.Spec PyProof.Rows L2 Gk Mth
theorem tup2_go {ma mb : ME} {α : AS} {la lb : Lc} {x y : Da} (h1 : ma α = some (la, α)) (h2 : mb α = some (lb, α)) (o1 : own α la = some x) (o2 : own α lb = some y) : eTup (aCons ma (aCons mb aNil)) α = some (.d (.tuple [x, y]), α) := by
  have l : 2 ≤ LIM := by decide
  unfold eTup aCons aNil
  simp [h1, h2, ownA, o1, o2, l]
theorem tup3_go {ma mb mc : ME} {α : AS} {la lb lc : Lc} {x y z : Da} (h1 : ma α = some (la, α)) (h2 : mb α = some (lb, α)) (h3 : mc α = some (lc, α)) (o1 : own α la = some x) (o2 : own α lb = some y) (o3 : own α lc = some z) : eTup (aCons ma (aCons mb (aCons mc aNil))) α = some (.d (.tuple [x, y, z]), α) := by
  have l : 3 ≤ LIM := by decide
  unfold eTup aCons aNil
  simp [h1, h2, h3, ownA, o1, o2, o3, l]
theorem evd {i : Nat} {α : AS} {q : AV} (h : α[i]? = some q) (hq : q ≠ .un := by intro z; cases z) : eV i α = some (.s i, α) := by
  unfold eV
  rw [h]
  cases q with
  | un => exact (hq rfl).elim
  | _ => rfl
/-- what is told of names that are bound anew -/
theorem setD_sl {i : Nat} {x : Da} {α : AS} {o : Option Da} (h : α[i]? = some (sl o)) : setD i x α = some (α.set i (.d x)) := setD_go h (sl_fix o)
end Vm
namespace Vm
open PySem PySem.Spec PyProof.Rows L2 Gk Mth
theorem acons_go {ma : ME} {mr : MA} {α α1 α2 : AS} {l : Lc} {ls : List Lc} (h1 : ma α = some (l, α1)) (h2 : mr α1 = some (ls, α2)) : aCons ma mr α = some (l :: ls, α2) := by
  unfold aCons
  rw [h1, Option.bind_some]
  dsimp only
  rw [h2, Option.bind_some]
theorem tupN_go {m : MA} {α α1 : AS} {ls : List Lc} {xs : List Da} (h : m α = some (ls, α1)) (o : ownA α1 ls = some xs) (hl : xs.length ≤ LIM) : eTup m α = some (.d (.tuple xs), α1) := by
  unfold eTup
  rw [h, Option.bind_some]
  dsimp only
  rw [o, Option.bind_some, if_pos hl]
theorem nodup_ix {α : AS} {ls : List Lc} {is : List Nat} (h : ls.filterMap (rootIx α) = is) (hn : is.Nodup) : (ls.filterMap (rootIx α)).Nodup := by rw [h]; exact hn
end Vm
namespace Vm
open PySem PySem.Spec PyProof.Rows L2 Gk Mth
def leD {τ : Type} (f : τ → PyData) (a b : τ) : Bool := PySem.W.dataLe false f a b
theorem dle_total {τ : Type} (f : τ → PyData) : PySem.W.TotalLe (PySem.W.dataLe false f) := PySem.W.sortLe_total (PyProof.Rows.listOrd PyProof.Rows.itemOrd) false fun b => PySem.W.keyToks (f b)
def sortBy {τ : Type} (f : τ → PyData) (S : List τ) : List τ := S.mergeSort (leD f)
theorem sortBy_perm {τ : Type} (f : τ → PyData) (S : List τ) : (sortBy f S).Perm S := List.mergeSort_perm ..
theorem sortBy_pw {τ : Type} (f : τ → PyData) (S : List τ) : (sortBy f S).Pairwise (fun a b => leD f a b = true) :=
  List.pairwise_mergeSort (le := leD f) (fun a b c h1 h2 => (dle_total f).trans a b c h1 h2) (fun a b => by
    rw [Bool.or_eq_true]
    exact (dle_total f).total a b) S
theorem leD_anti {τ : Type} {f : τ → PyData} {a b : τ} (h1 : leD f a b = true) (h2 : leD f b a = true) : PySem.W.keyToks (f a) = PySem.W.keyToks (f b) := by
  unfold leD PySem.W.dataLe PySem.W.sortLe at h1 h2
  simp only [cond_false, Bool.not_eq_true'] at h1 h2
  exact KeyOrd.total (PyProof.Rows.listOrd PyProof.Rows.itemOrd) _ _ h2 h1
theorem sortBy_eq {τ : Type} {f : τ → PyData} {S T : List τ} (inj : ∀ a b, PySem.W.keyToks (f a) = PySem.W.keyToks (f b) → a = b) (h : S.Perm T) : sortBy f S = sortBy f T :=
  List.Perm.eq_of_pairwise (le := fun a b => leD f a b = true) (fun a b _ _ x y => inj a b (leD_anti x y)) (sortBy_pw f S) (sortBy_pw f T) (((sortBy_perm f S).trans h).trans (sortBy_perm f T).symm)
theorem le_ints {i j : Int} (h : PySem.W.dataLe false kPy (.inl i) (.inl j) = true) : i ≤ j := by
  refine Int.not_lt.mp fun z => ?_
  unfold PySem.W.dataLe PySem.W.sortLe at h
  simp only [cond_false, Bool.not_eq_true'] at h
  have e : ∀ k : Int, PySem.W.keyToks (kPy (.inl k)) = [.inl k] := fun k => by simp [kPy, PySem.W.keyToks]
  rw [e, e] at h
  simp [PyProof.Rows.lexLt, PyProof.Rows.itemLt, z] at h
theorem sortK_nats (bs : List Nat) : ∃ cs : List Nat, sortK (bs.map fun b : Nat => (.inl (b : Int) : Key)) = cs.map (fun b : Nat => (.inl (b : Int) : Key)) ∧ cs.Perm bs ∧ cs.Pairwise (· ≤ ·) := by
  refine ⟨bs.mergeSort fun a b => PySem.W.dataLe false kPy (.inl (a : Int)) (.inl (b : Int)), by unfold sortK; rw [merge_map], List.mergeSort_perm .., ?_⟩
  refine (List.pairwise_mergeSort (le := fun a b : Nat => PySem.W.dataLe false kPy (.inl (a : Int)) (.inl (b : Int))) (fun a b c h1 h2 => (dle_total kPy).trans _ _ _ h1 h2) (fun a b => by
    rw [Bool.or_eq_true]
    exact (dle_total kPy).total _ _) bs).imp fun h => ?_
  have := le_ints h
  omega
theorem kPy_ints (bs : List Nat) : PySem.W.AllAlike ((bs.map fun b : Nat => (.inl (b : Int) : Key)).map kPy) ∧ PySem.W.Sortable ((bs.map fun b : Nat => (.inl (b : Int) : Key)).map kPy) := by
  rw [List.map_map]
  exact ⟨PySem.W.AllAlike.of fun b b' => by simp [kPy, PySem.W.alike], PySem.W.Sortable.others fun b => ⟨fun z => by simp [kPy] at z, fun xs z => by simp [kPy] at z⟩⟩
end Vm
namespace Vm
open PySem PySem.Spec PyProof.Rows L2 Gk
theorem bse {τ υ : Type} {t : Option τ} {f : τ → Option υ} {r : υ} (h : t.bind f = some r) : ∃ x, t = some x ∧ f x = some r := Option.bind_eq_some_iff.mp h
theorem csp {τ : Type} {b : Bool} {x y : Option τ} {r : τ} (h : cond b x y = some r) : (b = true ∧ x = some r) ∨ (b = false ∧ y = some r) := by
  cases b
  · exact .inr ⟨rfl, h⟩
  · exact .inl ⟨rfl, h⟩
def asB : Da → Option Bool
  | .bool b => some b
  | _ => none
theorem asB_eq {x : Da} {b : Bool} (h : asB x = some b) : x = .bool b := by
  cases x <;> first | (cases h; rfl) | cases h
def asI : Da → Option Int
  | .int b => some b
  | _ => none
theorem asI_eq {x : Da} {b : Int} (h : asI x = some b) : x = .int b := by
  cases x <;> first | (cases h; rfl) | cases h
def isN (neg : Bool) : Da → Bool
  | .none => !neg
  | _ => neg
def isiU (T : String) (x : Da) : Option Bool := (tyN x).bind fun t => isiB T t
def un2 : Da → Option (Da × Da)
  | .tuple [a, b] => some (a, b)
  | _ => none
def un3 : Da → Option (Da × Da × Da)
  | .tuple [a, b, c] => some (a, b, c)
  | _ => none
def un4 : Da → Option (Da × Da × Da × Da)
  | .tuple [a, b, c, d] => some (a, b, c, d)
  | _ => none
theorem un2_eq {x a b : Da} (h : un2 x = some (a, b)) : x = .tuple [a, b] := by
  unfold un2 at h
  split at h <;> cases h
  rfl
theorem un3_eq {x a b c : Da} (h : un3 x = some (a, b, c)) : x = .tuple [a, b, c] := by
  unfold un3 at h
  split at h <;> cases h
  rfl
def limU {τ : Type} (xs : List τ) : Option (List τ) := if xs.length ≤ LIM then some xs else none
theorem limU_eq {τ : Type} {xs ys : List τ} (h : limU xs = some ys) : xs = ys ∧ xs.length ≤ LIM := by
  unfold limU at h
  split at h
  · exact ⟨Option.some.inj h, by assumption⟩
  · cases h
def unT : Da → Option (List Da)
  | .tuple xs => some xs
  | _ => none
section
variable {α α0 α1 α2 α3 β γ : AS} {l la lb lc le lk : Lc} {ls ms ks : List Lc} {a b c d k v x y z : Da} {as bs cs xs ys zs : List Da} {t u w : Bool}
theorem oc {r : List Lc} (h : own α l = some x) (g : ownA α r = some xs) : ownA α (l :: r) = some (x :: xs) := by
  unfold ownA
  rw [h, g]
  rfl
theorem rc {r : List Lc} (h : res α l = some x) (g : resA α r = some xs) : resA α (l :: r) = some (x :: xs) := by
  unfold resA
  rw [h, g]
  rfl
theorem cb_u {f : List Da → Option Da} {ma : MA} (h1 : ma α = some (ls, β)) (ra : resA β ls = some as) (hf : f as = some c) : eCB f ma α = some (.d c, β) := by
  unfold eCB
  rw [h1, Option.bind_some, ra, Option.bind_some, hf, Option.bind_some]
theorem tofe_u {m : ME} (h : m α = some (l, β)) (r : res β l = some x) (hb : asB x = some t) : tOfE m α = some (t, β) := by
  cases asB_eq hb
  unfold tOfE
  rw [h, Option.bind_some, r]
  rfl
theorem tru_u {m : ME} (h : m α = some (l, β)) (r : res β l = some x) : mTru m α = some (truD x, β) := by
  unfold mTru
  rw [h, Option.bind_some, r]
  rfl
theorem mand_b {m n : MT} {B : Option Bool} (h1 : m α = some (t, β)) (h2 : t = true → ∀ x, B = some x → n β = some (x, β)) (h : cond t B (some false) = some w) : mAnd m n α = some (w, β) := by
  unfold mAnd
  rw [h1, Option.bind_some]
  rcases csp h with ⟨rfl, e⟩ | ⟨rfl, e⟩
  · rw [if_pos rfl, h2 rfl _ e]
  · cases e; rw [if_neg (by simp)]
theorem mor_b {m n : MT} {B : Option Bool} (h1 : m α = some (t, β)) (h2 : t = false → ∀ x, B = some x → n β = some (x, β)) (h : cond t (some true) B = some w) : mOr m n α = some (w, β) := by
  unfold mOr
  rw [h1, Option.bind_some]
  rcases csp h with ⟨rfl, e⟩ | ⟨rfl, e⟩
  · cases e; rw [if_pos rfl]
  · rw [if_neg (by simp), h2 rfl _ e]
theorem and_b {ma mb : ME} {B : Option Da} (h1 : tOfE ma α = some (t, β)) (h2 : t = true → ∀ x, B = some x → ∃ l, mb β = some (l, β) ∧ own β l = some x) (h : cond t B (some (.bool false)) = some x) : ∃ l, eAnd ma mb α = some (l, β) ∧ own β l = some x := by
  unfold eAnd
  rw [h1, Option.bind_some]
  rcases csp h with ⟨rfl, e⟩ | ⟨rfl, e⟩
  · rw [if_pos rfl]; exact h2 rfl _ e
  · cases e; rw [if_neg (by simp)]; exact ⟨_, rfl, rfl⟩
def chainU (f g : Da → Da → Option Da) (a b c : Da) : Option Da := (f a b).bind fun z => (asB z).bind fun t => cond t (g b c) (some (.bool false))
theorem ef_u {mf : MF} {r : Nw} (h : mf α = some (r, β)) : eF mf α = some (.d r.da, β) := by
  unfold eF
  rw [h, Option.bind_some]
theorem osome_u {m : ME} {i : Int} (h : m α = some (l, β)) (r : res β l = some x) (hi : asI x = some i) : oSome m α = some (some i, β) := by
  cases asI_eq hi
  unfold oSome
  rw [h, Option.bind_some, r]
  rfl
theorem sl_u {me : ME} {ml mh : MO} {o1 o2 : Option Int} (h1 : me α = some (l, α1)) (h2 : ml α1 = some (o1, α2)) (h3 : mh α2 = some (o2, α3)) (r : res α3 l = some x) (hf : fSl o1 o2 x = some c) : eSl me ml mh α = some (.d c, α3) := by
  unfold eSl
  rw [h1, Option.bind_some, h2, Option.bind_some, h3, Option.bind_some, r, Option.bind_some, hf, Option.bind_some]
def uC (F : FV) (as : List AV) : Option Da := (F as).map (·.1.da)
def uW (F : FV) (as : List AV) : Option Da := (F as).bind fun y => match y.1 with
  | .one (.w (.r x)) => some x
  | _ => none
def AV.with (q : AV) (x : Da) : AV := match q with
  | .r f l _ => .r f l x
  | .n f l _ => .n f l x
  | q => q
def setAs : List AV → List Nat → List Da → List AV
  | as, [], [] => as
  | as, i :: is, x :: xs => setAs (as.set i (((as[i]?).getD .un).with x)) is xs
  | as, _, _ => as
def seesA (as : List AV) : List Nat → Option (List Da)
  | [] => some []
  | i :: is => ((as[i]?).bind fun q => match q with
    | .r _ _ x => some x
    | .n _ _ x => some x
    | _ => none).bind fun x => (seesA as is).bind fun xs => some (x :: xs)
/-- a call whose own things at these arguments come back changed -/
noncomputable def uR (F : FV) (as : List AV) (is : List Nat) : Option (Da × List Da) := (F as).bind fun y => (seesA y.2 is).bind fun xs => open Classical in if y.2 = setAs as is xs then some (y.1.da, xs) else none
theorem uR_eq {F : FV} {asv : List AV} {is : List Nat} (h : uR F asv is = some (x, xs)) : ∃ v, F asv = some (v, setAs asv is xs) ∧ v.da = x := by
  unfold uR at h
  obtain ⟨y, e1, h⟩ := bse h
  obtain ⟨zs, e2, h⟩ := bse h
  split at h
  · rename_i e3
    cases h
    exact ⟨y.1, by rw [e1, ← e3], rfl⟩
  · cases h
theorem uR_of {F : FV} {asv bsv : List AV} {is : List Nat} {v : Rv} (h : F asv = some (v, bsv)) (hs : seesA bsv is = some xs) (e : bsv = setAs asv is xs) : uR F asv is = some (v.da, xs) := by
  unfold uR
  rw [h, Option.bind_some]
  dsimp only
  rw [hs, Option.bind_some, if_pos e]
def un1l : List Da → Option Da
  | [a] => some a
  | _ => none
theorem un1l_eq (h : un1l xs = some a) : xs = [a] := by
  unfold un1l at h
  split at h <;> cases h
  rfl
theorem callM_u {F : FV} {asv : List AV} (ha : argsOf β ls = some asv) (hn : ls.filterMap (rootIx β) = []) (hF : uC F asv = some x) : ∃ v z, F asv = some (v, z) ∧ callM F β ls = some (v, β) ∧ v.da = x := by
  unfold uC at hF
  obtain ⟨y, e, h⟩ := Option.map_eq_some_iff.mp hF
  refine ⟨y.1, y.2, e, ?_, h⟩
  unfold callM
  rw [ha, Option.bind_some, e, Option.bind_some, hn, if_pos (by simp), putD0 hn]
theorem call_u {F : FV} {ds : List Da} {ma : MA} {asv : List AV} (h1 : ma α = some (ls, β)) (ha : argsOf β (ls ++ ds.map Lc.d) = some asv) (hn : (ls ++ ds.map Lc.d).filterMap (rootIx β) = []) (hF : uC F asv = some x) : eCall F ds ma α = some (.d x, β) := by
  obtain ⟨v, z, _, e, rfl⟩ := callM_u ha hn hF
  unfold eCall
  rw [h1, Option.bind_some, e, Option.bind_some]
theorem fcall_u {F : FV} {ds : List Da} {ma : MA} {asv : List AV} (h1 : ma α = some (ls, β)) (ha : argsOf β (ls ++ ds.map Lc.d) = some asv) (hn : (ls ++ ds.map Lc.d).filterMap (rootIx β) = []) (hF : uW F asv = some x) : fCall F ds ma α = some (.r x, β) := by
  unfold uW at hF
  obtain ⟨y, e, h⟩ := bse hF
  have e2 : callM F β (ls ++ ds.map Lc.d) = some (y.1, β) := by
    unfold callM
    rw [ha, Option.bind_some, e, Option.bind_some, hn, if_pos (by simp), putD0 hn]
  unfold fCall
  rw [h1, Option.bind_some, e2, Option.bind_some]
  split at h
  · rename_i e3
    cases h
    rw [e3]
  · cases h
/-- own things among the arguments -/
theorem callr_u {F : FV} {ds : List Da} {ma : MA} {asv : List AV} {is : List Nat} (h1 : ma α = some (ls, β)) (ha : argsOf β (ls ++ ds.map Lc.d) = some asv) (hn : ((ls ++ ds.map Lc.d).filterMap (rootIx β)).Nodup) (hF : uR F asv is = some (x, xs)) (hp : putBack β (ls ++ ds.map Lc.d) (setAs asv is xs) = γ) : eCall F ds ma α = some (.d x, γ) := by
  obtain ⟨v, e, rfl⟩ := uR_eq hF
  unfold eCall callM
  rw [h1, Option.bind_some]
  dsimp only
  rw [ha, Option.bind_some, e, Option.bind_some, if_pos hn, Option.bind_some, hp]
theorem flst_u {ma : MA} (h : ma α = some (ls, β)) (o : ownA β ls = some xs) (hl : xs.length ≤ LIM) : fLst ma α = some (.r (.list xs), β) := by
  unfold fLst
  rw [h, Option.bind_some, o, Option.bind_some, if_pos hl]
noncomputable def uSortM : List Da → Option (List Da)
  | [.list xs] => sortD xs
  | _ => none
theorem fsortM_u {ma : MA} (h : ma α = some (ls, β)) (r : resA β ls = some as) (hf : uSortM as = some xs) : fSortM ma α = some (.r (.list xs), β) := by
  unfold uSortM at hf
  split at hf
  · unfold fSortM
    rw [h, Option.bind_some, r, Option.bind_some]
    dsimp only
    rw [hf, Option.bind_some]
  · cases hf
def flatU {τ : Type} (f : Da → Option (List τ)) : List Da → Option (List τ)
  | [] => some []
  | x :: xs => (f x).bind fun y => (flatU f xs).bind fun ys => some (y ++ ys)
def flatS {τ σ : Type} (f : Da → σ → Option (List τ × σ)) : List Da → σ → Option (List τ × σ)
  | [], s => some ([], s)
  | x :: xs, s => (f x s).bind fun y => (flatS f xs y.2).bind fun ys => some (y.1 ++ ys.1, ys.2)
theorem wipe_at {vs : List Nat} {i : Nat} (h : i ∉ vs) : (wipeA α vs)[i]? = α[i]? := by
  induction vs with
  | nil => rfl
  | cons v vs ih =>
    unfold wipeA
    rw [List.getElem?_set_ne (fun e => h (by rw [← e]; exact List.mem_cons_self ..)), ih fun m => h (List.mem_cons_of_mem _ m)]
theorem wipe_len {vs : List Nat} : (wipeA α vs).length = α.length := by
  induction vs with
  | nil => rfl
  | cons v vs ih => unfold wipeA; rw [List.length_set, ih]
theorem back_wipe (vs : List Nat) : backA α (wipeA α vs) vs = α := by
  unfold backA
  apply List.ext_getElem?
  intro i
  rw [List.getElem?_mapIdx]
  by_cases h : i ∈ vs
  · cases e : (wipeA α vs)[i]? with
    | none =>
      have : α[i]? = none := by rw [List.getElem?_eq_none_iff, ← wipe_len (vs := vs)]; exact List.getElem?_eq_none_iff.mp e
      rw [this]; rfl
    | some q =>
      have hl : i < α.length := by rw [← wipe_len (vs := vs)]; exact getElem?_lt e
      rw [Option.map_some, if_pos h, List.getElem?_eq_getElem hl]
      rfl
  · rw [wipe_at h]
    cases α[i]? with
    | none => rfl
    | some q => rw [Option.map_some, if_neg h]
theorem nr_nil : noRoots α [] := fun i m => (List.not_mem_nil m).elim
theorem nr_cons {i : Nat} {vs : List Nat} {q : AV} (h : α[i]? = some q) (hq : q.isRoot = false) (r : noRoots α vs) : noRoots α (i :: vs) := fun j m s e => by
  rcases List.mem_cons.mp m with rfl | m
  · rw [h] at e; cases e; exact hq
  · exact r j m s e
theorem sl_root (o : Option Da) : (sl o).isRoot = false := by cases o <;> rfl
def CmP {τ : Type} (g : MG) (tt : MT) (u : AS → Option (List τ × AS)) (vs : List Nat) (W : AS) (x : Da) (y : List τ) : Prop := ∃ B b, g x W = some B ∧ tt B = some (b, B) ∧ (b = true → u B = some (y, B)) ∧ (b = false → y = []) ∧ wipeA B vs = W
theorem cmL_u {τ : Type} {g : MG} {tt : MT} {u : AS → Option (List τ × AS)} {vs : List Nat} {W : AS} {f : Da → Option (List τ)} (h : ∀ x y, f x = some y → CmP g tt u vs W x y) : ∀ {xs : List Da} {ys : List τ}, flatU f xs = some ys → cmL vs g tt u xs W = some (ys, W)
  | [], ys, e => by cases e; rfl
  | x :: xs, ys, e => by
    unfold flatU at e
    obtain ⟨y, e1, e⟩ := bse e
    obtain ⟨zs, e2, e⟩ := bse e
    cases e
    obtain ⟨B, b, g1, g2, g3, g4, g5⟩ := h x y e1
    have ih := cmL_u h e2
    unfold cmL
    rw [g1, Option.bind_some, g2, Option.bind_some]
    cases b with
    | true => rw [if_pos rfl, g3 rfl, Option.bind_some, g5, ih, Option.bind_some]
    | false => rw [if_neg (by simp), g5, ih, g4 rfl]; rfl
theorem cm_u {τ : Type} {i : MI} {vs : List Nat} {g : MG} {tt : MT} {u : AS → Option (List τ × AS)} {W : AS} {ys : List τ} {f : Da → Option (List τ)} (hi : i α = some ((xs, []), β)) (nr : noRoots β vs) (hw : wipeA β vs = W) (h : ∀ x y, f x = some y → CmP g tt u vs W x y) (e : flatU f xs = some ys) : cmI i vs g tt u α = some (ys, β) := by
  unfold cmI
  rw [hi, Option.bind_some]
  dsimp only
  rw [if_pos ⟨nr, fun j m => (List.not_mem_nil m).elim⟩, lockA_nil, hw, cmL_u h e, Option.bind_some]
  dsimp only
  rw [freeA_nil, ← hw, back_wipe]
def CmS {τ σ : Type} (g : MG) (tt : MT) (u : AS → Option (List τ × AS)) (vs : List Nat) (St : σ → AS) (x : Da) (s : σ) (y : List τ) (s' : σ) : Prop := ∃ B b B2, g x (St s) = some B ∧ tt B = some (b, B2) ∧ (b = true → ∃ B3, u B2 = some (y, B3) ∧ wipeA B3 vs = St s') ∧ (b = false → y = [] ∧ wipeA B2 vs = St s')
theorem cmL_s {τ σ : Type} {g : MG} {tt : MT} {u : AS → Option (List τ × AS)} {vs : List Nat} {St : σ → AS} {f : Da → σ → Option (List τ × σ)} (h : ∀ x s y s', f x s = some (y, s') → CmS g tt u vs St x s y s') : ∀ {xs : List Da} {s s' : σ} {ys : List τ}, flatS f xs s = some (ys, s') → cmL vs g tt u xs (St s) = some (ys, St s')
  | [], s, s', ys, e => by cases e; rfl
  | x :: xs, s, s', ys, e => by
    unfold flatS at e
    obtain ⟨⟨y, s1⟩, e1, e⟩ := bse e
    obtain ⟨⟨zs, s2⟩, e2, e⟩ := bse e
    cases e
    obtain ⟨B, b, B2, g1, g2, g3, g4⟩ := h x s y s1 e1
    have ih := cmL_s h e2
    unfold cmL
    rw [g1, Option.bind_some, g2, Option.bind_some]
    cases b with
    | true =>
      obtain ⟨B3, k1, k2⟩ := g3 rfl
      rw [if_pos rfl, k1, Option.bind_some, k2, ih, Option.bind_some]
    | false =>
      obtain ⟨k1, k2⟩ := g4 rfl
      rw [if_neg (by simp), k2, ih, k1]; rfl
theorem cm_s {τ σ : Type} {i : MI} {vs : List Nat} {g : MG} {tt : MT} {u : AS → Option (List τ × AS)} {ys : List τ} {f : Da → σ → Option (List τ × σ)} (St : σ → AS) {s s' : σ} (hi : i α = some ((xs, []), β)) (nr : noRoots β vs) (hw : wipeA β vs = St s) (h : ∀ x s y s', f x s = some (y, s') → CmS g tt u vs St x s y s') (e : flatS f xs s = some (ys, s')) (hb : backA β (St s') vs = γ) : cmI i vs g tt u α = some (ys, γ) := by
  unfold cmI
  rw [hi, Option.bind_some]
  dsimp only
  rw [if_pos ⟨nr, fun j m => (List.not_mem_nil m).elim⟩, lockA_nil, hw, cmL_s h e, Option.bind_some]
  dsimp only
  rw [freeA_nil, hb]
theorem mlc_u {m : ME} (h : m α = some (l, β)) (o : own β l = some x) : mLc m α = some ([x], β) := by
  unfold mLc
  rw [h, Option.bind_some, o, Option.bind_some]
theorem mdc_u {κ : Type} {key : Da → Option κ} {mk mv : ME} {kk : κ} (h1 : mk α = some (lk, α1)) (h2 : mv α1 = some (l, β)) (o1 : own β lk = some k) (o2 : own β l = some v) (hk : key k = some kk) : mDc key mk mv α = some ([(kk, v)], β) := by
  unfold mDc
  rw [h1, Option.bind_some, h2, Option.bind_some, o1, Option.bind_some, o2, Option.bind_some, hk, Option.bind_some]
theorem flc_u {m : AS → Option (List Da × AS)} (h : m α = some (xs, β)) (hl : limU xs = some ys) : fLc m α = some (.r (.list ys), β) := by
  obtain ⟨rfl, hk⟩ := limU_eq hl
  unfold fLc
  rw [h, Option.bind_some, if_pos hk]
theorem fdcT_u {m : AS → Option (List (List Key × Da) × AS)} {es fs : List (List Key × Da)} (h : m α = some (es, β)) (hl : limU es = some fs) : fDcT m α = some (.r (.dt (mkD fs)), β) := by
  obtain ⟨rfl, hk⟩ := limU_eq hl
  unfold fDcT
  rw [h, Option.bind_some, if_pos hk]
def iterU : Da → Option (List Da)
  | .list xs => some xs
  | .tuple xs => some xs
  | .str z => some (signsD z)
  | x => keysOf x
theorem iany_u {m : ME} (h : m α = some (l, β)) (o : own β l = some x) (hx : iterU x = some xs) : iAny m α = some ((xs, []), β) := by
  unfold iAny iLst iTpl iKey iSgn
  rw [h]
  cases l with
  | d y =>
    cases o
    cases x <;> first | (cases hx; done) | (cases hx; rfl) | skip
  | s i =>
    have o' : (β[i]?).bind AV.get = some x := o
    obtain ⟨q, e, o2⟩ := bse o'
    cases q <;> first | (cases o2; done) | skip
    cases o2
    simp only [Option.bind_some, o, e]
    cases x <;> first | (cases hx; done) | (cases hx; rfl) | skip
def rg1U (a : Da) : Option (List Da) := (asI a).bind fun j => if -(2 ^ 62) ≤ j ∧ j < 2 ^ 62 then some ((List.range j.toNat).map fun (k : Nat) => Da.int (k : Int)) else none
theorem irg1_u {m : MA} (h : m α = some (ls, β)) (r : resA β ls = some [a]) (hx : rg1U a = some xs) : iRg1 m α = some ((xs, []), β) := by
  unfold rg1U at hx
  obtain ⟨j, e, hy⟩ := bse hx
  clear hx
  cases asI_eq e
  split at hy
  · rename_i hc
    cases hy
    unfold iRg1
    rw [h, Option.bind_some, r, Option.bind_some]
    dsimp only
    rw [if_pos hc]
  · cases hy
def enuL : Da → Option (List Da)
  | .list xs => some (enuD xs)
  | _ => none
theorem ienl_u {m : MA} (h : m α = some (ls, β)) (o : ownA β ls = some [a]) (hx : enuL a = some xs) : iEnL m α = some ((xs, []), β) := by
  unfold enuL at hx
  split at hx
  · cases hx
    unfold iEnL
    rw [h, Option.bind_some, o, Option.bind_some]
  · cases hx
theorem gs_n : gsNil [] α = some α := rfl
theorem gs_c {m : MG} {r : MGs} (h : m x α = some β) (g : r xs β = some γ) : gsCons m r (x :: xs) α = some γ := by
  show (m x α).bind (fun β => r xs β) = _
  rw [h, Option.bind_some, g]
theorem gt2_u {r : MGs} (h : un2 x = some (a, b)) (g : r [a, b] α = some β) : gTupD 2 r x α = some β := by
  cases un2_eq h
  exact g
theorem gt3_u {r : MGs} (h : un3 x = some (a, b, c)) (g : r [a, b, c] α = some β) : gTupD 3 r x α = some β := by
  cases un3_eq h
  exact g
theorem asg_u {m : ME} {g : MG} (h : m α = some (l, β)) (o : own β l = some x) (hg : g x β = some γ) : sAsg m g α = some (.nx γ) := by
  unfold sAsg
  rw [h, Option.bind_some, o, Option.bind_some, hg, Option.bind_some]
theorem asgR_u {m : MF} {i : Nat} {r : Nw} {q : AV} (h : m α = some (r, β)) (hi : β[i]? = some q) (hq : q.isFix = false) : sAsgR i m α = some (.nx (β.set i r.av)) := by
  unfold sAsgR
  rw [h, Option.bind_some]
  dsimp only
  rw [setR_go hi hq, Option.bind_some]
theorem setI_u {i : Nat} {me mk : ME} {f0 f : Bool} {x0 : Da} (h1 : me α = some (le, β)) (hi : rootAt β i = some (f0, x0)) (h2 : mk β = some (lk, γ)) (hv : own γ le = some v) (hk : res γ lk = some k) (hr : rootAt γ i = some (f, x)) (hs : setDa x k v = some c) : sSetI i me mk α = some (.nx (γ.set i (.r f false c))) := by
  unfold sSetI
  rw [h1, Option.bind_some, hi, Option.bind_some, h2, Option.bind_some, hv, Option.bind_some, hk, Option.bind_some, hr, Option.bind_some, hs, Option.bind_some]
theorem par_u {is : List Nat} {ma : MA} (h : ma α = some (ls, β)) (o : ownA β ls = some xs) (hs : setDs is xs β = some γ) : sPar is ma α = some (.nx γ) := by
  unfold sPar
  rw [h, Option.bind_some, o, Option.bind_some, hs, Option.bind_some]
theorem sds_n : setDs [] [] α = some α := rfl
theorem sds_c {i : Nat} {is : List Nat} (h : setD i x α = some β) (g : setDs is xs β = some γ) : setDs (i :: is) (x :: xs) α = some γ := by
  unfold setDs
  rw [h, Option.bind_some, g]
theorem wseq {m n : MS} {Q : Out → Prop} (h : m α = some (.nx β)) (k : Wp (n β) Q) : Wp (sSeq m n α) Q := by
  rw [wp_seq, h, wp_some]
  exact k
theorem wlast {m : MS} {Q : Out → Prop} (h : m α = some (.nx β)) (k : Q (.nx β)) : Wp (m α) Q := by
  rw [h, wp_some]
  exact k
/-- what ends without going on -/
def Xq (Q : Out → Prop) : Out → Prop := fun o => (∀ γ, o ≠ .nx γ) ∧ Q o
theorem wseq_x {m n : MS} {Q : Out → Prop} (h : Wp (m α) (Xq Q)) : Wp (sSeq m n α) Q := by
  rw [wp_seq]
  refine h.mono fun o ho => ?_
  cases o with
  | nx γ => exact (ho.1 γ rfl).elim
  | bk γ => exact ho.2
  | ct γ => exact ho.2
  | rt r γ => exact ho.2
theorem wseq_j {m n : MS} {Q : Out → Prop} {R : AS → Prop} (h : Wp (m α) fun o => ∃ β, o = .nx β ∧ R β) (k : ∀ β, R β → Wp (n β) Q) : Wp (sSeq m n α) Q := by
  rw [wp_seq]
  refine h.mono fun o ⟨β, e, r⟩ => ?_
  subst e
  exact k β r
theorem wseq_next {n : MS} {Q : Out → Prop} (k : Wp (n α) Q) : Wp (sSeq sNext n α) Q := by
  rw [wp_seq, wp_next]
  exact k
theorem wif_t {c : MT} {m n : MS} {Q : Out → Prop} (h : c α = some (t, β)) (ht : t = true) (k : Wp (m β) Q) : Wp (sIf c m n α) Q := by
  subst ht
  unfold sIf
  rw [wp_bind, h, wp_some, if_pos rfl]
  exact k
theorem wif_f {c : MT} {m n : MS} {Q : Out → Prop} (h : c α = some (t, β)) (ht : t = false) (k : Wp (n β) Q) : Wp (sIf c m n α) Q := by
  subst ht
  unfold sIf
  rw [wp_bind, h, wp_some, if_neg (by simp)]
  exact k
theorem wsif_t {c : MT} {m n r : MS} {Q : Out → Prop} (h : c α = some (t, β)) (ht : t = true) (k : Wp (sSeq m r β) Q) : Wp (sSeq (sIf c m n) r α) Q := by
  rw [wp_seq] at k ⊢
  exact wif_t h ht k
theorem wsif_f {c : MT} {m n r : MS} {Q : Out → Prop} (h : c α = some (t, β)) (ht : t = false) (k : Wp (sSeq n r β) Q) : Wp (sSeq (sIf c m n) r α) Q := by
  rw [wp_seq] at k ⊢
  exact wif_f h ht k
theorem wret {m : ME} {Q : Out → Prop} (h : m α = some (l, β)) (k : Q (.rt (.one l) β)) : Wp (sRet m α) Q := by
  rw [wp_ret, h, wp_some]
  exact k
theorem wfrz_n {i : Nat} {m : MS} {Q : Out → Prop} (h : α[i]? = some (.n false false x)) (k : Wp (m (α.set i (.d x))) Q) : Wp (sFrz i m α) Q := by
  unfold sFrz
  rw [h]
  exact k
/-- how a def ends -/
def Qr (r : Rv) (as as' : List AV) (o : Out) : Prop := ∃ ρ β, o = .rt ρ β ∧ resRL β ρ = some r ∧ backP as β = as'
theorem def_u {np nn : Nat} {m : MS} {asv as' : List AV} {r : Rv} (hl : asv.length = np) (h : Wp (m (startA nn asv)) (Qr r asv as')) : mDef np nn m asv = some (r, as') := by
  obtain ⟨o, e, ρ, β, rfl, h1, h2⟩ := h
  unfold mDef
  rw [if_pos hl, e, Option.bind_some]
  dsimp only
  rw [h1, Option.bind_some, h2]
/-- a def of data: the data come back as they are -/
theorem resRL_one (h : own β l = some x) : resRL β (.one l) = some (.one (.d x)) := by
  cases l with
  | d y => cases h; rfl
  | s i =>
    have o' : (β[i]?).bind AV.get = some x := h
    obtain ⟨q, e, o2⟩ := bse o'
    cases q <;> first | (cases o2; done) | skip
    cases o2
    have r1 : resL1 β (.s i) = some (.d x) := by
      show (β[i]?).bind _ = _
      rw [e]
      rfl
    show (resL1 β (.s i)).bind _ = _
    rw [r1]
    rfl
theorem qr_one {r : Da} {asv : List AV} (o : own β l = some r) (hb : backP asv β = as') : Qr (.one (.d r)) asv as' (.rt (.one l) β) := ⟨_, _, rfl, resRL_one o, hb⟩
inductive Lp (σ ρ : Type)
  | nx (s : σ)
  | bk (s : σ)
  | rt (r : ρ)
def forU {σ : Type} (f : Da → σ → Option σ) : List Da → σ → Option σ
  | [], s => some s
  | x :: xs, s => (f x s).bind fun s' => forU f xs s'
def forE {σ ρ : Type} (f : Da → σ → Option (Lp σ ρ)) : List Da → σ → Option (Lp σ ρ)
  | [], s => some (.nx s)
  | x :: xs, s => (f x s).bind fun o => match o with
    | .nx s' => forE f xs s'
    | .bk s' => some (.bk s')
    | .rt r => some (.rt r)
theorem forL_u {σ ι : Type} {g : MG} {b : MS} (St : σ → ι → AS) {f : Da → σ → Option σ} (h : ∀ x s i s', f x s = some s' → Wp (g x (St s i)) fun γ => Wp (b γ) fun o => ∃ i', o = .nx (St s' i') ∨ o = .ct (St s' i')) :
    ∀ {xs : List Da} {s s' : σ} {i : ι}, forU f xs s = some s' → Wp (forL g b xs (St s i)) fun o => ∃ i', o = .nx (St s' i')
  | [], s, s', i, e => by
    cases e
    exact ⟨_, rfl, i, rfl⟩
  | x :: xs, s, s', i, e => by
    unfold forU at e
    obtain ⟨s1, e1, e⟩ := bse e
    unfold forL
    rw [wp_bind]
    refine (h x s i s1 e1).mono fun γ hg => ?_
    rw [wp_bind]
    refine hg.mono fun o ho => ?_
    obtain ⟨i', rfl | rfl⟩ := ho
    · exact forL_u St h e
    · exact forL_u St h e
theorem for_u {σ ι : Type} {it : MI} {g : MG} {b : MS} (St : σ → ι → AS) {f : Da → σ → Option σ} {s s' : σ} (i : ι) (hi : it α = some ((xs, []), β)) (e0 : β = St s i) (e : forU f xs s = some s')
    (h : ∀ x s i s', f x s = some s' → Wp (g x (St s i)) fun γ => Wp (b γ) fun o => ∃ i', o = .nx (St s' i') ∨ o = .ct (St s' i')) : Wp (sForD it g b α) fun o => ∃ γ, o = .nx γ ∧ ∃ i', γ = St s' i' := by
  refine for_go hi ?_
  rw [e0]
  refine (forL_u St h e).mono fun o ho => ?_
  obtain ⟨i', rfl⟩ := ho
  exact ⟨_, rfl, i', rfl⟩
theorem forL_e {σ ι ρ : Type} {g : MG} {b : MS} (St : σ → ι → AS) (Qx : ρ → Out → Prop) {f : Da → σ → Option (Lp σ ρ)} (h : ∀ x s i o', f x s = some o' → Wp (g x (St s i)) fun γ => Wp (b γ) fun o => match o' with
      | .nx s' => ∃ i', o = .nx (St s' i') ∨ o = .ct (St s' i')
      | .bk s' => ∃ i', o = .bk (St s' i')
      | .rt r => (∃ ρ' γ', o = .rt ρ' γ') ∧ Qx r o) :
    ∀ {xs : List Da} {s : σ} {o' : Lp σ ρ} {i : ι}, forE f xs s = some o' → Wp (forL g b xs (St s i)) fun o => match o' with
      | .nx s' => ∃ i', o = .nx (St s' i')
      | .bk s' => ∃ i', o = .bk (St s' i')
      | .rt r => (∃ ρ' γ', o = .rt ρ' γ') ∧ Qx r o
  | [], s, o', i, e => by
    cases e
    exact ⟨_, rfl, i, rfl⟩
  | x :: xs, s, o', i, e => by
    unfold forE at e
    obtain ⟨o1, e1, e⟩ := bse e
    unfold forL
    rw [wp_bind]
    refine (h x s i o1 e1).mono fun γ hg => ?_
    rw [wp_bind]
    refine hg.mono fun o ho => ?_
    cases o1 with
    | nx s1 =>
      obtain ⟨i', rfl | rfl⟩ := ho
      · exact forL_e St Qx h e
      · exact forL_e St Qx h e
    | bk s1 =>
      cases e
      obtain ⟨i', rfl⟩ := ho
      exact ⟨_, rfl, i', rfl⟩
    | rt r =>
      cases e
      obtain ⟨⟨ρ', γ', rfl⟩, hq⟩ := ho
      exact ⟨_, rfl, ⟨ρ', γ', rfl⟩, hq⟩
theorem for_go2 {i : MI} {g : MG} {b : MS} {xs : List Da} {Q : Out → Prop} (hi : i α = some ((xs, []), α1)) (h : Wp (forL g b xs α1) fun o => match o with
    | .nx γ => Q (.nx γ)
    | .bk γ => Q (.nx γ)
    | .ct γ => Q (.nx γ)
    | .rt r γ => Q (.rt r γ)) : Wp (sForD i g b α) Q := by
  unfold sForD
  rw [wp_bind, hi, wp_some, wp_bind]
  dsimp only
  rw [lockA_nil]
  refine h.mono fun o ho => ?_
  rw [wp_some]
  have fr : o.freed α1 [] = match o with
      | .nx γ => .nx γ
      | .bk γ => .nx γ
      | .ct γ => .nx γ
      | .rt r γ => .rt r γ := by
    cases o <;> (simp only [Out.freed, freeA_nil])
  rw [fr]
  cases o <;> exact ho
/-- a loop that may end early, or end all -/
theorem for_e {σ ι ρ : Type} {it : MI} {g : MG} {b : MS} (St : σ → ι → AS) (Qx : ρ → Out → Prop) {f : Da → σ → Option (Lp σ ρ)} {s : σ} {o' : Lp σ ρ} (i : ι) (hi : it α = some ((xs, []), β)) (e0 : β = St s i) (e : forE f xs s = some o')
    (h : ∀ x s i o', f x s = some o' → Wp (g x (St s i)) fun γ => Wp (b γ) fun o => match o' with
      | .nx s' => ∃ i', o = .nx (St s' i') ∨ o = .ct (St s' i')
      | .bk s' => ∃ i', o = .bk (St s' i')
      | .rt r => (∃ ρ' γ', o = .rt ρ' γ') ∧ Qx r o) : Wp (sForD it g b α) fun o => match o' with
      | .nx s' => ∃ γ, o = .nx γ ∧ ∃ i', γ = St s' i'
      | .bk s' => ∃ γ, o = .nx γ ∧ ∃ i', γ = St s' i'
      | .rt r => (∃ ρ' γ', o = .rt ρ' γ') ∧ Qx r o := by
  refine for_go2 hi ?_
  rw [e0]
  refine (forL_e St Qx h e).mono fun o ho => ?_
  cases o' with
  | nx s1 =>
    obtain ⟨i', rfl⟩ := ho
    exact ⟨_, rfl, i', rfl⟩
  | bk s1 =>
    obtain ⟨i', rfl⟩ := ho
    exact ⟨_, rfl, i', rfl⟩
  | rt r =>
    obtain ⟨⟨ρ', γ', rfl⟩, hq⟩ := ho
    exact ⟨⟨ρ', γ', rfl⟩, hq⟩
theorem wg {g : MG} {b : MS} {Q : Out → Prop} (h : g x α = some β) (k : Wp (b β) Q) : Wp (g x α) fun γ => Wp (b γ) Q := ⟨_, h, k⟩
theorem callO_u {F : FV} {mf : MF} (h : mf α = some (.r v, β)) (hF : uC F [.r false false v] = some x) : eCallO F mf α = some (.d x, β) := by
  unfold uC at hF
  obtain ⟨y, e, rfl⟩ := Option.map_eq_some_iff.mp hF
  unfold eCallO
  rw [h, Option.bind_some]
  show (F [.r false false v]).bind _ = _
  rw [e, Option.bind_some]
theorem asg_u2 {m : ME} {g : MG} (e : v = x) (h : m α = some (l, β)) (o : own β l = some v) (hg : g x β = some γ) : sAsg m g α = some (.nx γ) := asg_u h (e ▸ o) hg
theorem wret_v {m : ME} {Q : Out → Prop} (h : ∃ l, m α = some (l, β) ∧ own β l = some x) (k : ∀ l, own β l = some x → Q (.rt (.one l) β)) : Wp (sRet m α) Q := let ⟨l, e, o⟩ := h; wret e (k l o)
def lpK {σ ρ : Type} : Lp σ ρ → (σ → Option ρ) → Option ρ
  | .nx s, k => k s
  | .bk s, k => k s
  | .rt r, _ => some r
def lpL {σ τ ρ : Type} : Lp σ ρ → (σ → Option (Lp τ ρ)) → Option (Lp τ ρ)
  | .nx s, k => k s
  | .bk s, k => k s
  | .rt r, _ => some (.rt r)
theorem lpK_go {σ ρ : Type} {o : Lp σ ρ} {s : σ} {k : σ → Option ρ} {r : ρ} (h : o = .nx s ∨ o = .bk s) (e : lpK o k = some r) : k s = some r := by
  rcases h with rfl | rfl <;> exact e
theorem lpL_go {σ τ ρ : Type} {o : Lp σ ρ} {s : σ} {k : σ → Option (Lp τ ρ)} {r : Lp τ ρ} (h : o = .nx s ∨ o = .bk s) (e : lpL o k = some r) : k s = some r := by
  rcases h with rfl | rfl <;> exact e
theorem seq_for_e {σ ι ρ : Type} {it : MI} {g : MG} {b n : MS} {Q : Out → Prop} (St : σ → ι → AS) (Qx : ρ → Out → Prop) {f : Da → σ → Option (Lp σ ρ)} {s : σ} {o' : Lp σ ρ} (i : ι) (hi : it α = some ((xs, []), β)) (e0 : β = St s i) (e : forE f xs s = some o')
    (h : ∀ x s i o', f x s = some o' → Wp (g x (St s i)) fun γ => Wp (b γ) fun o => match o' with
      | .nx s' => ∃ i', o = .nx (St s' i') ∨ o = .ct (St s' i')
      | .bk s' => ∃ i', o = .bk (St s' i')
      | .rt r => (∃ ρ' γ', o = .rt ρ' γ') ∧ Qx r o)
    (k : ∀ s', (o' = .nx s' ∨ o' = .bk s') → ∀ i', Wp (n (St s' i')) Q) (kr : ∀ r, o' = .rt r → ∀ o, (∃ ρ' γ', o = .rt ρ' γ') → Qx r o → Q o) : Wp (sSeq (sForD it g b) n α) Q := by
  rw [wp_seq]
  refine (for_e St Qx i hi e0 e h).mono fun o ho => ?_
  cases o' with
  | nx s1 => obtain ⟨γ, rfl, i', rfl⟩ := ho; exact k s1 (.inl rfl) i'
  | bk s1 => obtain ⟨γ, rfl, i', rfl⟩ := ho; exact k s1 (.inr rfl) i'
  | rt r =>
    obtain ⟨⟨ρ', γ', rfl⟩, hq⟩ := ho
    exact kr r rfl _ ⟨_, _, rfl⟩ hq
theorem last_for_e {σ ι ρ : Type} {it : MI} {g : MG} {b : MS} {Q : Out → Prop} (St : σ → ι → AS) (Qx : ρ → Out → Prop) {f : Da → σ → Option (Lp σ ρ)} {s : σ} {o' : Lp σ ρ} (i : ι) (hi : it α = some ((xs, []), β)) (e0 : β = St s i) (e : forE f xs s = some o')
    (h : ∀ x s i o', f x s = some o' → Wp (g x (St s i)) fun γ => Wp (b γ) fun o => match o' with
      | .nx s' => ∃ i', o = .nx (St s' i') ∨ o = .ct (St s' i')
      | .bk s' => ∃ i', o = .bk (St s' i')
      | .rt r => (∃ ρ' γ', o = .rt ρ' γ') ∧ Qx r o)
    (k : ∀ s', (o' = .nx s' ∨ o' = .bk s') → ∀ i', Q (.nx (St s' i'))) (kr : ∀ r, o' = .rt r → ∀ o, (∃ ρ' γ', o = .rt ρ' γ') → Qx r o → Q o) : Wp (sForD it g b α) Q := by
  refine (for_e St Qx i hi e0 e h).mono fun o ho => ?_
  cases o' with
  | nx s1 => obtain ⟨γ, rfl, i', rfl⟩ := ho; exact k s1 (.inl rfl) i'
  | bk s1 => obtain ⟨γ, rfl, i', rfl⟩ := ho; exact k s1 (.inr rfl) i'
  | rt r =>
    obtain ⟨⟨ρ', γ', rfl⟩, hq⟩ := ho
    exact kr r rfl _ ⟨_, _, rfl⟩ hq
noncomputable def uR1 (F : FV) (as : List AV) (i : Nat) : Option (Da × Da) := (uR F as [i]).bind fun y => (un1l y.2).bind fun p => some (y.1, p)
theorem uR1_eq {F : FV} {asv : List AV} {i : Nat} (h : uR1 F asv i = some (x, a)) : uR F asv [i] = some (x, [a]) := by
  unfold uR1 at h
  obtain ⟨⟨y, ys⟩, e, h⟩ := bse h
  obtain ⟨p, e2, h⟩ := bse h
  cases h
  cases un1l_eq e2
  exact e
theorem uR1_of {F : FV} {asv bsv : List AV} {i : Nat} {v : Rv} (h : F asv = some (v, bsv)) (hs : seesA bsv [i] = some [a]) (e : bsv = setAs asv [i] [a]) : uR1 F asv i = some (v.da, a) := by
  unfold uR1
  rw [uR_of h hs e]
  rfl
theorem uC_of {F : FV} {asv bsv : List AV} {v : Rv} (h : F asv = some (v, bsv)) : uC F asv = some v.da := by
  unfold uC
  rw [h]
  rfl
theorem mand_s {σ : Type} {m n : MT} {B : Option (Bool × σ)} {S : σ → AS} {s0 s1 : σ} (h1 : m α = some (t, β)) (e0 : S s0 = β) (h2 : t = true → ∀ x s, B = some (x, s) → n β = some (x, S s)) (h : cond t B (some (false, s0)) = some (w, s1)) : mAnd m n α = some (w, S s1) := by
  unfold mAnd
  rw [h1, Option.bind_some]
  rcases csp h with ⟨rfl, e⟩ | ⟨rfl, e⟩
  · rw [if_pos rfl, h2 rfl _ _ e]
  · cases e; rw [if_neg (by simp), e0]
theorem put_none {as' : List AV} {j : Nat} {q : AV} (hj : β[j]? = some q) (hq : q.isRoot = true) (n : j ∉ ls.filterMap (rootIx β)) : ls.findIdx? (isS j) = none := by
  cases f : ls.findIdx? (isS j) with
  | none => rfl
  | some k =>
    refine (n (List.mem_filterMap.mpr ⟨_, List.mem_of_getElem? (findIdx?_isS f), ?_⟩)).elim
    show (β[j]?).bind _ = _
    rw [hj]
    simp [hq]
theorem put1_u {as' : List AV} {i k : Nat} {q q' : AV} (hi : β[i]? = some q) (hq : q.isRoot = true) (hr : ls.filterMap (rootIx β) = [i]) (hf : ls.findIdx? (isS i) = some k) (ha : as'[k]? = some q') (he : β.set i q' = γ) : putBack β ls as' = γ := by
  rw [← he]
  unfold putBack
  apply List.ext_getElem?
  intro j
  rw [List.getElem?_mapIdx]
  by_cases e : j = i
  · subst e
    rw [hi, List.getElem?_set_self (getElem?_lt hi), Option.map_some, if_pos hq, hf]
    dsimp only
    rw [ha]
    rfl
  · rw [List.getElem?_set_ne (fun z => e z.symm)]
    cases z : β[j]? with
    | none => rfl
    | some r =>
      rw [Option.map_some]
      by_cases hr2 : r.isRoot = true
      · rw [if_pos hr2, put_none (as' := as') z hr2 (by rw [hr]; simpa using e)]
      · rw [if_neg hr2]
end
end Vm
namespace Vm
open PySem PySem.Spec PyProof.Rows L2 Gk
section
variable {α α1 β γ : AS} {l : Lc} {ls ks : List Lc} {a b c x y x' : Da} {xs : List Da} {rs : List R1}
theorem callnp_u {F : FV} {n m : Nat} {gL : List Lc → List Lc → List Lc} {ma mk : MA} {asv : List AV} (h1 : ma α = some (ls, β)) (h2 : mk β = some (ks, γ)) (hl : ls.length = n ∧ ks.length = m) (ha : argsOf γ (gL ls ks) = some asv) (hn : (gL ls ks).filterMap (rootIx γ) = []) (hF : uC F asv = some x) : eCallN n m F gL ma mk α = some (.d x, γ) := by
  obtain ⟨v, z, _, e, rfl⟩ := callM_u ha hn hF
  unfold eCallN
  rw [h1, Option.bind_some, h2, Option.bind_some, if_pos hl, e, Option.bind_some]
def setL (α0 α : AS) : List Nat → AS
  | [] => α
  | v :: vs => (setL α0 α vs).set v ((α0[v]?).getD .un)
theorem setL_get {α0 α : AS} {i : Nat} : ∀ vs : List Nat, (setL α0 α vs)[i]? = (α[i]?).map fun r => if i ∈ vs then (α0[i]?).getD .un else r
  | [] => by
    show α[i]? = _
    cases α[i]? <;> simp
  | v :: vs => by
    show ((setL α0 α vs).set v _)[i]? = _
    rw [List.getElem?_set, setL_get vs]
    by_cases h : v = i
    · subst h
      rw [if_pos rfl]
      have : (setL α0 α vs).length = α.length := by
        clear setL_get
        induction vs with
        | nil => rfl
        | cons a l ih => show ((setL α0 α l).set a _).length = _; rw [List.length_set, ih]
      rw [this]
      by_cases hl : v < α.length
      · rw [if_pos hl, List.getElem?_eq_getElem hl]
        simp
      · rw [if_neg hl, List.getElem?_eq_none (l := α) (by omega)]
        rfl
    · rw [if_neg h]
      cases α[i]? with
      | none => rfl
      | some r =>
        have : (i ∈ v :: vs) ↔ i ∈ vs := by simp [Ne.symm h]
        simp only [Option.map_some, this]
theorem setL_eq {α0 α : AS} (vs : List Nat) : backA α0 α vs = setL α0 α vs := List.ext_getElem? fun i => by rw [backA_get, setL_get]
theorem cm_s2 {τ σ : Type} {i : MI} {vs : List Nat} {g : MG} {tt : MT} {u : AS → Option (List τ × AS)} {ys : List τ} {f : Da → σ → Option (List τ × σ)} (St : σ → AS) {s s' : σ} (hi : i α = some ((xs, []), β)) (nr : noRoots β vs) (hw : wipeA β vs = St s) (h : ∀ x s y s', f x s = some (y, s') → CmS g tt u vs St x s y s') (e : flatS f xs s = some (ys, s')) (hb : setL β (St s') vs = γ) : cmI i vs g tt u α = some (ys, γ) :=
  cm_s St hi nr hw h e ((setL_eq vs).trans hb)
end
end Vm
namespace Vm
open PySem PySem.Spec PyProof.Rows L2 Gk Mth
section
variable {a b c d x y z : Da} {xs ys zs : List Da} {s t : Bool}
theorem asB_b : asB (.bool t) = some t := rfl
theorem asI_i {i : Int} : asI (.int i) = some i := rfl
theorem un2_t : un2 (.tuple [a, b]) = some (a, b) := rfl
theorem un3_t : un3 (.tuple [a, b, c]) = some (a, b, c) := rfl
theorem un4_t : un4 (.tuple [a, b, c, d]) = some (a, b, c, d) := rfl
theorem unT_t : unT (.tuple xs) = some xs := rfl
theorem limU_ok {τ : Type} {xs : List τ} (h : xs.length ≤ LIM) : limU xs = some xs := if_pos h
theorem tru_b : truD (.bool t) = t := rfl
theorem tru_t : truD (.tuple xs) = !xs.isEmpty := rfl
theorem tru_l : truD (.list xs) = !xs.isEmpty := rfl
theorem tru_n : truD .none = false := rfl
theorem isN_n {neg : Bool} : isN neg .none = !neg := rfl
theorem isN_t {neg : Bool} : isN neg (.tuple xs) = neg := rfl
theorem isN_i {neg : Bool} {i : Int} : isN neg (.int i) = neg := rfl
theorem isN_l {neg : Bool} : isN neg (.list xs) = neg := rfl
theorem isi_tt : isiU "tuple" (.tuple xs) = some true := rfl
theorem isi_tl : isiU "tuple" (.list xs) = some false := rfl
theorem isi_ti {i : Int} : isiU "tuple" (.int i) = some false := rfl
theorem isi_tn : isiU "tuple" .none = some false := rfl
theorem isi_ii {i : Int} : isiU "int" (.int i) = some true := rfl
theorem isi_ib : isiU "int" (.bool t) = some true := rfl
theorem isi_is {q : Str} : isiU "int" (.str q) = some false := rfl
theorem isi_bi {i : Int} : isiU "bool" (.int i) = some false := rfl
theorem isi_bb : isiU "bool" (.bool t) = some true := rfl
theorem isi_bs {q : Str} : isiU "bool" (.str q) = some false := rfl
theorem isi_ss {q : Str} : isiU "str" (.str q) = some true := rfl
theorem isi_si {i : Int} : isiU "str" (.int i) = some false := rfl
theorem isi_st : isiU "str" (.tuple xs) = some false := rfl
theorem isi_sn : isiU "str" .none = some false := rfl
theorem isi_it : isiU "int" (.tuple xs) = some false := rfl
theorem isi_bt : isiU "bool" (.tuple xs) = some false := rfl
theorem len_t : fLenB [.tuple xs] = some (.int (xs.length : Int)) := rfl
theorem len_t0 : fLenB [.tuple []] = some (.int 0) := rfl
theorem len_t1 : fLenB [.tuple [a]] = some (.int 1) := rfl
theorem len_t2 : fLenB [.tuple [a, b]] = some (.int 2) := rfl
theorem len_t3 : fLenB [.tuple [a, b, c]] = some (.int 3) := rfl
theorem len_l : fLenB [.list xs] = some (.int (xs.length : Int)) := rfl
theorem len_s {q : Str} : fLenB [.str q] = some (.int (q.length : Int)) := rfl
theorem len_dt {kvs : List (List Key × Da)} : fLenB [.dt kvs] = some (.int (kvs.length : Int)) := rfl
theorem len_dk {kvs : List (Key × Da)} : fLenB [.dk kvs] = some (.int (kvs.length : Int)) := rfl
theorem tup_l : fTuple [.list xs] = some (.tuple xs) := rfl
theorem tup_t : fTuple [.tuple xs] = some (.tuple xs) := rfl
theorem list_l : fList [.list xs] = some xs := rfl
theorem list_t : fList [.tuple xs] = some xs := rfl
theorem it_l : iterU (.list xs) = some xs := rfl
theorem it_t : iterU (.tuple xs) = some xs := rfl
theorem add_i {i j : Int} : fAdd (.int i) (.int j) = some (.int (i + j)) := rfl
theorem sub_i {i j : Int} : fSub (.int i) (.int j) = some (.int (i - j)) := rfl
theorem add_n {i j : Nat} : fAdd (.int (i : Int)) (.int (j : Int)) = some (.int ((i + j : Nat) : Int)) := by rw [add_i]; rfl
theorem add_1 {i : Nat} : fAdd (.int (i : Int)) (.int 1) = some (.int ((i + 1 : Nat) : Int)) := by rw [add_i]; rfl
theorem one_add {i : Nat} : fAdd (.int 1) (.int (i : Int)) = some (.int ((i + 1 : Nat) : Int)) := by rw [add_i]; congr 2; omega
theorem lt_i {i j : Int} : fLt (.int i) (.int j) = some (.bool (decide (i < j))) := rfl
theorem ltA_i {i j : Int} : fLtA (.int i) (.int j) = some (.bool (decide (i < j))) := rfl
theorem le_i {i j : Int} : fLe (.int i) (.int j) = some (.bool (decide (i ≤ j))) := rfl
theorem gt_i {i j : Int} : fGt (.int i) (.int j) = some (.bool (decide (j < i))) := rfl
theorem ge_i {i j : Int} : fGe (.int i) (.int j) = some (.bool (decide (j ≤ i))) := rfl
theorem chain_ll {i j k : Int} : chainU fLe fLe (.int i) (.int j) (.int k) = some (.bool (decide (i ≤ j) && decide (j ≤ k))) := by
  unfold chainU
  rw [le_i, Option.bind_some, asB_b, Option.bind_some, le_i]
  cases decide (i ≤ j) <;> rfl
theorem chain_lt {i j k : Int} : chainU fLe fLt (.int i) (.int j) (.int k) = some (.bool (decide (i ≤ j) && decide (j < k))) := by
  unfold chainU
  rw [le_i, Option.bind_some, asB_b, Option.bind_some, lt_i]
  cases decide (i ≤ j) <;> rfl
theorem eq_i {i j : Int} : fEqS (.int i) (.int j) = some (.bool (i == j)) := by
  unfold fEqS fEqP
  rw [show strs2 (.int i) (.int j) = none from rfl, Option.none_or, show toPy (.int i) = some (.int i) from rfl, Option.bind_some, show toPy (.int j) = some (.int j) from rfl, Option.bind_some, if_pos ⟨rfl, rfl⟩]
  rfl
theorem ne_i {i j : Int} : fNeS (.int i) (.int j) = some (.bool (i != j)) := by
  unfold fNeS fEqP
  rw [show strs2 (.int i) (.int j) = none from rfl, Option.none_or, show toPy (.int i) = some (.int i) from rfl, Option.bind_some, show toPy (.int j) = some (.int j) from rfl, Option.bind_some, if_pos ⟨rfl, rfl⟩]
  rfl
theorem ne_22 : fNeS (.int 2) (.int 2) = some (.bool false) := ne_i
theorem ne_12 : fNeS (.int 1) (.int 2) = some (.bool true) := ne_i
theorem ne_33 : fNeS (.int 3) (.int 3) = some (.bool false) := ne_i
theorem eq_22 : fEqS (.int 2) (.int 2) = some (.bool true) := eq_i
theorem eq_11 : fEqS (.int 1) (.int 1) = some (.bool true) := eq_i
theorem eq_n {i j : Nat} : fEqS (.int (i : Int)) (.int (j : Int)) = some (.bool (i == j)) := by
  rw [eq_i]
  congr 2
  rw [Bool.eq_iff_iff, beq_iff_eq, beq_iff_eq]
  omega
theorem ne_n {i j : Nat} : fNeS (.int (i : Int)) (.int (j : Int)) = some (.bool (i != j)) := by
  rw [ne_i]
  congr 2
  show (!(((i : Nat) : Int) == (j : Int))) = !(i == j)
  congr 1
  rw [Bool.eq_iff_iff, beq_iff_eq, beq_iff_eq]
  omega
theorem le_n {i j : Nat} : fLe (.int (i : Int)) (.int (j : Int)) = some (.bool (decide (i ≤ j))) := by rw [le_i]; congr 2; rw [Bool.eq_iff_iff]; simp
theorem lt_n {i j : Nat} : fLt (.int (i : Int)) (.int (j : Int)) = some (.bool (decide (i < j))) := by rw [lt_i]; congr 2; rw [Bool.eq_iff_iff]; simp
theorem ltA_n {i j : Nat} : fLtA (.int (i : Int)) (.int (j : Int)) = some (.bool (decide (i < j))) := by rw [ltA_i]; congr 2; rw [Bool.eq_iff_iff]; simp
theorem gt_n {i j : Nat} : fGt (.int (i : Int)) (.int (j : Int)) = some (.bool (decide (j < i))) := by rw [gt_i]; congr 2; rw [Bool.eq_iff_iff]; simp
theorem ge_n {i j : Nat} : fGe (.int (i : Int)) (.int (j : Int)) = some (.bool (decide (j ≤ i))) := by rw [ge_i]; congr 2; rw [Bool.eq_iff_iff]; simp
theorem gt_0 {i : Nat} : fGt (.int (i : Int)) (.int 0) = some (.bool (decide (0 < i))) := gt_n (j := 0)
theorem gt_1 {i : Nat} : fGt (.int (i : Int)) (.int 1) = some (.bool (decide (1 < i))) := gt_n (j := 1)
theorem gt_2 {i : Nat} : fGt (.int (i : Int)) (.int 2) = some (.bool (decide (2 < i))) := gt_n (j := 2)
theorem eqn_0 {i : Nat} : fEqS (.int (i : Int)) (.int 0) = some (.bool (i == 0)) := eq_n (j := 0)
theorem eqn_1 {i : Nat} : fEqS (.int (i : Int)) (.int 1) = some (.bool (i == 1)) := eq_n (j := 1)
theorem eqn_2 {i : Nat} : fEqS (.int (i : Int)) (.int 2) = some (.bool (i == 2)) := eq_n (j := 2)
theorem eqn_3 {i : Nat} : fEqS (.int (i : Int)) (.int 3) = some (.bool (i == 3)) := eq_n (j := 3)
theorem nen_3 {i : Nat} : fNeS (.int (i : Int)) (.int 3) = some (.bool (i != 3)) := ne_n (j := 3)
theorem nen_2 {i : Nat} : fNeS (.int (i : Int)) (.int 2) = some (.bool (i != 2)) := ne_n (j := 2)
theorem eq_s {p q : Str} : fEqS (.str p) (.str q) = some (.bool (p == q)) := rfl
theorem ne_s {p q : Str} : fNeS (.str p) (.str q) = some (.bool (!(p == q))) := rfl
theorem ix0 : fSubs (.tuple (x :: xs)) (.int 0) = some x := sub0 x xs
theorem ix1 : fSubs (.tuple (x :: y :: xs)) (.int 1) = some y := sub1 x y xs
theorem ix2 : fSubs (.tuple (x :: y :: z :: xs)) (.int 2) = some z := by
  show atI _ _ = _
  unfold atI ixN
  rw [if_pos (by decide), if_pos (by simp only [List.length_cons]; omega)]
  rfl
theorem ix3 {u : Da} : fSubs (.tuple (x :: y :: z :: u :: xs)) (.int 3) = some u := by
  show atI _ _ = _
  unfold atI ixN
  rw [if_pos (by decide), if_pos (by simp only [List.length_cons]; omega)]
  rfl
theorem cut2 : fSl none (some 2) (.tuple (x :: y :: xs)) = some (.tuple [x, y]) := by
  show some (Da.tuple (cutD _ _ _)) = _
  congr 2
theorem flatU_m {τ β : Type} {f : Da → Option (List β)} {e : τ → Da} {g : τ → List β} : ∀ {L : List τ}, (∀ x ∈ L, f (e x) = some (g x)) → flatU f (L.map e) = some (L.flatMap g)
  | [], _ => rfl
  | x :: L, h => by
    rw [List.map_cons]
    unfold flatU
    rw [h x (List.mem_cons_self ..), Option.bind_some, flatU_m (L := L) fun y m => h y (List.mem_cons_of_mem _ m), Option.bind_some, List.flatMap_cons]
theorem flatU_1 {τ β : Type} {f : Da → Option (List β)} {e : τ → Da} {g : τ → β} {L : List τ} (h : ∀ x ∈ L, f (e x) = some [g x]) : flatU f (L.map e) = some (L.map g) := by
  rw [flatU_m (g := fun x => [g x]) h, flat_ones]
theorem flatU_f {τ β : Type} {f : Da → Option (List β)} {e : τ → Da} {p : τ → Bool} {g : τ → β} {L : List τ} (h : ∀ x ∈ L, f (e x) = some (cond (p x) [g x] [])) : flatU f (L.map e) = some ((L.filter p).map g) := by
  rw [flatU_m h]
  congr 1
  clear h
  induction L with
  | nil => rfl
  | cons x L ih =>
    rw [List.flatMap_cons, ih, List.filter_cons]
    cases p x <;> rfl
/-- a loop by an invariant of what is done -/
theorem forU_inv {τ σ : Type} {f : Da → σ → Option σ} {e : τ → Da} (J : List τ → σ → Prop) {L : List τ} {s : σ} (h0 : J [] s) (h : ∀ done x rest s, done ++ x :: rest = L → J done s → ∃ s', f (e x) s = some s' ∧ J (done ++ [x]) s') : ∃ s', forU f (L.map e) s = some s' ∧ J L s' := by
  have all : ∀ rest done s, done ++ rest = L → J done s → ∃ s', forU f (rest.map e) s = some s' ∧ J L s' := by
    intro rest
    induction rest with
    | nil => intro done s e1 j; rw [List.append_nil] at e1; subst e1; exact ⟨s, rfl, j⟩
    | cons x rest ih =>
      intro done s e1 j
      obtain ⟨s1, h1, j1⟩ := h done x rest s e1 j
      obtain ⟨s2, h2, j2⟩ := ih (done ++ [x]) s1 (by rw [List.append_assoc]; exact e1) j1
      refine ⟨s2, ?_, j2⟩
      rw [List.map_cons]
      unfold forU
      rw [h1, Option.bind_some, h2]
  exact all L [] s rfl h0
/-- a loop that may end all: by an invariant, or by what it ends with -/
theorem forE_inv {τ σ ρ : Type} {f : Da → σ → Option (Lp σ ρ)} {e : τ → Da} (J : List τ → σ → Prop) (R : ρ → Prop) {L : List τ} {s : σ} (h0 : J [] s)
    (h : ∀ done x rest s, done ++ x :: rest = L → J done s → (∃ s', f (e x) s = some (.nx s') ∧ J (done ++ [x]) s') ∨ ∃ r, f (e x) s = some (.rt r) ∧ R r) : (∃ s', forE f (L.map e) s = some (.nx s') ∧ J L s') ∨ ∃ r, forE f (L.map e) s = some (.rt r) ∧ R r := by
  have all : ∀ rest done s, done ++ rest = L → J done s → (∃ s', forE f (rest.map e) s = some (.nx s') ∧ J L s') ∨ ∃ r, forE f (rest.map e) s = some (.rt r) ∧ R r := by
    intro rest
    induction rest with
    | nil => intro done s e1 j; rw [List.append_nil] at e1; subst e1; exact .inl ⟨s, rfl, j⟩
    | cons x rest ih =>
      intro done s e1 j
      rw [List.map_cons]
      unfold forE
      rcases h done x rest s e1 j with ⟨s1, h1, j1⟩ | ⟨r, h1, hr⟩
      · rw [h1, Option.bind_some]
        exact ih (done ++ [x]) s1 (by rw [List.append_assoc]; exact e1) j1
      · rw [h1, Option.bind_some]
        exact .inr ⟨r, rfl, hr⟩
  exact all L [] s rfl h0
theorem rg1_n {n : Nat} (h : n ≤ 1000000) : rg1U (.int (n : Int)) = some ((List.range n).map fun k : Nat => Da.int (k : Int)) := by
  unfold rg1U
  rw [asI_i, Option.bind_some, if_pos ⟨by omega, by omega⟩, Int.toNat_natCast]
theorem wpb {τ υ : Type} {o : Option τ} {k : τ → Option υ} {a : τ} {Q : υ → Prop} (e : o = some a) (h : Wp (k a) Q) : Wp (o.bind k) Q := by
  rw [e]
  exact h
theorem wpb_forE {τ σ ρ υ : Type} {f : Da → σ → Option (Lp σ ρ)} {k : Lp σ ρ → Option υ} {Q : υ → Prop} {s : σ} (L : List τ) (e : τ → Da) (J : List τ → σ → Prop) (h0 : J [] s)
    (h : ∀ done x rest s, done ++ x :: rest = L → J done s → Wp (f (e x) s) fun o => ∃ s', o = .nx s' ∧ J (done ++ [x]) s') (fin : ∀ s', J L s' → Wp (k (.nx s')) Q) : Wp ((forE f (L.map e) s).bind k) Q := by
  rcases forE_inv (f := f) (e := e) (L := L) (s := s) J (fun _ => False) h0 (fun done x rest s e1 j => by
    obtain ⟨o, e2, s', rfl, j'⟩ := h done x rest s e1 j
    exact .inl ⟨s', e2, j'⟩) with ⟨s', e1, j⟩ | ⟨r, _, hr⟩
  · exact wpb e1 (fin s' j)
  · exact hr.elim
theorem wpb_forU {τ σ υ : Type} {f : Da → σ → Option σ} {k : σ → Option υ} {Q : υ → Prop} {s : σ} (L : List τ) (e : τ → Da) (J : List τ → σ → Prop) (h0 : J [] s)
    (h : ∀ done x rest s, done ++ x :: rest = L → J done s → Wp (f (e x) s) fun s' => J (done ++ [x]) s') (fin : ∀ s', J L s' → Wp (k s') Q) : Wp ((forU f (L.map e) s).bind k) Q := by
  obtain ⟨s', e1, j⟩ := forU_inv (f := f) (e := e) (L := L) (s := s) J h0 (fun done x rest s e1 j => by
    obtain ⟨s', e2, j'⟩ := h done x rest s e1 j
    exact ⟨s', e2, j'⟩)
  exact wpb e1 (fin s' j)
end
end Vm
namespace Wo
open PySem PySem.Spec PyProof.Rows L2 Gk Vm Mth
def backD (i : Nat) : Da := .tuple [.str (Str.ofString "back"), .int (i : Int)]
structure WhJ (begun : List Pl) (gnd : Da) (hiF : Nat → List Nat) (Kn : List Pl) (F : List (Pl × Da)) : Prop where
  nd : (F.map (·.1)).Nodup
  sh : ∃ rest, F = begun.map (fun x => (x, gnd)) ++ rest ∧ ∀ y ∈ rest, ∃ i, (y.1.1, i) ∈ begun ∧ y.1.2 ∈ hiF i ∧ y.2 = backD i ∧ y.1 ∉ Kn
end Wo
namespace Wo
open PySem PySem.Spec PyProof.Rows L2 Gk Vm Mth
abbrev Tr3 := Nat × Nat × Nat
abbrev Gn := Tr3 × List Nat
def k3 (x : Tr3) : List Key := [.inl (x.1 : Int), .inl (x.2.1 : Int), .inl (x.2.2 : Int)]
def t3 (x : Tr3) : Da := .tuple [.int (x.1 : Int), .int (x.2.1 : Int), .int (x.2.2 : Int)]
def hits (m : Pl) (g : Gn) : Bool := decide (g.1.2.2 = m.2) && decide (m.1 ∈ g.2)
structure NdOk (ND : List (List Key × Da)) (gs : List Gn) : Prop where
  get : ∀ m : Pl, (valA ND (kP m)).getD (.tuple []) = .list ((gs.filter (hits m)).map fun g => t3 g.1) ∨ (valA ND (kP m)).getD (.tuple []) = .tuple ((gs.filter (hits m)).map fun g => t3 g.1)
end Wo
namespace Wo
open PySem PySem.Spec PyProof.Rows L2 Gk Vm Mth
abbrev PostS := Mth.Post Str
def postT (e : PostS) : Da := .tuple [.int (e.c : Int), .str e.nm, natsT e.arms]
abbrev Way := Nat × Str × Nat
/-- what the dict of needs holds -/
structure NdF (n m : Nat) (ND : List (List Key × Da)) (nd : Pl → List Tr3) : Prop where
  get : ∀ x : Pl, valA ND (kP x) = if nd x = [] then none else some (.list ((nd x).map t3))
  ks : ∃ ks : List Pl, ND.map (·.1) = ks.map kP ∧ ks.Nodup ∧ ∀ x ∈ ks, x.1 < n ∧ x.2 < m
theorem NdF.len {n m : Nat} {ND : List (List Key × Da)} {nd : Pl → List Tr3} (h : NdF n m ND nd) : ND.length ≤ n * m := by
  obtain ⟨ks, e, h1, h2⟩ := h.ks
  have := congrArg List.length e
  rw [List.length_map, List.length_map] at this
  rw [this]
  exact box_le h1 h2
def needs (gs : List Gn) (x : Pl) : List Tr3 := (gs.filter (hits x)).map (·.1)
end Wo
namespace Wo
open PySem PySem.Spec PyProof.Rows L2 Gk Vm Mth
theorem NdF.ok {n m : Nat} {ND : List (List Key × Da)} {gs : List Gn} (h : NdF n m ND (needs gs)) : NdOk ND gs := ⟨fun x => by
  rw [h.get x]
  by_cases e : needs gs x = []
  · right
    rw [if_pos e]
    unfold needs at e
    have : gs.filter (hits x) = [] := List.map_eq_nil_iff.mp e
    rw [this]
    rfl
  · left
    rw [if_neg e]
    unfold needs
    rw [List.map_map]
    rfl⟩
end Wo
namespace Mth
section
variable (gs : List ((Nat × Nat × Nat) × List Nat)) (G : List Nat) (hi : Nat → List Nat) (ends : List Nat)
/-- a post all of whose arms are there, its place not -/
def Bg (K : List Pl) (x : Pl) : Prop := x ∉ K ∧ ∃ g ∈ gs, x = (g.1.1, g.1.2.1) ∧ ∀ d ∈ g.2, (d, g.1.2.2) ∈ K
def Nx (K : List Pl) (x : Pl) : Prop := x ∉ K ∧ (Bg gs K x ∨ ∃ i, Bg gs K (x.1, i) ∧ x.2 ∈ hi i)
def Ini (x : Pl) : Prop := x.1 ∈ ends ∧ (x.2 ∈ G ∨ ∃ i ∈ G, x.2 ∈ hi i)
/-- what is due behind these rounds -/
def rdAt (fs : List (List Pl)) (x : Pl) : Prop := (fs = [] ∧ Ini G hi ends x) ∨ (fs ≠ [] ∧ Nx gs hi fs.flatten x)
def Rds (fs : List (List Pl)) : Prop := ∀ pre F post, fs = pre ++ F :: post → ∀ x, x ∈ F ↔ rdAt gs G hi ends pre x
variable {gs G hi ends}
theorem Rds.nil : Rds gs G hi ends [] := fun pre F post e => by
  cases pre <;> cases e
end
end Mth
namespace Wo
open PySem PySem.Spec PyProof.Rows L2 Gk Vm Mth
abbrev Fr := List (Pl × Da)
def keysF (F : Fr) : List Pl := F.map (·.1)
abbrev endD : Da := .tuple [.str (Str.ofString "end")]
abbrev postD : Da := .tuple [.str (Str.ofString "post")]
structure Env where
  posts : List PostS
  ways : List Way
  goods : List Nat
  rowsD : Da
  Hd : List (Key × Da)
  ND : List (List Key × Da)
  many : Nat
  ends : List Nat
/-- how the grounds of a round stand -/
def Gd (hi : Nat → List Nat) (gs : List Gn) (G ends : List Nat) (pre : List (List Pl)) (F : Fr) : Prop :=
  ∃ begun, WhJ begun (if pre = [] then endD else postD) hi pre.flatten F ∧ ∀ x ∈ begun, if pre = [] then x.1 ∈ ends ∧ x.2 ∈ G else Bg gs pre.flatten x
end Wo
namespace Wo
open PySem PySem.Spec PyProof.Rows L2 Gk Vm Mth
end Wo
namespace Wo
open PySem PySem.Spec PyProof.Rows L2 Gk Vm Mth
theorem sortDK_go {m : ME} {α : AS} {l : Lc} {T : List Nat} (h : m α = some (l, α)) (hr : res α l = some (.dk (armD T))) : ∃ cs : List Nat, fSortDK (aCons m aNil) α = some (.r (.list (cs.map fun b : Nat => Da.int (b : Int))), α) ∧ cs.Perm T ∧ cs.Pairwise (· ≤ ·) := by
  obtain ⟨cs, h1, h2, h3⟩ := sortK_nats T
  refine ⟨cs, ?_, h2, h3⟩
  unfold fSortDK aCons aNil
  rw [h, Option.bind_some]
  dsimp only
  rw [Option.bind_some, Option.bind_some]
  dsimp only
  unfold resA
  rw [hr, Option.bind_some, show resA α [] = some [] from rfl, Option.bind_some, Option.bind_some]
  dsimp only
  have e : (armD T).map (·.1) = T.map fun b : Nat => (.inl (b : Int) : Key) := by unfold armD; rw [List.map_map]; rfl
  rw [e, if_pos (kPy_ints T), h1, List.map_map]
  rfl
end Wo
namespace Wo
open PySem PySem.Spec PyProof.Rows L2 Gk Vm Mth
end Wo
namespace Vm
open PySem PySem.Spec PyProof.Rows L2 Gk
inductive Tag {τ : Type} (x : τ) : Type
  | mk : Tag x
def bindD {τ υ : Type} (o : Option τ) (f : τ → Option υ) (_ : Tag f) : Option υ := o.bind f
theorem bind_tag {τ υ : Type} {o : Option τ} {f : τ → Option υ} : o.bind f = bindD o f .mk := id rfl
theorem bindD_some {τ υ : Type} {a : τ} {f : τ → Option υ} {t : Tag f} : bindD (some a) f t = f a := id rfl
theorem bindD_none {τ υ : Type} {f : τ → Option υ} {t : Tag f} : bindD none f t = none := id rfl
theorem bindD_back {τ υ : Type} {o : Option τ} {f : τ → Option υ} {t : Tag f} : bindD o f t = o.bind f := id rfl
def WpD {τ : Type} (o : Option τ) (Q : τ → Prop) (_ : Tag Q) : Prop := Wp o Q
theorem wp_tag {τ : Type} {o : Option τ} {Q : τ → Prop} : Wp o Q = WpD o Q .mk := id rfl
theorem wpD_some {τ : Type} {a : τ} {Q : τ → Prop} {t : Tag Q} : WpD (some a) Q t = Q a := wp_some
theorem wpD_none {τ : Type} {Q : τ → Prop} {t : Tag Q} : WpD none Q t = False := wp_none
theorem wpD_bind {τ υ : Type} {o : Option τ} {f : τ → Option υ} {s : Tag f} {Q : υ → Prop} {t : Tag Q} : WpD (bindD o f s) Q t = WpD o (fun a => Wp (f a) Q) .mk := wp_bind
theorem wpD_back {τ : Type} {o : Option τ} {Q : τ → Prop} {t : Tag Q} : WpD o Q t = Wp o Q := id rfl
end Vm
namespace Wo
open PySem PySem.Spec PyProof.Rows L2 Gk Vm
abbrev MM : Int := 2305843009213693951
structure PotOk (g r : Int) : Prop where
  g0 : 0 ≤ g
  r0 : 0 ≤ r
  r1 : r < MM
abbrev pot (fx : Bool) (g r : Int) : AV := .r fx false (.list [.int g, .int r])
theorem take_ok {fx : Bool} {g r n : Int} (h : PotOk g r) (hn : 0 < n) (hn2 : n < 1073741824) :
    Wp (F_law_take [pot fx g r, .d (.int n)]) fun y => ∃ x g' r', y = (.one (.d (.int x)), [pot fx g' r', .d (.int n)]) ∧ 0 ≤ x ∧ x < n ∧ PotOk g' r' := by
  obtain ⟨g0, r0, r1⟩ := h
  by_cases hg : 0 < g
  · refine ⟨_, ?_, g % n, g / n, r, rfl, Int.emod_nonneg _ (by omega), Int.emod_lt_of_pos _ hn, Int.ediv_nonneg g0 (by omega), r0, r1⟩
    (simp [↓wp_tag, ↓bind_tag, wpD_some, wpD_none, wpD_bind, bindD_some, bindD_none, mDef, startA, AV.fixd, sSeq, sIf, tOfE, eOp, eUn, eCB, aNil, aCons, eV, eC, eF, eTup, ownA, resA, res, AV.see, fSubs, Da.isDict, fIx, atI, ixN, fIB, fGt, fLt, fGe, fLe, fI, fAdd, fSub, fMul, fNeg, sAsg, sSetI, sAsgR, setR, Nw.av, Nw.da, rootAt, AV.asR, own, AV.get, fMod, fDiv, setD, setDa, sRet, sRetF, resRL, resL1, backP, AV.isRoot, AV.isFix, AV.flag, eCall, callM, argsOf, argOf, rootIx, putBack, isS, R1.da, Rv.da, fLen, fLenB, fLst, eScLen, eScIx, fLtA, fAbs, fInt, eBig, fPow, sNext, List.filterMap_cons, List.findIdx?_cons, F_law_take, m_law_take, hg, hn, hn2] <;> try simp only [wpD_back, bindD_back])
  · have b1 := Int.emod_nonneg (r * 1181783497276652981 + 12345678910987) (show (2305843009213693951 : Int) ≠ 0 by decide)
    have b2 := Int.emod_lt_of_pos (r * 1181783497276652981 + 12345678910987) (show (0 : Int) < 2305843009213693951 by decide)
    have b3 : r < 18446744073709551616 := by have : MM = 2305843009213693951 := rfl; omega
    have b4 : -18446744073709551616 < r := by omega
    refine ⟨_, ?_, ((r * 1181783497276652981 + 12345678910987) % 2305843009213693951 / 65537 * ((r * 1181783497276652981 + 12345678910987) % 2305843009213693951 % 65537 + 3)) % 2305843009213693921 / 97 % n, g, (r * 1181783497276652981 + 12345678910987) % 2305843009213693951, rfl, Int.emod_nonneg _ (by omega), Int.emod_lt_of_pos _ hn, g0, b1, b2⟩
    generalize hr : (r * 1181783497276652981 + 12345678910987) % 2305843009213693951 = r' at *
    have c1 : -18446744073709551616 < r' / 65537 := by omega
    have c2 : r' / 65537 < 18446744073709551616 := by omega
    (simp [↓wp_tag, ↓bind_tag, wpD_some, wpD_none, wpD_bind, bindD_some, bindD_none, mDef, startA, AV.fixd, sSeq, sIf, tOfE, eOp, eUn, eCB, aNil, aCons, eV, eC, eF, eTup, ownA, resA, res, AV.see, fSubs, Da.isDict, fIx, atI, ixN, fIB, fGt, fLt, fGe, fLe, fI, fAdd, fSub, fMul, fNeg, sAsg, sSetI, sAsgR, setR, Nw.av, Nw.da, rootAt, AV.asR, own, AV.get, fMod, fDiv, setD, setDa, sRet, sRetF, resRL, resL1, backP, AV.isRoot, AV.isFix, AV.flag, eCall, callM, argsOf, argOf, rootIx, putBack, isS, R1.da, Rv.da, fLen, fLenB, fLst, eScLen, eScIx, fLtA, fAbs, fInt, eBig, fPow, sNext, List.filterMap_cons, List.findIdx?_cons, F_law_take, m_law_take, hg, hn, hn2, b3, b4, hr, c1, c2] <;> try simp only [wpD_back, bindD_back])
theorem of_ok {fx : Bool} {g r : Int} {xs : List Da} (h : PotOk g r) (hn : xs ≠ []) (hn2 : xs.length < 1000000000) :
    Wp (F_law_of [pot fx g r, .d (.list xs)]) fun y => ∃ x g' r', y = (.one (.d x), [pot fx g' r', .d (.list xs)]) ∧ x ∈ xs ∧ PotOk g' r' := by
  have hl : 0 < xs.length := List.length_pos_iff.mpr hn
  (simp [↓wp_tag, ↓bind_tag, wpD_some, wpD_none, wpD_bind, bindD_some, bindD_none, mDef, startA, AV.fixd, sSeq, sIf, tOfE, eOp, eUn, eCB, aNil, aCons, eV, eC, eF, eTup, ownA, resA, res, AV.see, fSubs, Da.isDict, fIx, atI, ixN, fIB, fGt, fLt, fGe, fLe, fI, fAdd, fSub, fMul, fNeg, sAsg, sSetI, sAsgR, setR, Nw.av, Nw.da, rootAt, AV.asR, own, AV.get, fMod, fDiv, setD, setDa, sRet, sRetF, resRL, resL1, backP, AV.isRoot, AV.isFix, AV.flag, eCall, callM, argsOf, argOf, rootIx, putBack, isS, R1.da, Rv.da, fLen, fLenB, fLst, eScLen, eScIx, fLtA, fAbs, fInt, eBig, fPow, sNext, List.filterMap_cons, List.findIdx?_cons, F_law_of, m_law_of] <;> try simp only [wpD_back, bindD_back])
  refine (take_ok h (n := xs.length) (by omega) (by omega)).mono ?_
  rintro _ ⟨x, g', r', rfl, h1, h2, h3⟩
  obtain ⟨k, rfl⟩ := Int.eq_ofNat_of_zero_le h1
  have hk : k < xs.length := by omega
  (simp [↓wp_tag, ↓bind_tag, wpD_some, wpD_none, wpD_bind, bindD_some, bindD_none, mDef, startA, AV.fixd, sSeq, sIf, tOfE, eOp, eUn, eCB, aNil, aCons, eV, eC, eF, eTup, ownA, resA, res, AV.see, fSubs, Da.isDict, fIx, atI, ixN, fIB, fGt, fLt, fGe, fLe, fI, fAdd, fSub, fMul, fNeg, sAsg, sSetI, sAsgR, setR, Nw.av, Nw.da, rootAt, AV.asR, own, AV.get, fMod, fDiv, setD, setDa, sRet, sRetF, resRL, resL1, backP, AV.isRoot, AV.isFix, AV.flag, eCall, callM, argsOf, argOf, rootIx, putBack, isS, R1.da, Rv.da, fLen, fLenB, fLst, eScLen, eScIx, fLtA, fAbs, fInt, eBig, fPow, sNext, List.filterMap_cons, List.findIdx?_cons, h1, h2, hk] <;> try simp only [wpD_back, bindD_back])
  exact ⟨_, _, _, ⟨rfl, rfl, rfl⟩, List.getElem_mem hk, h3⟩
theorem wp_pos {τ : Type} {c : Prop} [Decidable c] {a b : Option τ} {Q : τ → Prop} (hc : c) (h : Wp a Q) : Wp (if c then a else b) Q := by rw [if_pos hc]; exact h
theorem small01 {c : Prop} [Decidable c] : (-18446744073709551616 : Int) < (if c then 1 else 0) ∧ (if c then (1 : Int) else 0) < 18446744073709551616 := by split <;> decide
theorem nn01 {c : Prop} [Decidable c] : (0 : Int) ≤ (if c then 1 else 0) := by split <;> decide
noncomputable def potRest : MS := (sSeq (sAsg (eOp fMul (eOp fMod (eCB fAbs (aCons (eV 2) aNil)) eBig) (eCB fInt (aCons (eOp fGe (eCB fAbs (aCons (eV 2) aNil)) (eOp fPow (eC (.int 10)) (eC (.int 18)))) aNil))) (setD 3))
  (sRetF (fLst (aCons (eV 3) (aCons (eOp fMod (eOp fMul (eOp fAdd (eOp fAdd (eOp fMod (eV 2) (eC (.int 2305843009213693951))) (eOp fMul (eOp fMul (eC (.int 7919)) (eV 1)) (eV 1))) (eC (.int 11))) (eC (.int 48271))) (eC (.int 2305843009213693951))) aNil)))))
theorem pot_rest {ns : List Int} {k : Nat} {c : Int} (hk : k ≤ 63) : Wp (potRest [.sc ns, .d (.int (k : Int)), .d (.int c), .un]) fun o => ∃ g r, o = .rt (.nw (.r (.list [.int g, .int r]))) [.sc ns, .d (.int (k : Int)), .d (.int c), .d (.int g)] ∧ PotOk g r := by
  have hb := bigN_pos
  have k1 : 7919 * (k : Int) < 18446744073709551616 := by omega
  have k2 : -18446744073709551616 < 7919 * (k : Int) := by omega
  have l2 : 2 ≤ LIM := by decide
  (simp [↓wp_tag, ↓bind_tag, wpD_some, wpD_none, wpD_bind, bindD_some, bindD_none, mDef, startA, AV.fixd, sSeq, sIf, tOfE, eOp, eUn, eCB, aNil, aCons, eV, eC, eF, eTup, ownA, resA, res, AV.see, fSubs, Da.isDict, fIx, atI, ixN, fIB, fGt, fLt, fGe, fLe, fI, fAdd, fSub, fMul, fNeg, sAsg, sSetI, sAsgR, setR, Nw.av, Nw.da, rootAt, AV.asR, own, AV.get, fMod, fDiv, setD, setDa, sRet, sRetF, resRL, resL1, backP, AV.isRoot, AV.isFix, AV.flag, eCall, callM, argsOf, argOf, rootIx, putBack, isS, R1.da, Rv.da, fLen, fLenB, fLst, eScLen, eScIx, fLtA, fAbs, fInt, eBig, fPow, sNext, List.filterMap_cons, List.findIdx?_cons, potRest, hb, k1, k2, l2] <;> try simp only [wpD_back, bindD_back])
  refine wp_pos (.inr small01) ?_
  (simp [↓wp_tag, ↓bind_tag, wpD_some, wpD_none, wpD_bind, bindD_some, bindD_none, mDef, startA, AV.fixd, sSeq, sIf, tOfE, eOp, eUn, eCB, aNil, aCons, eV, eC, eF, eTup, ownA, resA, res, AV.see, fSubs, Da.isDict, fIx, atI, ixN, fIB, fGt, fLt, fGe, fLe, fI, fAdd, fSub, fMul, fNeg, sAsg, sSetI, sAsgR, setR, Nw.av, Nw.da, rootAt, AV.asR, own, AV.get, fMod, fDiv, setD, setDa, sRet, sRetF, resRL, resL1, backP, AV.isRoot, AV.isFix, AV.flag, eCall, callM, argsOf, argOf, rootIx, putBack, isS, R1.da, Rv.da, fLen, fLenB, fLst, eScLen, eScIx, fLtA, fAbs, fInt, eBig, fPow, sNext, List.filterMap_cons, List.findIdx?_cons, k1, k2, l2] <;> try simp only [wpD_back, bindD_back])
  exact ⟨_, _, ⟨⟨rfl, rfl⟩, rfl⟩, Int.mul_nonneg (Int.emod_nonneg _ (by omega)) nn01, Int.emod_nonneg _ (by decide), Int.emod_lt_of_pos _ (by decide)⟩
theorem pot_ok {ns : List Int} {k : Nat} (hk : k ≤ 63) : Wp (F_law_pot [.sc ns, .d (.int (k : Int))]) fun y => ∃ g r, y = (.one (.w (.r (.list [.int g, .int r]))), [.sc ns, .d (.int (k : Int))]) ∧ PotOk g r := by
  have key : Wp (m_law_pot [.sc ns, .d (.int (k : Int)), .un, .un]) fun o => ∃ c g r, o = .rt (.nw (.r (.list [.int g, .int r]))) [.sc ns, .d (.int (k : Int)), .d (.int c), .d (.int g)] ∧ PotOk g r := by
    unfold m_law_pot
    rw [wp_seq]
    refine ⟨.nx [.sc ns, .d (.int (k : Int)), .d (.int (3 * (k : Int) + ns.length)), .un], by (simp [↓wp_tag, ↓bind_tag, wpD_some, wpD_none, wpD_bind, bindD_some, bindD_none, mDef, startA, AV.fixd, sSeq, sIf, tOfE, eOp, eUn, eCB, aNil, aCons, eV, eC, eF, eTup, ownA, resA, res, AV.see, fSubs, Da.isDict, fIx, atI, ixN, fIB, fGt, fLt, fGe, fLe, fI, fAdd, fSub, fMul, fNeg, sAsg, sSetI, sAsgR, setR, Nw.av, Nw.da, rootAt, AV.asR, own, AV.get, fMod, fDiv, setD, setDa, sRet, sRetF, resRL, resL1, backP, AV.isRoot, AV.isFix, AV.flag, eCall, callM, argsOf, argOf, rootIx, putBack, isS, R1.da, Rv.da, fLen, fLenB, fLst, eScLen, eScIx, fLtA, fAbs, fInt, eBig, fPow, sNext, List.filterMap_cons, List.findIdx?_cons] <;> try simp only [wpD_back, bindD_back]), ?_⟩
    show Wp _ _
    rw [wp_seq]
    by_cases h : k < ns.length
    · refine ⟨.nx [.sc ns, .d (.int (k : Int)), .d (.int ns[k]), .un], by (simp [↓wp_tag, ↓bind_tag, wpD_some, wpD_none, wpD_bind, bindD_some, bindD_none, mDef, startA, AV.fixd, sSeq, sIf, tOfE, eOp, eUn, eCB, aNil, aCons, eV, eC, eF, eTup, ownA, resA, res, AV.see, fSubs, Da.isDict, fIx, atI, ixN, fIB, fGt, fLt, fGe, fLe, fI, fAdd, fSub, fMul, fNeg, sAsg, sSetI, sAsgR, setR, Nw.av, Nw.da, rootAt, AV.asR, own, AV.get, fMod, fDiv, setD, setDa, sRet, sRetF, resRL, resL1, backP, AV.isRoot, AV.isFix, AV.flag, eCall, callM, argsOf, argOf, rootIx, putBack, isS, R1.da, Rv.da, fLen, fLenB, fLst, eScLen, eScIx, fLtA, fAbs, fInt, eBig, fPow, sNext, List.filterMap_cons, List.findIdx?_cons, h] <;> try simp only [wpD_back, bindD_back]), ?_⟩
      exact (pot_rest hk).mono fun o ⟨g, r, e, p⟩ => ⟨_, g, r, e, p⟩
    · refine ⟨.nx [.sc ns, .d (.int (k : Int)), .d (.int (3 * (k : Int) + ns.length)), .un], by (simp [↓wp_tag, ↓bind_tag, wpD_some, wpD_none, wpD_bind, bindD_some, bindD_none, mDef, startA, AV.fixd, sSeq, sIf, tOfE, eOp, eUn, eCB, aNil, aCons, eV, eC, eF, eTup, ownA, resA, res, AV.see, fSubs, Da.isDict, fIx, atI, ixN, fIB, fGt, fLt, fGe, fLe, fI, fAdd, fSub, fMul, fNeg, sAsg, sSetI, sAsgR, setR, Nw.av, Nw.da, rootAt, AV.asR, own, AV.get, fMod, fDiv, setD, setDa, sRet, sRetF, resRL, resL1, backP, AV.isRoot, AV.isFix, AV.flag, eCall, callM, argsOf, argOf, rootIx, putBack, isS, R1.da, Rv.da, fLen, fLenB, fLst, eScLen, eScIx, fLtA, fAbs, fInt, eBig, fPow, sNext, List.filterMap_cons, List.findIdx?_cons, h] <;> try simp only [wpD_back, bindD_back]), ?_⟩
      exact (pot_rest hk).mono fun o ⟨g, r, e, p⟩ => ⟨_, g, r, e, p⟩
  obtain ⟨o, e, c, g, r, rfl, p⟩ := key
  refine ⟨_, ?_, g, r, rfl, p⟩
  (simp [↓wp_tag, ↓bind_tag, wpD_some, wpD_none, wpD_bind, bindD_some, bindD_none, mDef, startA, AV.fixd, sSeq, sIf, tOfE, eOp, eUn, eCB, aNil, aCons, eV, eC, eF, eTup, ownA, resA, res, AV.see, fSubs, Da.isDict, fIx, atI, ixN, fIB, fGt, fLt, fGe, fLe, fI, fAdd, fSub, fMul, fNeg, sAsg, sSetI, sAsgR, setR, Nw.av, Nw.da, rootAt, AV.asR, own, AV.get, fMod, fDiv, setD, setDa, sRet, sRetF, resRL, resL1, backP, AV.isRoot, AV.isFix, AV.flag, eCall, callM, argsOf, argOf, rootIx, putBack, isS, R1.da, Rv.da, fLen, fLenB, fLst, eScLen, eScIx, fLtA, fAbs, fInt, eBig, fPow, sNext, List.filterMap_cons, List.findIdx?_cons, F_law_pot, e] <;> try simp only [wpD_back, bindD_back])
end Wo
namespace Wo
open PySem PySem.Spec PyProof.Rows L2 Gk Vm
abbrev OKp (s : Int × Int) : Prop := PotOk s.1 s.2
abbrev un7 : List AV := [.un, .un, .un, .un, .un, .un, .un]
theorem stem_ok {g r k : Int} (h : PotOk g r) : Wp (fLc (cmI (iRg1 (aCons (eCall F_law_take [] (aCons (eV 0) (aCons (eC (.int 6)) aNil))) aNil)) [7] (setD 7) tYesM (mLc (eCall F_law_of [] (aCons (eV 0) (aCons (eF (fListM (aCons (eC (.str (Str.ofString "abcxyz"))) aNil))) aNil))))) (pot true g r :: .d (.int k) :: un7))
    fun y => ∃ (xs : List Da) (g r : Int), y = (.r (.list xs), pot true g r :: .d (.int k) :: un7) ∧ PotOk g r ∧ xs.length ≤ 5 ∧ ∀ x ∈ xs, x ∈ signsD (Str.ofString "abcxyz") := by
  have hi : Wp (iRg1 (aCons (eCall F_law_take [] (aCons (eV 0) (aCons (eC (.int 6)) aNil))) aNil) (pot true g r :: .d (.int k) :: un7)) fun x => ∃ (n : Nat) (g r : Int), x = ((rgN n, []), pot true g r :: .d (.int k) :: un7) ∧ PotOk g r ∧ n ≤ 5 := by
    (simp [↓wp_tag, ↓bind_tag, wpD_some, wpD_none, wpD_bind, bindD_some, bindD_none, mDef, startA, AV.fixd, sSeq, sIf, tOfE, eOp, eUn, eCB, aNil, aCons, eV, eC, eF, eTup, ownA, resA, res, AV.see, fSubs, Da.isDict, fIx, atI, ixN, fIB, fGt, fLt, fGe, fLe, fI, fAdd, fSub, fMul, fNeg, sAsg, sSetI, sAsgR, setR, Nw.av, Nw.da, rootAt, AV.asR, own, AV.get, fMod, fDiv, setD, setDa, sRet, sRetF, resRL, resL1, backP, AV.isRoot, AV.isFix, AV.flag, eCall, callM, argsOf, argOf, rootIx, putBack, isS, R1.da, Rv.da, fLen, fLenB, fLst, eScLen, eScIx, fLtA, fAbs, fInt, eBig, fPow, sNext, List.filterMap_cons, List.findIdx?_cons, iRg1] <;> try simp only [wpD_back, bindD_back])
    refine (take_ok h (n := 6) (by decide) (by decide)).mono ?_
    rintro _ ⟨x, g1, r1, rfl, h1, h2, h3⟩
    obtain ⟨n, rfl⟩ := Int.eq_ofNat_of_zero_le h1
    have b1 : (-4611686018427387904 : Int) ≤ (n : Int) := by omega
    have b2 : (n : Int) < 4611686018427387904 := by omega
    (simp [↓wp_tag, ↓bind_tag, wpD_some, wpD_none, wpD_bind, bindD_some, bindD_none, mDef, startA, AV.fixd, sSeq, sIf, tOfE, eOp, eUn, eCB, aNil, aCons, eV, eC, eF, eTup, ownA, resA, res, AV.see, fSubs, Da.isDict, fIx, atI, ixN, fIB, fGt, fLt, fGe, fLe, fI, fAdd, fSub, fMul, fNeg, sAsg, sSetI, sAsgR, setR, Nw.av, Nw.da, rootAt, AV.asR, own, AV.get, fMod, fDiv, setD, setDa, sRet, sRetF, resRL, resL1, backP, AV.isRoot, AV.isFix, AV.flag, eCall, callM, argsOf, argOf, rootIx, putBack, isS, R1.da, Rv.da, fLen, fLenB, fLst, eScLen, eScIx, fLtA, fAbs, fInt, eBig, fPow, sNext, List.filterMap_cons, List.findIdx?_cons, b1, b2] <;> try simp only [wpD_back, bindD_back])
    exact ⟨n, g1, r1, ⟨rfl, rfl, rfl⟩, h3, by omega⟩
  obtain ⟨_, e, n, g1, r1, rfl, p1, hn⟩ := hi
  refine lc_go (St := fun s : Int × Int => pot true s.1 s.2 :: .d (.int k) :: un7) (OK := OKp) (P := fun _ y => y ∈ signsD (Str.ofString "abcxyz")) (s := (g1, r1)) e p1 (noRoots_of rfl) rfl (by rw [rgN_len]; have : LIM = 1000000 := rfl; omega) ?_ ?_
  · intro y m ⟨ga, ra⟩ hp
    have hz : (Str.ofString "abcxyz").length ≤ 100000 := by decide +kernel
    (simp [↓wp_tag, ↓bind_tag, wpD_some, wpD_none, wpD_bind, bindD_some, bindD_none, mDef, startA, AV.fixd, sSeq, sIf, tOfE, eOp, eUn, eCB, aNil, aCons, eV, eC, eF, eTup, ownA, resA, res, AV.see, fSubs, Da.isDict, fIx, atI, ixN, fIB, fGt, fLt, fGe, fLe, fI, fAdd, fSub, fMul, fNeg, sAsg, sSetI, sAsgR, setR, Nw.av, Nw.da, rootAt, AV.asR, own, AV.get, fMod, fDiv, setD, setDa, sRet, sRetF, resRL, resL1, backP, AV.isRoot, AV.isFix, AV.flag, eCall, callM, argsOf, argOf, rootIx, putBack, isS, R1.da, Rv.da, fLen, fLenB, fLst, eScLen, eScIx, fLtA, fAbs, fInt, eBig, fPow, sNext, List.filterMap_cons, List.findIdx?_cons, fListM, fList, hz] <;> try simp only [wpD_back, bindD_back])
    refine (of_ok (xs := signsD (Str.ofString "abcxyz")) hp (by decide +kernel) (by decide +kernel)).mono ?_
    rintro _ ⟨x, g2, r2, rfl, h1, h2⟩
    (simp [↓wp_tag, ↓bind_tag, wpD_some, wpD_none, wpD_bind, bindD_some, bindD_none, mDef, startA, AV.fixd, sSeq, sIf, tOfE, eOp, eUn, eCB, aNil, aCons, eV, eC, eF, eTup, ownA, resA, res, AV.see, fSubs, Da.isDict, fIx, atI, ixN, fIB, fGt, fLt, fGe, fLe, fI, fAdd, fSub, fMul, fNeg, sAsg, sSetI, sAsgR, setR, Nw.av, Nw.da, rootAt, AV.asR, own, AV.get, fMod, fDiv, setD, setDa, sRet, sRetF, resRL, resL1, backP, AV.isRoot, AV.isFix, AV.flag, eCall, callM, argsOf, argOf, rootIx, putBack, isS, R1.da, Rv.da, fLen, fLenB, fLst, eScLen, eScIx, fLtA, fAbs, fInt, eBig, fPow, sNext, List.filterMap_cons, List.findIdx?_cons, h1, wipeA] <;> try simp only [wpD_back, bindD_back])
    exact h2
  · rintro ys ⟨g2, r2⟩ h2 pr
    refine ⟨ys, g2, r2, ?_, h2, ?_, all_of_paired pr⟩
    · simp [backA]
    · have := paired_len pr
      rw [rgN_len] at this
      omega
theorem signs_str {zs : List Nat} : ∀ {xs : List Da}, (∀ x ∈ xs, x ∈ zs.map fun c => Da.str ⟨#[c]⟩) → ∃ ys : List Str, xs = ys.map Da.str ∧ ∀ y ∈ ys, ∃ c, y = ⟨#[c]⟩ ∧ c ∈ zs
  | [], _ => ⟨[], rfl, fun y m => (List.not_mem_nil m).elim⟩
  | x :: xs, h => by
    obtain ⟨ys, rfl, hy⟩ := signs_str (xs := xs) fun x m => h x (List.mem_cons_of_mem _ m)
    obtain ⟨c, mc, rfl⟩ := List.mem_map.mp (h x (List.mem_cons_self ..))
    refine ⟨⟨#[c]⟩ :: ys, rfl, fun y m => ?_⟩
    rcases List.mem_cons.mp m with rfl | m
    · exact ⟨c, rfl, mc⟩
    · exact hy y m
theorem sum_ones {ys : List Str} (h : ∀ y ∈ ys, ∃ c, y = ⟨#[c]⟩ ∧ c ∈ lettersS.cps.toList) : (ys.map (·.length)).sum = ys.length := by
  induction ys with
  | nil => rfl
  | cons y r ih =>
    obtain ⟨c, rfl, _⟩ := h y (List.mem_cons_self ..)
    rw [List.map_cons, List.sum_cons, ih fun z hz => h z (List.mem_cons_of_mem _ hz), List.length_cons]
    show 1 + r.length = r.length + 1
    omega
abbrev un6 : List AV := [.un, .un, .un, .un, .un, .un]
theorem names2 {g r k : Int} {z : Str} (h : PotOk g r) (hz : Ls 5 z) : Wp (sAsg (eTup (aCons (eCall F_law_take [] (aCons (eV 0) (aCons (eOp fAdd (eCB fLenB (aCons (eV 2) aNil)) (eC (.int 1))) aNil))) (aCons (eCall F_law_take [] (aCons (eV 0) (aCons (eC (.int 26)) aNil))) (aCons (eCall F_law_of [] (aCons (eV 0) (aCons (eF (fLst (aCons (eC (.int 1)) (aCons (eC (.int 3)) (aCons (eC (.int 5)) (aCons (eC (.int 7)) (aCons (eC (.int 9)) (aCons (eC (.int 11)) aNil)))))))) aNil))) aNil)))) (gTupD 3 (gsCons (setD 3) (gsCons (setD 4) (gsCons (setD 5) gsNil)))) (pot true g r :: .d (.int k) :: .d (.str z) :: un6))
    fun o => ∃ (a b c : Int) (g r : Int), o = .nx [pot true g r, .d (.int k), .d (.str z), .d (.int a), .d (.int b), .d (.int c), .un, .un, .un] ∧ PotOk g r ∧ 0 ≤ a ∧ 0 ≤ b ∧ b < 26 ∧ 0 ≤ c ∧ c ≤ 11 ∧ c % 2 = 1 := by
  have hl := hz.1
  have l6 : 6 ≤ LIM := by decide
  have l3 : 3 ≤ LIM := by decide
  (simp [↓wp_tag, ↓bind_tag, wpD_some, wpD_none, wpD_bind, bindD_some, bindD_none, mDef, startA, AV.fixd, sSeq, sIf, tOfE, eOp, eUn, eCB, aNil, aCons, eV, eC, eF, eTup, ownA, resA, res, AV.see, fSubs, Da.isDict, fIx, atI, ixN, fIB, fGt, fLt, fGe, fLe, fI, fAdd, fSub, fMul, fNeg, sAsg, sSetI, sAsgR, setR, Nw.av, Nw.da, rootAt, AV.asR, own, AV.get, fMod, fDiv, setD, setDa, sRet, sRetF, resRL, resL1, backP, AV.isRoot, AV.isFix, AV.flag, eCall, callM, argsOf, argOf, rootIx, putBack, isS, R1.da, Rv.da, fLen, fLenB, fLst, eScLen, eScIx, fLtA, fAbs, fInt, eBig, fPow, sNext, List.filterMap_cons, List.findIdx?_cons, gTupD, gsCons, gsNil] <;> try simp only [wpD_back, bindD_back])
  refine (take_ok h (n := (z.length : Int) + 1) (by omega) (by omega)).mono ?_
  rintro _ ⟨x, g1, r1, rfl, h1, h2, h3⟩
  (simp [↓wp_tag, ↓bind_tag, wpD_some, wpD_none, wpD_bind, bindD_some, bindD_none, mDef, startA, AV.fixd, sSeq, sIf, tOfE, eOp, eUn, eCB, aNil, aCons, eV, eC, eF, eTup, ownA, resA, res, AV.see, fSubs, Da.isDict, fIx, atI, ixN, fIB, fGt, fLt, fGe, fLe, fI, fAdd, fSub, fMul, fNeg, sAsg, sSetI, sAsgR, setR, Nw.av, Nw.da, rootAt, AV.asR, own, AV.get, fMod, fDiv, setD, setDa, sRet, sRetF, resRL, resL1, backP, AV.isRoot, AV.isFix, AV.flag, eCall, callM, argsOf, argOf, rootIx, putBack, isS, R1.da, Rv.da, fLen, fLenB, fLst, eScLen, eScIx, fLtA, fAbs, fInt, eBig, fPow, sNext, List.filterMap_cons, List.findIdx?_cons] <;> try simp only [wpD_back, bindD_back])
  refine (take_ok h3 (n := 26) (by decide) (by decide)).mono ?_
  rintro _ ⟨y, g2, r2, rfl, h4, h5, h6⟩
  (simp [↓wp_tag, ↓bind_tag, wpD_some, wpD_none, wpD_bind, bindD_some, bindD_none, mDef, startA, AV.fixd, sSeq, sIf, tOfE, eOp, eUn, eCB, aNil, aCons, eV, eC, eF, eTup, ownA, resA, res, AV.see, fSubs, Da.isDict, fIx, atI, ixN, fIB, fGt, fLt, fGe, fLe, fI, fAdd, fSub, fMul, fNeg, sAsg, sSetI, sAsgR, setR, Nw.av, Nw.da, rootAt, AV.asR, own, AV.get, fMod, fDiv, setD, setDa, sRet, sRetF, resRL, resL1, backP, AV.isRoot, AV.isFix, AV.flag, eCall, callM, argsOf, argOf, rootIx, putBack, isS, R1.da, Rv.da, fLen, fLenB, fLst, eScLen, eScIx, fLtA, fAbs, fInt, eBig, fPow, sNext, List.filterMap_cons, List.findIdx?_cons, l6] <;> try simp only [wpD_back, bindD_back])
  refine (of_ok (xs := [.int 1, .int 3, .int 5, .int 7, .int 9, .int 11]) h6 (by simp) (by decide)).mono ?_
  rintro _ ⟨c, g3, r3, rfl, h7, h8⟩
  have hc : ∃ c' : Int, c = .int c' ∧ 0 ≤ c' ∧ c' ≤ 11 ∧ c' % 2 = 1 := by
    simp only [List.mem_cons, List.not_mem_nil, or_false] at h7
    rcases h7 with e | e | e | e | e | e
    · exact ⟨1, e, by decide, by decide, by decide⟩
    · exact ⟨3, e, by decide, by decide, by decide⟩
    · exact ⟨5, e, by decide, by decide, by decide⟩
    · exact ⟨7, e, by decide, by decide, by decide⟩
    · exact ⟨9, e, by decide, by decide, by decide⟩
    · exact ⟨11, e, by decide, by decide, by decide⟩
  obtain ⟨c, rfl, c0, hc, hodd⟩ := hc
  (simp [↓wp_tag, ↓bind_tag, wpD_some, wpD_none, wpD_bind, bindD_some, bindD_none, mDef, startA, AV.fixd, sSeq, sIf, tOfE, eOp, eUn, eCB, aNil, aCons, eV, eC, eF, eTup, ownA, resA, res, AV.see, fSubs, Da.isDict, fIx, atI, ixN, fIB, fGt, fLt, fGe, fLe, fI, fAdd, fSub, fMul, fNeg, sAsg, sSetI, sAsgR, setR, Nw.av, Nw.da, rootAt, AV.asR, own, AV.get, fMod, fDiv, setD, setDa, sRet, sRetF, resRL, resL1, backP, AV.isRoot, AV.isFix, AV.flag, eCall, callM, argsOf, argOf, rootIx, putBack, isS, R1.da, Rv.da, fLen, fLenB, fLst, eScLen, eScIx, fLtA, fAbs, fInt, eBig, fPow, sNext, List.filterMap_cons, List.findIdx?_cons, l3, gTupD, gsCons, gsNil] <;> try simp only [wpD_back, bindD_back])
  exact ⟨x, y, c, g3, r3, ⟨⟨rfl, rfl⟩, rfl, rfl, rfl⟩, h8, h1, h4, h5, c0, hc, hodd⟩
theorem letters_at {j : Int} (h0 : 0 ≤ j) (h1 : j < 26) : ∃ c, (atI (Str.ofString "abcdefghijklmnopqrstuvwxyz").cps.toList j) = some c ∧ c ∈ lettersS.cps.toList ∧ lettersS.cps.toList[j.toNat]? = some c := by
  obtain ⟨n, rfl⟩ := Int.eq_ofNat_of_zero_le h0
  have hl : (Str.ofString "abcdefghijklmnopqrstuvwxyz").cps.toList.length = 26 := by decide +kernel
  have hn : n < (Str.ofString "abcdefghijklmnopqrstuvwxyz").cps.toList.length := by omega
  refine ⟨(Str.ofString "abcdefghijklmnopqrstuvwxyz").cps.toList[n], ?_, List.getElem_mem hn, List.getElem?_eq_getElem hn⟩
  unfold atI ixN
  rw [if_pos h0, hl, if_pos (show (n : Int) < ((26 : Nat) : Int) from h1)]
  simp
theorem letters_inj : ∀ i j : Fin 26, lettersS.cps.toList[i.val]? = lettersS.cps.toList[j.val]? → i = j := by decide +kernel
theorem paired_get {τ υ : Type} {R : τ → υ → Prop} : ∀ {xs : List τ} {ys : List υ}, Paired R xs ys → ∀ (i : Nat) (x : τ), xs[i]? = some x → ∃ y, ys[i]? = some y ∧ R x y
  | _, _, .nil, i, x, h => by simp at h
  | _, _, .cons h t, 0, x, e => by cases e; exact ⟨_, rfl, h⟩
  | _, _, .cons h t, i + 1, x, e => by
    obtain ⟨y, h1, h2⟩ := paired_get t i x (by simpa using e)
    exact ⟨y, by simpa using h1, h2⟩
theorem idx_at {Lt : List Nat} {Q : Nat → Prop} {k : Nat} {cs : List Nat} {b c : Int} (hl : cs.length = k) (pr : Paired (fun x y => ∃ d, y = Da.str ⟨#[d]⟩ ∧ Q d ∧ ∃ j : Nat, x = .int (j : Int) ∧ Lt[((b + c * (j : Int)) % 26).toNat]? = some d) (rgN k) (cs.map fun c => Da.str ⟨#[c]⟩)) (i : Nat) (hi : i < cs.length) :
    Lt[((b + c * (i : Int)) % 26).toNat]? = some cs[i] := by
  have hx : (rgN k)[i]? = some (.int (i : Int)) := by
    unfold rgN
    rw [List.getElem?_map, List.getElem?_range (by omega)]
    rfl
  obtain ⟨y, hy, d, e1, _, j, e2, e3⟩ := paired_get pr i _ hx
  have ej : j = i := by injection e2 with e2; omega
  subst ej
  rw [List.getElem?_map, List.getElem?_eq_getElem hi] at hy
  have e4 : Da.str ⟨#[cs[j]]⟩ = y := Option.some.inj hy
  rw [e1] at e4
  injection e4 with e4
  injection e4 with e4
  have e5 : cs[j] = d := by simpa using e4
  rw [e5]; exact e3
theorem idx_nodup {Lt : List Nat} (inj : ∀ i j : Fin 26, Lt[i.val]? = Lt[j.val]? → i = j) {cs : List Nat} {b c : Int} (hk : cs.length ≤ 26) (c0 : 0 ≤ c) (hc : c ≤ 11) (hodd : c % 2 = 1) (at' : ∀ i (hi : i < cs.length), Lt[((b + c * (i : Int)) % 26).toNat]? = some cs[i]) : cs.Nodup := by
  rw [List.nodup_iff_pairwise_ne, List.pairwise_iff_getElem]
  intro i j hi hj hij heq
  have a1 := at' i hi
  have a2 := at' j hj
  rw [← heq, ← a1] at a2
  have n1 : ((b + c * (i : Int)) % 26).toNat < 26 := by
    have := Int.emod_lt_of_pos (b + c * (i : Int)) (show (0 : Int) < 26 by decide)
    omega
  have n2 : ((b + c * (j : Int)) % 26).toNat < 26 := by
    have := Int.emod_lt_of_pos (b + c * (j : Int)) (show (0 : Int) < 26 by decide)
    omega
  have e6 := inj ⟨_, n2⟩ ⟨_, n1⟩ a2
  injection e6 with e6
  have p1 := Int.emod_nonneg (b + c * (i : Int)) (show (26 : Int) ≠ 0 by decide)
  have p2 := Int.emod_nonneg (b + c * (j : Int)) (show (26 : Int) ≠ 0 by decide)
  have e7 : (b + c * (j : Int)) % 26 = (b + c * (i : Int)) % 26 := by omega
  have hcs : c = 1 ∨ c = 3 ∨ c = 5 ∨ c = 7 ∨ c = 9 ∨ c = 11 := by omega
  clear at' a1 a2 heq e6 p1 p2 n1 n2
  rcases hcs with rfl | rfl | rfl | rfl | rfl | rfl <;> omega
theorem names3 {g r a b c : Int} {k : Nat} {z : Str} (hk : k ≤ 26) (c0 : 0 ≤ c) (hc : c ≤ 11) (hodd : c % 2 = 1) : Wp (sAsg (eF (fLc (cmI (iRg1 (aCons (eV 1) aNil)) [7] (setD 7) tYesM (mLc (eOp fSubs (eC (.str (Str.ofString "abcdefghijklmnopqrstuvwxyz"))) (eOp fMod (eOp fAdd (eV 4) (eOp fMul (eV 5) (eV 7))) (eC (.int 26)))))))) (setD 6) [pot true g r, .d (.int (k : Int)), .d (.str z), .d (.int a), .d (.int b), .d (.int c), .un, .un, .un])
    fun o => ∃ ys : List Nat, o = .nx [pot true g r, .d (.int (k : Int)), .d (.str z), .d (.int a), .d (.int b), .d (.int c), .d (.list (ys.map fun c => .str ⟨#[c]⟩)), .un, .un] ∧ ys.length = k ∧ (∀ c ∈ ys, c ∈ lettersS.cps.toList) ∧ ys.Nodup := by
  rw [wp_asg, wp_eF]
  have e : iRg1 (aCons (eV 1) aNil) [pot true g r, .d (.int (k : Int)), .d (.str z), .d (.int a), .d (.int b), .d (.int c), .un, .un, .un] = some ((rgN k, []), [pot true g r, .d (.int (k : Int)), .d (.str z), .d (.int a), .d (.int b), .d (.int c), .un, .un, .un]) := by
    exact rg1_go (ls := [.s 1]) rfl rfl (by omega)
  refine lc_go (St := fun _ : Unit => [pot true g r, .d (.int (k : Int)), .d (.str z), .d (.int a), .d (.int b), .d (.int c), .un, .un, .un]) (OK := fun _ => True) (P := fun x y => ∃ d, y = .str ⟨#[d]⟩ ∧ d ∈ lettersS.cps.toList ∧ ∃ j : Nat, x = .int (j : Int) ∧ lettersS.cps.toList[((b + c * (j : Int)) % 26).toNat]? = some d) (s := ()) e trivial (noRoots_of rfl) rfl (by rw [rgN_len]; have : LIM = 1000000 := rfl; omega) ?_ ?_
  · intro y m _ _
    obtain ⟨j, hj, rfl⟩ := rgN_mem m
    have c1 : c < 18446744073709551616 := by omega
    have c2 : -18446744073709551616 < c := by omega
    obtain ⟨d, e1, e2, e2b⟩ := letters_at (j := (b + c * (j : Int)) % 26) (Int.emod_nonneg _ (by decide)) (Int.emod_lt_of_pos _ (by decide))
    have e2c : ∃ j' : Nat, Da.int (j : Int) = .int (j' : Int) ∧ lettersS.cps.toList[((b + c * (j' : Int)) % 26).toNat]? = some d := ⟨j, rfl, e2b⟩
    generalize hq : (j : Int) = q at *
    have e3 : fSubs (.str (Str.ofString "abcdefghijklmnopqrstuvwxyz")) (.int ((b + c * q) % 26)) = some (.str ⟨#[d]⟩) := by
      show Option.map _ (atI _ _) = _
      rw [e1]
      rfl
    generalize Str.ofString "abcdefghijklmnopqrstuvwxyz" = zz at *
    rw [show setD 7 (.int q) [pot true g r, .d (.int (k : Int)), .d (.str z), .d (.int a), .d (.int b), .d (.int c), .un, .un, .un] = some [pot true g r, .d (.int (k : Int)), .d (.str z), .d (.int a), .d (.int b), .d (.int c), .un, .d (.int q), .un] from rfl, wp_some]
    have e4 : eOp fSubs (eC (.str zz)) (eOp fMod (eOp fAdd (eV 4) (eOp fMul (eV 5) (eV 7))) (eC (.int 26))) [pot true g r, .d (.int (k : Int)), .d (.str z), .d (.int a), .d (.int b), .d (.int c), .un, .d (.int q), .un] = some (.d (.str ⟨#[d]⟩), [pot true g r, .d (.int (k : Int)), .d (.str z), .d (.int a), .d (.int b), .d (.int c), .un, .d (.int q), .un]) := by
      have e5 : eOp fMod (eOp fAdd (eV 4) (eOp fMul (eV 5) (eV 7))) (eC (.int 26)) [pot true g r, .d (.int (k : Int)), .d (.str z), .d (.int a), .d (.int b), .d (.int c), .un, .d (.int q), .un] = some (.d (.int ((b + c * q) % 26)), [pot true g r, .d (.int (k : Int)), .d (.str z), .d (.int a), .d (.int b), .d (.int c), .un, .d (.int q), .un]) := by
        (simp [↓wp_tag, ↓bind_tag, wpD_some, wpD_none, wpD_bind, bindD_some, bindD_none, mDef, startA, AV.fixd, sSeq, sIf, tOfE, eOp, eUn, eCB, aNil, aCons, eV, eC, eF, eTup, ownA, resA, res, AV.see, fSubs, Da.isDict, fIx, atI, ixN, fIB, fGt, fLt, fGe, fLe, fI, fAdd, fSub, fMul, fNeg, sAsg, sSetI, sAsgR, setR, Nw.av, Nw.da, rootAt, AV.asR, own, AV.get, fMod, fDiv, setD, setDa, sRet, sRetF, resRL, resL1, backP, AV.isRoot, AV.isFix, AV.flag, eCall, callM, argsOf, argOf, rootIx, putBack, isS, R1.da, Rv.da, fLen, fLenB, fLst, eScLen, eScIx, fLtA, fAbs, fInt, eBig, fPow, sNext, List.filterMap_cons, List.findIdx?_cons, c1, c2] <;> try simp only [wpD_back, bindD_back])
      rw [eOp]
      simp only [eC, Option.bind_some, e5, res, e3]
    rw [e4, wp_some, show own _ (Lc.d (.str ⟨#[d]⟩)) = some (.str ⟨#[d]⟩) from rfl, wp_some]
    exact ⟨⟨d, rfl, e2, e2c⟩, (), trivial, rfl⟩
  · rintro ys _ _ pr
    have h1 := all_of_paired (paired_imp (S := fun _ y => ∃ c, y = Da.str ⟨#[c]⟩ ∧ c ∈ lettersS.cps.toList) (fun x y ⟨d, a, b, _⟩ => ⟨d, a, b⟩) pr)
    have h2 := paired_len pr
    rw [rgN_len] at h2
    obtain ⟨cs, rfl, h3⟩ : ∃ cs : List Nat, ys = cs.map (fun c => Da.str ⟨#[c]⟩) ∧ ∀ c ∈ cs, c ∈ lettersS.cps.toList := by
      clear h2 pr
      induction ys with
      | nil => exact ⟨[], rfl, fun c m => (List.not_mem_nil m).elim⟩
      | cons y ys ih =>
        obtain ⟨cs, rfl, h4⟩ := ih fun y m => h1 y (List.mem_cons_of_mem _ m)
        obtain ⟨c, rfl, h5⟩ := h1 y (List.mem_cons_self ..)
        exact ⟨c :: cs, rfl, fun d m => (List.mem_cons.mp m).elim (fun z => by rw [z]; exact h5) (h4 d)⟩
    rw [List.length_map] at h2
    have hnd : cs.Nodup := idx_nodup letters_inj (by omega) c0 hc hodd (idx_at (by omega) pr)
    refine ⟨_, rfl, ?_⟩
    refine ⟨[pot true g r, .d (.int (k : Int)), .d (.str z), .d (.int a), .d (.int b), .d (.int c), .d (.list (cs.map fun c => .str ⟨#[c]⟩)), .un, .un], rfl, cs, rfl, h2.symm, h3, hnd⟩
theorem nm_mid {z : Str} {a : Int} {c : Nat} (hz : Ls 5 z) (ha : 0 ≤ a) (hc : c ∈ lettersS.cps.toList) : Nm (cutS z none (some a) ++ ⟨#[c]⟩ ++ cutS z (some a) none) := by
  obtain ⟨n, rfl⟩ := Int.eq_ofNat_of_zero_le ha
  have l1 := cut_both z n
  have h1 := hz.1
  have one : Ls 1 (⟨#[c]⟩ : Str) := by
    refine ⟨Nat.le_refl 1, fun d m => ?_⟩
    have e : d = c := by simpa using m
    rw [e]
    exact hc
  have all := ((hz.cut none (some (n : Int))).cat one).cat (hz.cut (some (n : Int)) none)
  have len : (cutS z none (some (n : Int)) ++ ⟨#[c]⟩ ++ cutS z (some (n : Int)) none).length = z.length + 1 := by
    rw [strLen_append, strLen_append]
    have : (⟨#[c]⟩ : Str).length = 1 := rfl
    omega
  exact ⟨by rw [len]; omega, by rw [len]; omega, all.2⟩
theorem list_go {i : Nat} {α : AS} {xs : List Da} (h : α[i]? = some (.d (.list xs))) : iAny (eV i) α = some ((xs, []), α) := by
  unfold iAny iLst eV
  simp [h]
end Wo
namespace Wo
open PySem PySem.Spec PyProof.Rows L2 Gk Vm
end Wo
namespace Wo
open PySem PySem.Spec PyProof.Rows L2 Gk Vm
theorem take_run {fx : Bool} {g r m : Int} {rest : AS} {mm : ME} {α : AS} {l : Lc} (h : PotOk g r) (hm0 : 0 < m) (hm : m < 1073741824) (e : aCons (eV 0) (aCons mm aNil) α = some ([.s 0, l], pot fx g r :: rest)) (hl : argsOf (pot fx g r :: rest) [l] = some [.d (.int m)]) (hr : rootIx (pot fx g r :: rest) l = none) :
    Wp (eCall F_law_take [] (aCons (eV 0) (aCons mm aNil)) α) fun y => ∃ x g' r', y = (.d (.int x), pot fx g' r' :: rest) ∧ 0 ≤ x ∧ x < m ∧ PotOk g' r' := by
  refine wcallP e rfl hl (by simp [hr]) ?_
  refine (take_ok h hm0 hm).mono ?_
  rintro _ ⟨x, g', r', rfl, h1, h2, h3⟩
  exact ⟨_, _, rfl, x, g', r', rfl, h1, h2, h3⟩
end Wo
namespace Wo
open PySem PySem.Spec PyProof.Rows L2 Gk Vm Mth
def webT (n : Nat) (posts : List PostS) : Da := .tuple [.int (n : Int), .tuple (posts.map postT)]
def waysOf (word : List Str) : List Way := (List.range word.length).map fun i => (i, (word[i]?).getD "", i + 1)
end Wo
namespace Wo
open PySem PySem.Spec PyProof.Rows L2 Gk Vm Mth
structure PostsOk (n : Nat) (posts : List PostS) : Prop where
  arm : ∀ p ∈ posts, p.arms.Nodup ∧ p.arms ≠ [] ∧ (∀ d ∈ p.arms, d < n) ∧ p.c < n
  key : (posts.map fun p => (p.c, p.nm)).Nodup
end Wo
namespace Wo
open PySem PySem.Spec PyProof.Rows L2 Gk Vm Mth
def windsL (word : List Str) (pl : Nat) : List Nat := ((List.range (pl - 1)).map (1 + ·)).filter fun a => decide (word[a - 1]? = word[pl - 1]?)
abbrev AKey := Nat × Str
def AL (posts : List PostS) (w : List Nat) : List (AKey × Nat) := (posts.zip w).map fun x => ((x.1.c, x.1.nm), x.2)
def armOf (posts : List PostS) (w : List Nat) (x : AKey) : Option Nat := valA (AL posts w) x
def r1 (posts : List PostS) (w : List Nat) (word : List Str) (pl c : Nat) : Option Pl × Pl := ((armOf posts w (c, (word[pl]?).getD "")).map fun d => (d, pl + 1), (c, pl))
def r2 (low pl c : Nat) : Option Pl × Pl := (some (c, low), (c, pl))
def downL (k : Nat) : List Nat := (List.range k).map fun i => k - 1 - i
def R1 (posts : List PostS) (w : List Nat) (word : List Str) (n : Nat) : List (Option Pl × Pl) := (downL word.length).flatMap fun pl => (List.range n).map (r1 posts w word pl)
def R2 (word : List Str) (n : Nat) : List (Option Pl × Pl) := ((List.range word.length).map (1 + ·)).flatMap fun pl => (windsL word pl).flatMap fun low => (List.range n).map (r2 low pl)
end Wo
namespace Wo
open PySem PySem.Spec PyProof.Rows L2 Gk Vm Mth
section
variable {n : Nat} {posts : List PostS} {w : List Nat} {word : List Str} {ends : List Nat}
theorem zip_post : ∀ (posts : List PostS) (w : List Nat), (((posts.map postT).zip (w.map fun b : Nat => Da.int (b : Int))).map fun t => Da.tuple [t.1, t.2]) = (posts.zip w).map fun x => Da.tuple [postT x.1, .int (x.2 : Int)]
  | [], _ => rfl
  | _ :: _, [] => rfl
  | p :: ps, d :: w => by
    rw [List.map_cons, List.map_cons, List.zip_cons_cons, List.zip_cons_cons, List.map_cons, List.map_cons, zip_post ps w]
end
end Wo
namespace Wo
open PySem PySem.Spec PyProof.Rows L2 Gk Vm Mth
end Wo
namespace Wo
open PySem PySem.Spec PyProof.Rows L2 Gk Vm Mth
abbrev intsD (bs : List Nat) : List Da := bs.map fun b : Nat => Da.int (b : Int)
/-- of the post an arm that keeps to what isn't marked -/
def ArmOk (word : List Str) (M : List Pl) (p : PostS) (d : Nat) : Prop := d ∈ p.arms ∧ ∀ s t, (s, p.nm, t) ∈ waysOf word → (d, t) ∈ M → (p.c, s) ∈ M
end Wo
namespace Wo
open PySem PySem.Spec PyProof.Rows L2 Gk Vm Mth
/-- a world all of whose arms keep to what isn't marked -/
def WorstOk (word : List Str) (M : List Pl) : List PostS → List Nat → Prop
  | [], [] => True
  | p :: ps, d :: w => ArmOk word M p d ∧ WorstOk word M ps w
  | _, _ => False
theorem WorstOk.zip {word : List Str} {M : List Pl} : ∀ {posts : List PostS} {w : List Nat}, WorstOk word M posts w → ∀ x ∈ posts.zip w, ArmOk word M x.1 x.2
  | [], _, _, x, m => by simp at m
  | _ :: _, [], h, _, _ => h.elim
  | p :: ps, d :: w, h, x, m => by
    rw [List.zip_cons_cons] at m
    rcases List.mem_cons.mp m with rfl | m
    · exact h.1
    · exact WorstOk.zip h.2 x m
end Wo
namespace Wo
open PySem PySem.Spec PyProof.Rows L2 Gk Vm Mth
theorem setK_go {i : Nat} {me mk : ME} {α α' : AS} {le lk : Lc} {f0 fx : Bool} {x0 v kd : Da} {kvs : List (Key × Da)} {k : Key} (h1 : me α = some (le, α)) (hi : α[i]? = some (.r f0 false x0)) (h2 : mk α = some (lk, α')) (hv : own α' le = some v) (hk : res α' lk = some kd) (kk : keyD kd = some k) (hi' : α'[i]? = some (.r fx false (.dk kvs))) (hl : kvs.length < LIM) :
    sSetI i me mk α = some (.nx (α'.set i (.r fx false (.dk (putD kvs k v))))) := by
  have hr : rootAt α i = some (f0, x0) := by unfold rootAt; rw [hi]; rfl
  have hr' : rootAt α' i = some (fx, .dk kvs) := by unfold rootAt; rw [hi']; rfl
  unfold sSetI
  rw [h1, Option.bind_some]
  dsimp only
  rw [hr, Option.bind_some, h2, Option.bind_some]
  dsimp only
  rw [hv, Option.bind_some, hk, Option.bind_some, hr', Option.bind_some]
  dsimp only
  unfold setDa
  dsimp only
  rw [kk, Option.bind_some, if_pos hl, Option.bind_some]
section
variable {n : Nat} {names : List Str} {most : Nat}
def ArmsOk (n most : Nat) (bs : List Nat) : Prop := bs.Nodup ∧ (∀ b ∈ bs, b < n) ∧ bs.length ≤ most
end
end Wo
namespace Wo
open PySem PySem.Spec PyProof.Rows L2 Gk Vm Mth
section
variable {κ τ : Type} [DecidableEq κ] [DecidableEq τ]
theorem uniq_facts : ∀ (L S : List τ), S.Nodup → (L.foldl addP S).Nodup ∧ ∀ x, x ∈ L.foldl addP S ↔ x ∈ S ∨ x ∈ L
  | [], S, h => ⟨h, fun x => by simp⟩
  | y :: L, S, h => by
    obtain ⟨h1, h2⟩ := uniq_facts L (addP S y) (addP_nodup h)
    refine ⟨h1, fun x => ?_⟩
    rw [List.foldl_cons, h2, addP_mem, List.mem_cons]
    exact ⟨fun z => z.elim (fun z => z.elim .inl fun z => .inr (.inl z)) fun z => .inr (.inr z), fun z => z.elim (fun z => .inl (.inl z)) fun z => z.elim (fun z => .inl (.inr z)) .inr⟩
theorem uniq_len : ∀ (L S : List τ), (L.foldl addP S).length ≤ S.length + L.length
  | [], S => by simp
  | y :: L, S => by
    have := uniq_len L (addP S y)
    have := (addP_len (S := S) (q := y)).2
    rw [List.foldl_cons, List.length_cons]
    omega
end
abbrev kN (b : Nat) : Key := .inl (b : Int)
theorem kN_inj (a b : Nat) (h : kN a = kN b) : a = b := by
  have : (a : Int) = (b : Int) := Sum.inl.inj h
  omega
end Wo
namespace Vm
open PySem PySem.Spec PyProof.Rows L2 Gk Mth
/-- the key that a value is -/
def kvO : Value → Key
  | .int i _ => .inl i
  | .str x _ => .inr x
  | _ => .inl 0
theorem kvO_of {k : Key} {v : Value} (h : keyIs k v = true) : kvO v = k := by
  rcases keyIs_shape h with ⟨i, t, rfl, rfl⟩ | ⟨x, t, rfl, rfl⟩ <;> rfl
theorem key_scan {k : Key} {v : Value} (h : keyIs k v = true) : v.scannable = true := by
  rcases keyIs_shape h with ⟨i, t, rfl, rfl⟩ | ⟨x, t, rfl, rfl⟩ <;> rfl
structure SeT (P : Program) (w : World) (es : Array (Int × Value)) (t : SetTable) (ks : List Key) : Prop where
  gd : ∀ e ∈ es.toList, keyIs (kvO e.2) e.2 = true ∧ e.1 = (mixKind P w).hash (kvO e.2)
  ky : (es.toList.map fun e => kvO e.2).Perm ks
  nd : ks.Nodup
  lt : es.size < scanBound
  ft : t.fits es.size = true
  ri : Ris t.place.toList
  ld : w.params.followText "set-order" = true ∨ t.led = true
def SeK (P : Program) (w : World) (h : Heap) (a : Addr) (ks : List Key) : Prop :=
  ∃ o es ep t, h.get? a = some o ∧ o.ExactSet ∧ o.data = .set es ep t ∧ SeT P w es t ks
section
variable {P : Program} {w : World} {A : Around} {E : Value → Shared → Prop} {s : Shared} {a : Addr} {ks : List Key} {es : Array (Int × Value)} {t : SetTable}
theorem SeT.el (T : SeT P w es t ks) : ElemsOf (mixKind P w) es.toList := fun e he => ⟨⟨kvO e.2, T.gd e he⟩, key_scan (T.gd e he).1⟩
theorem SeT.len (T : SeT P w es t ks) : es.size = ks.length := by
  rw [← T.ky.length_eq, List.length_map, Array.length_toList]
theorem SeT.off (T : SeT P w es t ks) (b : Bool) : SeT P w es (if b = true then t else { t with plain := false }) ks := by
  cases b with
  | true => exact T
  | false => exact ⟨T.gd, T.ky, T.nd, T.lt, SetTable.fits_plain_off T.ft, T.ri, T.ld⟩
theorem SeT.perm {es2 : Array (Int × Value)} {t2 : SetTable} (T : SeT P w es t ks) (pm : es2.toList.Perm es.toList) (f : t2.fits es2.size = true) (r : Ris t2.place.toList) (l : t2.led = t.led) : SeT P w es2 t2 ks :=
  ⟨fun e he => T.gd e (pm.mem_iff.mp he), (pm.map _).trans T.ky, T.nd, by rw [← Array.length_toList, pm.length_eq, Array.length_toList]; exact T.lt, f, r, T.ld.imp id fun z => by rw [l]; exact z⟩
theorem SeK.at {h h' : Heap} (R : SeK P w h a ks) (k : ∀ o, h.get? a = some o → h'.get? a = some o) : SeK P w h' a ks :=
  let ⟨o, es, ep, t, ho, r⟩ := R; ⟨o, es, ep, t, k o ho, r⟩
theorem seK_add {k : Key} {v : Value} {Q : Bool → Shared → Prop} (hk : keyIs k v = true) (R : SeK P w s.heap a ks) (room : ks.length + 1 < scanBound)
    (hQ : ∀ b h', Heap.SameBut a s.heap h' → SeK P w h' a (addP ks k) → Q b { s with heap := h' }) :
    wpAny (model P w) A (setAddHashed a v ((mixKind P w).hash k)) Q E s := by
  obtain ⟨o, es, ep, t, ho, hex, hd, T⟩ := R
  have sc := key_scan hk
  unfold setAddHashed setAddHashedIn
  refine wpAny_holding (wpAny_bind (wpAny_setState_of ho hd T.ft ?_))
  dsimp only
  rw [byScan_of sc T.lt T.el]
  simp only [↓reduceIte]
  unfold setAddByScan
  refine wpAny_bind (wpAny_bind (wpAny_rule (wpAny_bind (wpAny_setScan_of (knd := mixKind P w) hk ho hd T.ft T.el ?_))))
  cases fi : List.findIdx? (fun e => (mixKind P w).is k e.2) es.toList with
  | some j =>
    dsimp only
    obtain ⟨hj, pj, _⟩ := List.findIdx?_eq_some_iff_getElem.mp fi
    have mk : k ∈ ks := T.ky.mem_iff.mp (List.mem_map.mpr ⟨_, List.getElem_mem hj, kvO_of pj⟩)
    refine wpAny_pure (wpAny_pure (hQ _ s.heap (Heap.SameBut.refl a s.heap) ⟨o, es, ep, t, ho, hex, hd, ?_⟩))
    rw [show addP ks k = ks from if_pos mk]
    exact T
  | none =>
    dsimp only
    have nk : k ∉ ks := fun z => by
      obtain ⟨e, he, q⟩ := List.mem_map.mp (T.ky.mem_iff.mpr z)
      have c := List.findIdx?_eq_none_iff.mp fi e he
      have g : (mixKind P w).is k e.2 = true := by
        rw [← q]
        exact (T.gd e he).1
      rw [g] at c
      cases c
    rw [show addP ks k = ks ++ [k] from if_neg nk] at hQ
    have p0 := layNew_perm t es ((mixKind P w).hash k) v
    have T1 : SeT P w (layNew t es ((mixKind P w).hash k) v).1 (layNew t es ((mixKind P w).hash k) v).2.1 (ks ++ [k]) := by
      rw [Array.toList_push] at p0
      have pc := p0.trans (List.perm_append_singleton _ _)
      refine ⟨fun e he => ?_, ?_, ?_, ?_, layNew_fits .., layNew_ris _ _ _ _ T.ri, T.ld.imp id fun z => by rw [layNew_led]; exact z⟩
      · rcases List.mem_cons.mp (pc.mem_iff.mp he) with z | z
        · rw [z]
          dsimp only
          rw [kvO_of hk]
          exact ⟨hk, rfl⟩
        · exact T.gd e z
      · refine (pc.map _).trans ?_
        rw [List.map_cons, kvO_of hk]
        exact (T.ky.cons k).trans (List.perm_append_singleton _ _).symm
      · exact List.nodup_append.mpr ⟨T.nd, by simp, fun x mx y my e => nk (by rw [List.mem_singleton.mp my] at e; exact e ▸ mx)⟩
      · rw [← Array.length_toList, pc.length_eq, List.length_cons, Array.length_toList, T.len]
        exact room
    generalize layNew t es ((mixKind P w).hash k) v = Z at T1 ⊢
    obtain ⟨es1, t1, wd, gave⟩ := Z
    dsimp only at T1 ⊢
    refine wpAny_bind (thn (Q := fun _ s' => s' = s) ?_ fun _ s' e => ?_)
    · cases gave
      · exact wpAny_pure rfl
      · exact wpAny_rule rfl
    subst e
    split
    all_goals
      refine wpAny_bind (thn (Q := fun _ s'' => s'' = s') ?_ fun b s'' e => ?_)
      · first
        | exact wpAny_pure rfl
        | (rw [hashByValue_scannable 8 sc]; exact wpAny_pure rfl)
      subst e
      have T2 := T1.off b
      generalize (if b = true then t1 else { t1 with plain := false }) = t2 at T2 ⊢
      refine wpAny_bind (wpAny_storeSet_of ho hd ?_ (fits_of_scanBound T2.lt))
      have ho1 := store_at (es' := es1) (t' := t2) ho hd
      have sb1 := Heap.SameBut.update s''.heap a (Obj.putSet es1 t2)
      split
      · have pm := relayAll_perm t2 es1 (SetTable.grown es1.size)
        have T3 : SeT P w (relayAll t2 es1 (SetTable.grown es1.size)).1 (relayAll t2 es1 (SetTable.grown es1.size)).2.1 (ks ++ [k]) := T2.perm pm (relayAll_fits t2 es1 (SetTable.grown es1.size)) (relayAll_ris t2 es1 (SetTable.grown es1.size)) (relayAll_led t2 es1 (SetTable.grown es1.size))
        generalize relayAll t2 es1 (SetTable.grown es1.size) = Y at T3 ⊢
        obtain ⟨es2, t3, gave2⟩ := Y
        dsimp only at T3 ⊢
        refine wpAny_bind (thn (Q := fun _ s3 => s3 = { s'' with heap := s''.heap.update a (Obj.putSet es1 t2) }) ?_ fun _ s3 e => ?_)
        · cases gave2
          · exact wpAny_pure rfl
          · exact wpAny_rule rfl
        subst e
        refine wpAny_bind (wpAny_storeSet_of ho1 rfl ?_ (fits_of_scanBound T3.lt))
        have ho2 := store_at (es' := es2) (t' := t3) ho1 rfl
        exact wpAny_pure (wpAny_pure (hQ _ _ (sb1.trans (Heap.SameBut.update _ a _)) ⟨_, es2, _, t3, ho2, hex, rfl, T3⟩))
      · exact wpAny_pure (wpAny_pure (hQ _ _ sb1 ⟨_, es1, _, t2, ho1, hex, rfl, T2⟩))
end
section
variable {P : Program} {w : World} {A : Around} {E : Value → Shared → Prop} {s : Shared} {a : Addr} {ks : List Key}
theorem seK_loop {I : Addr} {fp wr : List Addr} {G : Array GenState → Array GenState → Prop} {n : Nat} {Pv : Nat → Value → Prop} {St : Nat → Shared → Prop} {R : Result → Shared → Prop} (W : WalksS P w A.in1 I fp wr G n Pv St)
    (S : Addr) (out : S ∉ fp) (L : List Key) (hn : n = L.length) (hb : L.length + 1 < scanBound) (hv : ∀ i v, Pv i v → ∃ k, L[i]? = some k ∧ keyIs k v = true) :
    ∀ (m i : Nat) (s : Shared), i + m = n → St i s → SeK P w s.heap S ((L.take i).foldl addP []) →
      (∀ s', Moved (S :: wr) G s s' → SeK P w s'.heap S (L.foldl addP []) → R (.ok (.ret .none)) s') → codeAny (model P w) A (.builtin "set.update.loop" ⟨[.ref S, .ref I], []⟩) R s
  | 0, i, s, him, st, hS, hR => by
    have more : ∀ b ∈ wr, b ∈ S :: wr := fun b m => List.mem_cons_of_mem _ m
    have sw : S ∉ wr := fun h => out (W.sub _ h)
    obtain rfl : i = n := by omega
    refine codeAny_builtin F.entry_set_update_loop ?_ ; rw [Around.under_plainId F.plain_set_update_loop _]
    refine (show wpAny _ A.in1 (pyNext (.ref I) >>= _) _ _ s from wpAny_bind (W.done s _ _ st fun s' hm => ?_))
    rw [List.take_of_length_le (by omega)] at hS
    exact (show wpAny _ A.in1 (ret Value.none) _ _ s' from wpAny_pure (hR s' (hm.mono more) (hS.at fun o e => hm.heap S o sw e)))
  | m + 1, i, s, him, st, hS, hR => by
    have more : ∀ b ∈ wr, b ∈ S :: wr := fun b m => List.mem_cons_of_mem _ m
    have sw : S ∉ wr := fun h => out (W.sub _ h)
    refine codeAny_builtin F.entry_set_update_loop ?_ ; rw [Around.under_plainId F.plain_set_update_loop _]
    refine (show wpAny _ A.in1 (pyNext (.ref I) >>= _) _ _ s from wpAny_bind (W.item i s _ _ (by omega) st fun v s' hP st' hm => ?_))
    obtain ⟨k, hk, kv⟩ := hv i v hP
    have hS' : SeK P w s'.heap S ((L.take i).foldl addP []) := hS.at fun o e => hm.heap S o sw e
    have le : ((L.take i).foldl addP []).length ≤ L.length := by
      have := Wo.uniq_len (L.take i) []
      rw [List.length_nil, List.length_take] at this
      omega
    refine (show wpAny _ A.in1 (holding [v] (setAdd S v) >>= _) _ _ s' from wpAny_bind (wpAny_holding ?_))
    unfold setAdd
    refine wpAny_holding (wpAny_bind ((mixKind P w).pyHash (k := k) kv (seK_add (s := { s' with toks := s'.toks + 1 }) kv hS' (by omega) fun b h' sb hS2 => ?_)))
    rw [show addP ((L.take i).foldl addP []) k = (L.take (i + 1)).foldl addP [] by rw [List.take_add_one, hk, List.foldl_append]; rfl] at hS2
    refine wpAny_pure ⟨plainId_quiet F.plain_set_update_loop _, seK_loop W S out L hn hb hv m (i + 1) _ (by omega) (W.frame _ s' _ _ st' (Nat.le_succ _) fun b hb o e => ?_) hS2 fun s2 hm2 r => ?_⟩
    · rw [sb.2 b (fun z => out (by rw [← z]; exact hb))]
      exact e
    · refine hR s2 (Moved.trans W.gtrans ((hm.mono more).then_heap (Nat.le_succ _) fun b o hb e => ?_) hm2) r
      rw [sb.2 b (fun z => hb (by rw [z]; exact List.mem_cons_self))]
      exact e
theorem set_of_list {l : Addr} {its : Array Value} (L : List Key) {Q : Value → Shared → Prop} (hh : A.handled = none) (hl : s.heap.IsList l its) (hi : Vals (L.map kV) its.toList) (hb : L.length + 1 < scanBound)
    (h : ∀ (h' : Heap) (tk : Nat), SeK P w h' s.heap.objs.size (L.foldl addP []) → (∀ b o, s.heap.get? b = some o → h'.get? b = some o) → Q (.ref s.heap.objs.size) { s with heap := h', toks := tk }) :
    wpAny (model P w) A (call (.type "set") [.ref l]) Q E s := by
  have size : its.size = L.length := by rw [← Array.length_toList, ← hi.length, List.length_map]
  generalize h0 : Heap.push s.heap { cls := .type "set", dict := none, data := .set #[] 0 (.fresh 0 0 (!w.params.followText "set-order")) } = H0
  obtain ⟨c, tl, q1⟩ := F.called_set.mro
  have q2 := F.called_set.made ; have q3 := F.called_set.sub
  refine wpAny_call (codeAny_of_tree (show wpAny _ _ (callAny (.type "set") _) _ _ _ from wpAny_pure ⟨Code.quiet_builtin _ (by decide +kernel), codeAny_builtin F.entry_type_call ?_⟩))
  rw [Around.under_plain (weight_type_call_type "set" [.ref l] []) rfl]
  have q4 := F.called_set.notType ; have q5 := F.called_set.canCreate ; have q6 := F.typeCall_set_1 (.ref l)
  repeat (any_goals first | assumption | wp_step)
  refine codeAny_mono (code_set_led1 (.ref l) (E := E) (Q₁ := fun obj s1 => obj = .ref s.heap.objs.size ∧ s1 = { s with heap := H0 }) ⟨rfl, by rw [h0]⟩) fun r s1 hr => ?_
  have g0 : H0.get? s.heap.objs.size = some { cls := .type "set", dict := none, data := .set #[] 0 (.fresh 0 0 (!w.params.followText "set-order")) } := h0 ▸ Heap.get?_push_size _ rfl
  have k0 : ∀ b o, s.heap.get? b = some o → H0.get? b = some o := fun b o e => h0 ▸ Heap.get?_push_of_some _ e
  have z0 : H0.objs.size = s.heap.objs.size + 1 := by rw [← h0, Heap.size_push]
  cases r with
  | error e => exact hr
  | ok fl =>
    cases fl with
    | ret obj =>
      obtain ⟨rfl, rfl⟩ := hr
      have ty : Shared.TypeIs { s with heap := H0 } (.ref s.heap.objs.size) "set" := ⟨_, g0, rfl⟩
      have q7 := F.called_set.init.lookup ; have q8 := F.called_set.init.bind (.ref s.heap.objs.size)
      repeat (any_goals first | assumption | wp_step)
      refine codeAny_mono (codeAny_call_builtin (R := wants (fun r s2 => r = .none ∧ ∃ h' tk, s2 = { s with heap := h', toks := tk } ∧ SeK P w h' s.heap.objs.size (L.foldl addP []) ∧ ∀ b o, s.heap.get? b = some o → h'.get? b = some o) E) F.called_set.init.plain F.entry_set_init (check_set_init_1 ty ?_)) fun r2 s2 hr2 => ?_
      · obtain ⟨⟨cl, di, da, sl⟩, ho, hc, nl, hd⟩ := hl
        simp only at hc hd ; subst hc ; subst hd
        have ho2 := k0 _ _ ho
        have q9 := F.sub_list_set ; have q10 := F.sub_list_frozenset ; have q11 : (Value.type "list" == Value.type "dict") = false := by decide
        have hl1 : H0.IsList l its := ⟨_, ho2, rfl, nl, rfl⟩
        unfold Builtin.«set.__init__» noKeywords Builtin.Frozenset.updateFrom
        generalize ePI : pyIter = PI
        wp_walk ; subst ePI
        refine wpAny_pyIter_list hl1 (wpAny_bind (wpAny_runValue ?_))
        have ll : l < s.heap.objs.size := Heap.lt_size ho
        have hh3 : A.in1.in1.in1.handled = none := by simp [hh]
        have nI : l ≠ H0.objs.size := Nat.ne_of_lt (z0 ▸ Nat.lt_succ_of_lt ll)
        have nS : s.heap.objs.size ≠ H0.objs.size := Nat.ne_of_lt (z0 ▸ Nat.lt_succ_self _)
        have nL : s.heap.objs.size ≠ l := Nat.ne_of_gt ll
        refine seK_loop ((Walks.list hh3 _ l nI its).toS) s.heap.objs.size (by simp only [List.mem_cons, List.mem_singleton, List.not_mem_nil, or_false, not_or]; exact ⟨nS, nL⟩) L size hb (fun i v hv => ?_) its.size 0 _ (Nat.zero_add _)
          ⟨⟨_, Heap.get?_push_size _ rfl, rfl, rfl⟩, (hl1.push _)⟩ ?_ fun s3 hm r => ?_
        · have hv' : its.toList[i]? = some v := by rw [Array.getElem?_toList]; exact hv
          have ii : i < L.length := by rw [← size, ← Array.length_toList]; exact (List.getElem?_eq_some_iff.mp hv').1
          obtain ⟨u, hu, ru⟩ := hi.get (i := i) (x := kV L[i]) (by rw [List.getElem?_map, List.getElem?_eq_getElem ii]; rfl)
          rw [hv'] at hu ; cases hu
          exact ⟨L[i], List.getElem?_eq_getElem ii, kV_is (P := P) (w := w) ru⟩
        · exact ⟨_, #[], 0, _, Heap.get?_push_of_some _ g0, ⟨rfl, rfl, rfl⟩, rfl, ⟨fun e m => by simp at m, .nil, .nil, by decide, by rfl, List.Pairwise.nil, by
            cases hw : w.params.followText "set-order"
            · exact .inr rfl
            · exact .inl rfl⟩⟩
        · obtain ⟨h', g2, d', tk', os'⟩ := s3
          have eg : g2 = s.gens := hm.gens ; have ed : d' = s.drawn := hm.drawn ; have eo : os' = s.os := hm.os
          subst eg ; subst ed ; subst eo
          refine (show wpAny _ _ _ _ _ _ from wpAny_pure (show wpAny _ _ (ret Value.none) _ _ _ from wpAny_pure ⟨rfl, h', tk', rfl, r, fun b o e => ?_⟩))
          have lb : b < s.heap.objs.size := Heap.lt_size e
          exact hm.heap b o (by simp only [List.mem_cons, List.mem_singleton, List.not_mem_nil, or_false, not_or]; exact ⟨Nat.ne_of_lt lb, Nat.ne_of_lt (z0 ▸ Nat.lt_succ_of_lt lb)⟩) (Heap.get?_push_of_some _ (k0 _ _ e))
      · cases r2 with
        | error e => exact hr2
        | ok fl2 =>
          cases fl2 with
          | ret r =>
            obtain ⟨rfl, h', tk, rfl, hS, hk⟩ := hr2
            repeat (any_goals first | assumption | wp_step)
            exact h _ _ hS hk
          | _ => exact hr2.elim
    | _ => exact hr.elim
theorem set_of_tuple {l : Addr} {its : Array Value} (L : List Key) {Q : Value → Shared → Prop} (hh : A.handled = none) (hl : s.heap.IsTuple l its) (hi : Vals (L.map kV) its.toList) (hb : L.length + 1 < scanBound)
    (h : ∀ (h' : Heap) (tk : Nat), SeK P w h' s.heap.objs.size (L.foldl addP []) → (∀ b o, s.heap.get? b = some o → h'.get? b = some o) → Q (.ref s.heap.objs.size) { s with heap := h', toks := tk }) :
    wpAny (model P w) A (call (.type "set") [.ref l]) Q E s := by
  have size : its.size = L.length := by rw [← Array.length_toList, ← hi.length, List.length_map]
  generalize h0 : Heap.push s.heap { cls := .type "set", dict := none, data := .set #[] 0 (.fresh 0 0 (!w.params.followText "set-order")) } = H0
  obtain ⟨c, tl, q1⟩ := F.called_set.mro
  have q2 := F.called_set.made ; have q3 := F.called_set.sub
  refine wpAny_call (codeAny_of_tree (show wpAny _ _ (callAny (.type "set") _) _ _ _ from wpAny_pure ⟨Code.quiet_builtin _ (by decide +kernel), codeAny_builtin F.entry_type_call ?_⟩))
  rw [Around.under_plain (weight_type_call_type "set" [.ref l] []) rfl]
  have q4 := F.called_set.notType ; have q5 := F.called_set.canCreate ; have q6 := F.typeCall_set_1 (.ref l)
  repeat (any_goals first | assumption | wp_step)
  refine codeAny_mono (code_set_led1 (.ref l) (E := E) (Q₁ := fun obj s1 => obj = .ref s.heap.objs.size ∧ s1 = { s with heap := H0 }) ⟨rfl, by rw [h0]⟩) fun r s1 hr => ?_
  have g0 : H0.get? s.heap.objs.size = some { cls := .type "set", dict := none, data := .set #[] 0 (.fresh 0 0 (!w.params.followText "set-order")) } := h0 ▸ Heap.get?_push_size _ rfl
  have k0 : ∀ b o, s.heap.get? b = some o → H0.get? b = some o := fun b o e => h0 ▸ Heap.get?_push_of_some _ e
  have z0 : H0.objs.size = s.heap.objs.size + 1 := by rw [← h0, Heap.size_push]
  cases r with
  | error e => exact hr
  | ok fl =>
    cases fl with
    | ret obj =>
      obtain ⟨rfl, rfl⟩ := hr
      have ty : Shared.TypeIs { s with heap := H0 } (.ref s.heap.objs.size) "set" := ⟨_, g0, rfl⟩
      have q7 := F.called_set.init.lookup ; have q8 := F.called_set.init.bind (.ref s.heap.objs.size)
      repeat (any_goals first | assumption | wp_step)
      refine codeAny_mono (codeAny_call_builtin (R := wants (fun r s2 => r = .none ∧ ∃ h' tk, s2 = { s with heap := h', toks := tk } ∧ SeK P w h' s.heap.objs.size (L.foldl addP []) ∧ ∀ b o, s.heap.get? b = some o → h'.get? b = some o) E) F.called_set.init.plain F.entry_set_init (check_set_init_1 ty ?_)) fun r2 s2 hr2 => ?_
      · obtain ⟨⟨cl, di, da, sl⟩, ho, hc, nl, hd⟩ := hl
        simp only at hc hd ; subst hc ; subst hd
        have ho2 := k0 _ _ ho
        have q9 := F.sub_tuple_set ; have q10 := F.sub_tuple_frozenset ; have q11 : (Value.type "tuple" == Value.type "dict") = false := by decide
        have hl1 : H0.IsTuple l its := ⟨_, ho2, rfl, nl, rfl⟩
        unfold Builtin.«set.__init__» noKeywords Builtin.Frozenset.updateFrom
        generalize ePI : pyIter = PI
        wp_walk ; subst ePI
        refine wpAny_pyIter_tuple hl1 (wpAny_bind (wpAny_runValue ?_))
        have ll : l < s.heap.objs.size := Heap.lt_size ho
        have hh3 : A.in1.in1.in1.handled = none := by simp [hh]
        have nI : l ≠ H0.objs.size := Nat.ne_of_lt (z0 ▸ Nat.lt_succ_of_lt ll)
        have nS : s.heap.objs.size ≠ H0.objs.size := Nat.ne_of_lt (z0 ▸ Nat.lt_succ_self _)
        have nL : s.heap.objs.size ≠ l := Nat.ne_of_gt ll
        refine seK_loop ((Walks.tuple hh3 _ l nI its).toS) s.heap.objs.size (by simp only [List.mem_cons, List.mem_singleton, List.not_mem_nil, or_false, not_or]; exact ⟨nS, nL⟩) L size hb (fun i v hv => ?_) its.size 0 _ (Nat.zero_add _)
          ⟨⟨_, Heap.get?_push_size _ rfl, rfl, rfl⟩, (hl1.push _)⟩ ?_ fun s3 hm r => ?_
        · have hv' : its.toList[i]? = some v := by rw [Array.getElem?_toList]; exact hv
          have ii : i < L.length := by rw [← size, ← Array.length_toList]; exact (List.getElem?_eq_some_iff.mp hv').1
          obtain ⟨u, hu, ru⟩ := hi.get (i := i) (x := kV L[i]) (by rw [List.getElem?_map, List.getElem?_eq_getElem ii]; rfl)
          rw [hv'] at hu ; cases hu
          exact ⟨L[i], List.getElem?_eq_getElem ii, kV_is (P := P) (w := w) ru⟩
        · exact ⟨_, #[], 0, _, Heap.get?_push_of_some _ g0, ⟨rfl, rfl, rfl⟩, rfl, ⟨fun e m => by simp at m, .nil, .nil, by decide, by rfl, List.Pairwise.nil, by
            cases hw : w.params.followText "set-order"
            · exact .inr rfl
            · exact .inl rfl⟩⟩
        · obtain ⟨h', g2, d', tk', os'⟩ := s3
          have eg : g2 = s.gens := hm.gens ; have ed : d' = s.drawn := hm.drawn ; have eo : os' = s.os := hm.os
          subst eg ; subst ed ; subst eo
          refine (show wpAny _ _ _ _ _ _ from wpAny_pure (show wpAny _ _ (ret Value.none) _ _ _ from wpAny_pure ⟨rfl, h', tk', rfl, r, fun b o e => ?_⟩))
          have lb : b < s.heap.objs.size := Heap.lt_size e
          exact hm.heap b o (by simp only [List.mem_cons, List.mem_singleton, List.not_mem_nil, or_false, not_or]; exact ⟨Nat.ne_of_lt lb, Nat.ne_of_lt (z0 ▸ Nat.lt_succ_of_lt lb)⟩) (Heap.get?_push_of_some _ (k0 _ _ e))
      · cases r2 with
        | error e => exact hr2
        | ok fl2 =>
          cases fl2 with
          | ret r =>
            obtain ⟨rfl, h', tk, rfl, hS, hk⟩ := hr2
            repeat (any_goals first | assumption | wp_step)
            exact h _ _ hS hk
          | _ => exact hr2.elim
    | _ => exact hr.elim
end
end Vm
namespace Vm
open PySem PySem.Spec PyProof.Rows L2 Gk Mth
theorem kPy_inj (a b : Key) (h : PySem.W.keyToks (kPy a) = PySem.W.keyToks (kPy b)) : a = b := by
  cases a with
  | inl i =>
    cases b with
    | inl j =>
      simp only [kPy, PySem.W.keyToks] at h
      injection h with h _
      injection h with h
      rw [h]
    | inr t => simp [kPy, PySem.W.keyToks] at h
  | inr x =>
    cases b with
    | inl j => simp [kPy, PySem.W.keyToks] at h
    | inr y =>
      simp only [kPy, PySem.W.keyToks] at h
      injection h with h _
      injection h with h
      obtain ⟨⟨x⟩⟩ := x
      obtain ⟨⟨y⟩⟩ := y
      have : x = y := h
      rw [this]
theorem sortK_eq {S T : List Key} (h : S.Perm T) : sortK S = sortK T := sortBy_eq kPy_inj h
section
variable {P : Program} {w : World} {A : Around} {E : Value → Shared → Prop} {s : Shared} {a : Addr} {ks : List Key}
theorem seK_sorted {Q : Value → Shared → Prop} (R : SeK P w s.heap a ks) (hh : A.handled = none) (hu : A.units + 70 < cLine) (al : PySem.W.AllAlike (ks.map kPy)) (so : PySem.W.Sortable (ks.map kPy))
    (hQ : ∀ s' p (out : Array Value) (c : Nat), (∀ b o, s.heap.get? b = some o → s'.heap.get? b = some o) → s'.gens = s.gens → s'.os = s.os → s.heap.objs.size ≤ p → s'.heap.get? p = some (seqObj "list" out c) → Vals ((sortK ks).map kV) out.toList → Q (.ref p) s') :
    wpAny (model P w) A (call (.builtin "sorted") [.ref a]) Q E s := by
  obtain ⟨o, es, ep, t, ho, hex, hd, T⟩ := R
  refine Calls.call_function_entry PyProof.Rows.kind_sorted PyProof.Rows.plain_sorted PyProof.Rows.entry_sorted (PyProof.Rows.args_sorted1 _) ?_
  unfold Builtin.«sorted»
  refine wpAny_bind (m := checkCount "sorted" 1 1 _) (wpAny_pure (wpAny_bind (collect_set (A := A.in1) hh ⟨o, ho, hex.1, hd⟩ T.ft T.lt T.ri T.ld fun s1 vs k1 hz g1 o1 pm => ?_)))
  have pk : (vs.map kvO).Perm ks := by
    refine (pm.map kvO).trans ?_
    rw [List.map_map]
    exact T.ky
  have gd : ∀ v ∈ vs, keyIs (kvO v) v = true := fun v m => by
    obtain ⟨e, he, rfl⟩ := List.mem_map.mp (pm.mem_iff.mp m)
    exact (T.gd e he).1
  have sz : ks.length ≤ sizeLine := by
    have h1 := T.lt
    rw [T.len] at h1
    unfold scanBound at h1
    rw [sizeLine_eq]
    omega
  have vl : vs.length = ks.length := by rw [← pk.length_eq, List.length_map]
  have mem : ∀ d, d ∈ (vs.map kvO).map kPy ↔ d ∈ ks.map kPy := fun d => (pk.map kPy).mem_iff
  have al2 : PySem.W.AllAlike ((vs.map kvO).map kPy) := fun d h d' h' => al d ((mem d).mp h) d' ((mem d').mp h')
  have so2 : PySem.W.Sortable ((vs.map kvO).map kPy) := so.imp (fun h d m => h d ((mem d).mp m)) fun h d m => h d ((mem d).mp m)
  have shape : ∀ (j : Nat) (v : Value) (b : Key), vs[j]? = some v → (vs.map kvO)[j]? = some b → (∃ i t, b = .inl i ∧ v = .int i t) ∨ ∃ y t, b = .inr y ∧ v = .str y t := fun j v b e eb => by
    rw [List.getElem?_map, e] at eb
    cases eb
    rcases keyIs_shape (gd v (List.mem_of_getElem? e)) with ⟨i, t, ek, ev⟩ | ⟨y, t, ek, ev⟩
    · exact .inl ⟨i, t, ek, ev⟩
    · exact .inr ⟨y, t, ek, ev⟩
  have ll : vs.length = (vs.map kvO).length := (List.length_map ..).symm
  have e : PySem.W.EachIs (fun v k => RelV (kV k) v) vs (vs.map kvO) := each_ix ll fun j v b h1 h2 => by
    rcases shape j v b h1 h2 with ⟨i, t, rfl, rfl⟩ | ⟨y, t, rfl, rfl⟩
    · exact ⟨t, rfl⟩
    · exact ⟨t, rfl⟩
  refine wpAny_bind (wpAny_newList ?_ (by rw [vl]; exact sz))
  have hoL : (s1.heap.push (seqObj "list" vs.toArray 0)).get? s1.heap.objs.size = some (seqObj "list" vs.toArray 0) := Heap.get?_push_size _ rfl
  have er : PySem.W.EachIs (fun v k => ∃ as, Reads (s1.heap.push (seqObj "list" vs.toArray 0)) v (kPy k) as ∧ s1.heap.objs.size ∉ as) vs (vs.map kvO) := each_ix ll fun j v b h1 h2 => by
    rcases shape j v b h1 h2 with ⟨i, t, rfl, rfl⟩ | ⟨y, t, rfl, rfl⟩
    · exact ⟨[], .int _ _, List.not_mem_nil⟩
    · exact ⟨[], .str _ _, List.not_mem_nil⟩
  have dep0 : ∀ k : Key, (kPy k).depth = 0 := fun k => by cases k <;> rfl
  refine wpAny_bind (wpAny_holding (PySem.W.list_sort_data (s := { s1 with heap := s1.heap.push (seqObj "list" vs.toArray 0) }) hoL e er al2 so2 (by rw [List.length_map, vl]; exact sz) (fun b _ => by rw [dep0]; have : A.in1.units = A.units + 1 := rfl; omega) fun out ol eo => ?_))
  have rv : Vals ((sortK ks).map kV) out := by
    have gen : ∀ {us : List Value} {bs : List Key}, PySem.W.EachIs (fun v k => RelV (kV k) v) us bs → Vals (bs.map kV) us := fun {us bs} h => by
      induction h with
      | nil => exact .nil
      | cons h _ ih => exact .cons h ih
    rw [← sortK_eq pk]
    exact gen eo
  obtain ⟨c, hc⟩ := PyProof.Rows.sortedHeap_at (vs := vs) (out := out.toArray) hoL
  refine wpAny_pure ⟨_, rfl, hQ _ s1.heap.objs.size out.toArray c (fun b u e => ?_) g1 o1 hz hc rv⟩
  have hb : b < s1.heap.objs.size := Heap.lt_size (k1 b u e)
  show (PyProof.Rows.sortedHeap (s1.heap.push (seqObj "list" vs.toArray 0)) s1.heap.objs.size vs out.toArray).get? b = some u
  rw [PyProof.Rows.sortedHeap_old (Nat.ne_of_lt hb) (by rw [size_push']; exact Nat.lt_succ_of_lt hb)]
  exact Heap.get?_push_of_some _ (k1 b u e)
end
/-- each once -/
def ddK (ks : List Key) : List Key := ks.foldl addP []
def rSortSet (K : PySem.W.Frag) : V → Hp → VK → Prop := fun v H1 Q => ∃ (l : Addr) (ks : List Key), v = .ref l ∧ (SqL K H1 l (ks.map kV) ∨ SqT K H1 l (ks.map kV)) ∧ ks.length ≤ 4000 ∧ PySem.W.AllAlike ((ddK ks).map kPy) ∧ PySem.W.Sortable ((ddK ks).map kPy) ∧
  ∀ p : Addr, H1 p = none → Q (.ref p) (upd H1 p (.lst ((sortK (ddK ks)).map kV)))
theorem pe_sortSet {K : PySem.W.Frag} {X : Cx} {e : Expr} {te : TE} {p p2 q pos : Pos} (hK : X.K = K) (hc : X.calm = true) (hu : X.A.units + 70 < cLine) (hg : Gl X "sorted") (hm : X.mg "sorted" = none) (hg2 : Gl X "set") (hm2 : X.mg "set" = none) (he : PE X e te)
    (na : starEach [e] X.env = (false, eval e X.env) :: starEach [] X.env := by rfl) : PE X (.Call (.Name "sorted" p) [.Call (.Name "set" p2) [e] [] q] [] pos) (tUn (rSortSet K) te) := by
  subst hK
  refine ⟨fun pins s σ H Q I h => ?_⟩
  refine Call_ (ld_blt I hg hm PyProof.Rows.boot_sorted (PyProof.Rows.callWith_builtin1 (PyProof.Rows.args_cons ?_ rfl) rfl rfl))
  refine Call_ (ld_blt I hg2 hm2 PyProof.Rows.boot_set (PyProof.Rows.callWith_type1 (PyProof.Rows.args_cons (thn (he.run pins s σ H _ I h) fun v s1 ⟨x, H1, I1, r1, q1⟩ => PyProof.Rows.args_nil ?_) na) na rfl))
  obtain ⟨l, ks, rfl, hq, hl, al, so, q1⟩ := q1
  cases r1
  have fin : ∀ (s2 : Shared) (a : Addr), Inv X pins σ H1 s2 → SeK X.prog X.w s2.heap a (ks.foldl addP []) → wpAny (model X.prog X.w) X.A (call (.builtin "sorted") [.ref a]) (EP X pins σ Q) X.xe s2 := fun s2 a I2 R => by
    refine seK_sorted R (I2.ok.hd hc) hu al so fun s' p out c k g o hp hout rv => ?_
    have len : ((sortK (ddK ks)).map kV).length ≤ sizeLine := by
      have h1 := Wo.uniq_len ks []
      rw [List.length_nil] at h1
      unfold sortK ddK
      rw [List.length_map, List.length_mergeSort, sizeLine_eq]
      omega
    have hn : H1 p = none := I2.hok.fresh hp
    have J : Inv X pins σ (upd H1 p (.lst ((sortK (ddK ks)).map kV))) { s2 with heap := s'.heap, gens := s'.gens, drawn := s'.drawn, toks := s'.toks } :=
      I2.call (ch := []) (Un.laid k hp hn) (I2.hok.laid k hp ⟨len, out.toList, c, rv, by rw [Array.toArray_toList]; exact hout⟩) (by rw [g]; exact I2.bare) (fun _ z => nomatch z)
    have e : s' = { s2 with heap := s'.heap, gens := s'.gens, drawn := s'.drawn, toks := s'.toks } := by
      cases s'
      cases s2
      cases o
      rfl
    rw [e]
    exact ⟨.ref p, _, J, rfl, q1 p hn⟩
  have room : ks.length + 1 < scanBound := by unfold scanBound; omega
  rcases hq with hq | hq
  · obtain ⟨its, r, pl, hz⟩ := I1.list hq
    refine set_of_list ks (I1.ok.hd hc) pl.isList (by simpa using r) room fun h' tk hS hk => ?_
    exact PyProof.Rows.args_nil (fin { s1 with heap := h', toks := tk } _ (I1.kept hk) hS)
  · obtain ⟨its, r, pl, hz⟩ := I1.tuple hq
    refine set_of_tuple ks (I1.ok.hd hc) (show s1.heap.IsTuple l its.toArray from pl) (by simpa using r) room fun h' tk hS hk => ?_
    exact PyProof.Rows.args_nil (fin { s1 with heap := h', toks := tk } _ (I1.kept hk) hS)
section
variable {K : PySem.W.Frag} {p p' p2 : List Addr} {H H' H2 : Hp} {σ σ' σ2 : L2.St} {α α' α2 α0 : AS} {A A' A2 : FT}
def keysA : List Da → Option (List Key)
  | [] => some []
  | d :: ds => (keyD d).bind fun k => (keysA ds).map (k :: ·)
theorem keysA_vz : ∀ {vs : List V} {ds : List Da} {ks : List Key}, DzA K p H vs ds → keysA ds = some ks → vs = ks.map kV ∧ ∀ k ∈ ks, KeyOk k
  | _, _, ks, .nil, e => by cases e; exact ⟨rfl, fun k m => (List.not_mem_nil m).elim⟩
  | _, _, ks, .cons h t, e => by
    unfold keysA at e
    obtain ⟨k, e1, e⟩ := Option.bind_eq_some_iff.mp e
    obtain ⟨ks2, e2, rfl⟩ := Option.map_eq_some_iff.mp e
    obtain ⟨rfl, ok⟩ := vz_key (.of h) e1
    obtain ⟨rfl, oks⟩ := keysA_vz t e2
    exact ⟨rfl, fun k' m => by
      rcases List.mem_cons.mp m with rfl | m
      · exact ok
      · exact oks k' m⟩
def unSeq : Da → Option (List Da)
  | .list xs => some xs
  | .tuple xs => some xs
  | _ => none
open Classical in
noncomputable def fSortSet (me : ME) : MF := fun α => (me α).bind fun x => (res x.2 x.1).bind fun a => (unSeq a).bind fun xs => (keysA xs).bind fun ks =>
  if ks.length ≤ 4000 ∧ PySem.W.AllAlike ((ddK ks).map kPy) ∧ PySem.W.Sortable ((ddK ks).map kPy) then some (.r (.list ((sortK (ddK ks)).map kD)), x.2) else none
theorem ddK_mem {ks : List Key} {k : Key} (m : k ∈ ddK ks) : k ∈ ks := by
  have := ((Wo.uniq_facts ks [] .nil).2 k).mp m
  exact this.resolve_left List.not_mem_nil
theorem ref_fSortSet {te : TE} {me : ME} (he : RefE K te me) : RefF K (tUn (rSortSet K) te) (fSortSet me) := ⟨fun p H σ α A r α' Q R e h => by
  simp only [fSortSet, Option.bind_eq_some_iff] at e
  obtain ⟨⟨l, α1⟩, e1, a, e2, xs, e3, ks, e4, e5⟩ := e
  split at e5
  · rename_i hc
    cases e5
    refine he.go p H σ α A l _ _ R e1 fun p1 H1 A1 v R1 S1 q1 => ?_
    have hv := res_vz R1 q1 e2
    have main : ∀ (ad : Addr) (vs : List V), v = .ref ad → DzA K p1 H1 vs xs → (H1 ad = some (.lst vs) ∨ H1 ad = some (.tup vs)) → rSortSet K v H1 Q := fun ad vs ev dz o => by
      obtain ⟨rfl, oks⟩ := keysA_vz dz e4
      refine ⟨ad, ks, ev, o.imp (fun z => .of z) (fun z => .of z), hc.1, hc.2.1, hc.2.2, fun q hq => ?_⟩
      obtain ⟨R2, S2, nr⟩ := rel_new (o := .lst ((sortK (ddK ks)).map kV)) R1 hq
      refine h _ _ A1 q [] R2 (S1.trans R S2) (fresh_one (List.mem_cons_self ..) (S1.dom q hq) nr) ⟨rfl, _, upd_same, ?_, keys_dz fun k m => oks k (ddK_mem ((List.mergeSort_perm ..).subset m))⟩
      have h1 := Wo.uniq_len ks []
      rw [List.length_nil] at h1
      unfold sortK ddK
      rw [List.length_map, List.length_mergeSort]
      show _ ≤ 1000000
      omega
    cases a with
    | list ys =>
      cases e3
      obtain ⟨ad, vs, rfl, h1, h2, h3⟩ := vz_lst hv
      exact main ad vs rfl h3 (.inl h1)
    | tuple ys =>
      cases e3
      obtain ⟨ad, vs, rfl, h1, h2, h3⟩ := vz_tup hv
      exact main ad vs rfl h3 (.inr h1)
    | _ => cases e3
  · cases e5⟩
end
end Vm
namespace Vm
open PySem PySem.Spec PyProof.Rows L2 Gk
section
variable {α : AS} {γ : Da → AS} {x kd v w : Da} {lk lv : Lc}
open Classical in
/-- sorted(set(xs)) -/
noncomputable def uSortSet (a : Da) : Option (List Da) := (unSeq a).bind fun xs => (keysA xs).bind fun ks =>
  if ks.length ≤ 4000 ∧ PySem.W.AllAlike ((ddK ks).map kPy) ∧ PySem.W.Sortable ((ddK ks).map kPy) then some ((sortK (ddK ks)).map kD) else none
theorem fsortSet_u {α β : AS} {m : ME} {l : Lc} {a : Da} {xs : List Da} (h : m α = some (l, β)) (r : res β l = some a) (hf : uSortSet a = some xs) : fSortSet m α = some (.r (.list xs), β) := by
  unfold uSortSet at hf
  unfold fSortSet
  obtain ⟨ys, e1, hf⟩ := Option.bind_eq_some_iff.mp hf
  obtain ⟨ks, e2, hf⟩ := Option.bind_eq_some_iff.mp hf
  rw [h, Option.bind_some, r, Option.bind_some, e1, Option.bind_some, e2, Option.bind_some]
  split at hf
  · rename_i hc
    rw [if_pos hc]
    cases hf
    rfl
  · cases hf
end
end Vm
namespace Wo
open PySem PySem.Spec PyProof.Rows L2 Gk Vm
end Wo
namespace Vm
open PySem PySem.Spec PyProof.Rows L2 Gk RT
end Vm
namespace PySem.W
open PySem PySem.Calls PyProof.Rows PySem.Spec Builtin
end PySem.W
namespace Vm
open PySem PySem.Spec PyProof.Rows L2 Gk
end Vm
namespace Vm
open PySem PySem.Spec PyProof.Rows L2 Gk
def noF : FV := fun _ => none
end Vm
namespace Vm
open PySem PySem.Spec PyProof.Rows L2 Gk
end Vm
namespace Vm
open PySem PySem.Spec PyProof.Rows L2 Gk PySem.W PySem.Calls PyProof.V
end Vm
namespace Vm
open PySem PySem.W PySem.Spec PyProof.Rows L2 Gk
end Vm
namespace Wo
open PySem PySem.Spec PyProof.Rows L2 Gk Vm
end Wo
namespace Wo
open PySem PySem.Spec PyProof.Rows L2 Gk Vm
end Wo
namespace Wo
open PySem PySem.Spec PyProof.Rows L2 Gk Vm
end Wo
namespace Wo
open PySem PySem.Spec PyProof.Rows L2 Gk Vm
end Wo
namespace Wo
open PySem PySem.Spec PyProof.Rows L2 Gk Vm Mth
def PotU (p : Da) : Prop := ∃ g r, p = .list [.int g, .int r] ∧ PotOk g r
abbrev pA (fx : Bool) (p : Da) : AV := .r fx false p
/-- a call that draws: what is told, the pot behind it -/
theorem draw {F : FV} {fx : Bool} {p : Da} {as : List AV} {y : Rv × List AV} {x : Da} {g r : Int} (e : F (pA fx p :: as) = some y) (ey : y = (.one (.d x), pot fx g r :: as)) : uR1 F (pA fx p :: as) 0 = some (x, .list [.int g, .int r]) := by
  subst ey
  exact uR1_of e rfl rfl
theorem take_u {fx : Bool} {p : Da} {m : Int} (h : PotU p) (h0 : 0 < m) (h1 : m < 1073741824) : ∃ (k : Nat) (p' : Da), uR1 F_law_take [pA fx p, .d (.int m)] 0 = some (.int (k : Int), p') ∧ (k : Int) < m ∧ PotU p' := by
  obtain ⟨g, r, rfl, ho⟩ := h
  obtain ⟨y, e, x, g', r', rfl, x0, x1, h'⟩ := take_ok (fx := fx) ho h0 h1
  obtain ⟨k, rfl⟩ := Int.eq_ofNat_of_zero_le x0
  exact ⟨k, _, draw e rfl, x1, g', r', rfl, h'⟩
theorem pot_u {ns : List Int} {k : Nat} (hk : k ≤ 63) : ∃ p, uW F_law_pot [.sc ns, .d (.int (k : Int))] = some p ∧ PotU p := by
  obtain ⟨y, e, g, r, rfl, p⟩ := pot_ok (ns := ns) hk
  refine ⟨_, ?_, g, r, rfl, p⟩
  unfold uW
  rw [e]
  rfl
/-- how often the law looks -/
theorem turns_u {ns : List Int} {m : Nat} (h1 : 1 ≤ m) (hm : m ≤ 63) {τ : Type} {k : List Da → Option τ} {Q : τ → Prop} (h : ∀ t, t ≤ m → Wp (k ((List.range t).map fun k : Nat => Da.int (k : Int))) Q) :
    Wp ((fMin [.int (m : Int), .int (ns.length : Int)]).bind fun e => (fMax [.int 1, e]).bind fun e1 => (rg1U e1).bind k) Q := by
  have m1 : fMin [.int (m : Int), .int (ns.length : Int)] = some (.int ((min m ns.length : Nat) : Int)) := by
    show some (Da.int (if (ns.length : Int) < m then (ns.length : Int) else m)) = _
    congr 2
    split <;> omega
  have m2 : fMax [.int 1, .int ((min m ns.length : Nat) : Int)] = some (.int ((max 1 (min m ns.length) : Nat) : Int)) := by
    show some (Da.int (if ((min m ns.length : Nat) : Int) > 1 then ((min m ns.length : Nat) : Int) else 1)) = _
    congr 2
    split <;> omega
  rw [m1, Option.bind_some, m2, Option.bind_some, rg1_n (by omega), Option.bind_some]
  exact h _ (by omega)
theorem shd_web {n : Nat} {names : List Str} {posts : List PostS} (hn : n ≤ 40) (hN : ∀ z ∈ names, Nm z) (hp : PostsOk n posts) (h : ∀ e ∈ posts, e.nm ∈ names ∧ e.arms.length ≤ 50) (hl : posts.length ≤ 130) : ShD (webT n posts) 4 200000 := by
  have p1 : ∀ e ∈ posts, ShD (postT e) 2 618 := fun e m => by
    have o := hp.arm e m
    refine (shd_tup 3 (k := 1) (n := 203) ?_ (by simp) (by decide)).mono (by decide) (by decide)
    exact List.forall_mem_cons.mpr ⟨(shd_int (by omega)).mono (by decide) (by decide), List.forall_mem_cons.mpr ⟨(shd_nm (hN _ (h e m).1)).mono (by decide) (by decide), List.forall_mem_cons.mpr ⟨shd_nats (fun b m => by have := o.2.2.1 b m; omega) (h e m).2, fun x m => (List.not_mem_nil m).elim⟩⟩⟩
  have p2 : ShD (.tuple (posts.map postT)) 3 80603 := shd_tup 130 (k := 2) (n := 618) (fun x m => by
    obtain ⟨e, me, rfl⟩ := List.mem_map.mp m
    exact p1 e me) (by rw [List.length_map]; exact hl) (by decide)
  refine (shd_tup 2 (k := 3) (n := 80603) ?_ (by simp) (by decide)).mono (by decide) (by decide)
  exact List.forall_mem_cons.mpr ⟨(shd_int (by omega)).mono (by decide) (by decide), List.forall_mem_cons.mpr ⟨p2, fun x m => (List.not_mem_nil m).elim⟩⟩
end Wo
namespace Wo
open PySem PySem.Spec PyProof.Rows L2 Gk Vm
end Wo
namespace Wo
open PySem PySem.Spec PyProof.Rows L2 Gk Vm
noncomputable def u_posted_arms (web : Da) : Option (Da) :=
 (fSubs web (Da.int 1)).bind fun e =>
 (iterU e).bind fun xs =>
 (flatU (fun post =>
 (fSl none (some 2) post).bind fun e_1 =>
 (fSubs post (Da.int 2)).bind fun e_2 =>
 (keyT e_1).bind fun k =>
 some [(k, e_2)]) xs).bind fun ys =>
 (limU ys).bind fun ys_1 =>
 some (Da.dt (mkD ys_1))
theorem tx_posted_arms {web r : Da} (h : u_posted_arms web = some r) : F_posted_arms [AV.d web] = some (.one (.d r), [AV.d web]) := by
  unfold u_posted_arms at h
  refine def_u rfl ?_
  show Wp (m_posted_arms [AV.d web, .un]) _
  unfold m_posted_arms
  replace h := bse h; obtain ⟨e, h_e, h⟩ := h
  replace h := bse h; obtain ⟨xs, h_xs, h⟩ := h
  replace h := bse h; obtain ⟨ys, h_ys, h⟩ := h
  replace h := bse h; obtain ⟨ys_1, h_ys_1, h⟩ := h
  replace h := Option.some.inj h; subst h
  exact wret (ef_u (fdcT_u (cm_u (W := [AV.d web, .un]) (iany_u (eop_go rfl rfl rfl rfl h_e) rfl h_xs) (nr_cons rfl rfl nr_nil) rfl (fun post y h => by (replace h := bse h; obtain ⟨e_1, h_e_1, h⟩ := h; replace h := bse h; obtain ⟨e_2, h_e_2, h⟩ := h; replace h := bse h; obtain ⟨k, h_k, h⟩ := h; replace h := Option.some.inj h; subst h; exact ⟨_, true, (setD_go rfl rfl), rfl, fun _ => (mdc_u (sl_u rfl rfl (osome_u rfl rfl rfl) rfl h_e_1) (eop_go rfl rfl rfl rfl h_e_2) rfl rfl h_k), fun z => Bool.noConfusion z, rfl⟩)) h_ys) h_ys_1)) (qr_one rfl rfl)
end Wo
namespace Wo
open PySem PySem.Spec PyProof.Rows L2 Gk Vm Mth
def posted (posts : List PostS) : List (List Key × Da) := posts.map fun p => ([.inl (p.c : Int), .inr p.nm], natsT p.arms)
theorem posted_nodup {posts : List PostS} (h : (posts.map fun p => (p.c, p.nm)).Nodup) : ((posted posts).map (·.1)).Nodup := by
  unfold posted
  rw [List.map_map]
  have : ((fun x : List Key × Da => x.1) ∘ fun p : PostS => (([.inl (p.c : Int), .inr p.nm] : List Key), natsT p.arms)) = (fun q : Nat × Str => ([.inl (q.1 : Int), .inr q.2] : List Key)) ∘ fun p : PostS => (p.c, p.nm) := rfl
  rw [this, ← List.map_map]
  refine List.Pairwise.map _ (fun a b ne e => ne ?_) h
  injection e with e1 e2
  injection e2 with e2 _
  injection e1 with e1
  injection e2 with e2
  exact Prod.ext (Int.ofNat_inj.mp e1) e2
theorem posted_arms_n {n : Nat} {posts : List PostS} (hp : PostsOk n posts) (hl : posts.length ≤ 10000) : uC F_posted_arms [.d (webT n posts)] = some (.dt (posted posts)) := by
  refine uC_of (v := .one (.d _)) (tx_posted_arms ?_)
  unfold u_posted_arms webT
  simp only [Option.bind_some, Option.bind_none, asB_b, asI_i, un2_t, un3_t, un4_t, unT_t, tru_b, tru_t, tru_l, tru_n, isN_n, isN_t, isN_i, isN_l, isi_tt, isi_tl, isi_ti, isi_tn, isi_ii, isi_ib, isi_is, isi_bi, isi_bb, isi_bs, isi_ss, isi_si, isi_st, isi_sn, isi_it, isi_bt, ↓len_t0, ↓len_t1, ↓len_t2, ↓len_t3, ne_22, ne_12, ne_33, eq_22, eq_11, len_t, len_l, len_s, len_dt, len_dk, tup_l, tup_t, list_l, list_t, it_l, it_t, add_n, add_1, one_add, sub_i, lt_n, ltA_n, le_n, gt_n, ge_n, gt_0, gt_1, gt_2, eqn_0, eqn_1, eqn_2, eqn_3, nen_2, nen_3, chain_ll, chain_lt, eq_n, ne_n, eq_s, ne_s, ix0, ix1, ix2, ix3, cut2, cond_true, cond_false, Bool.not_true, Bool.not_false, List.length_map, List.length_cons, List.length_nil, List.isEmpty_cons, List.isEmpty_nil, ite_true, ite_false, if_true, if_false, reduceIte]
  rw [flatU_1 (g := fun p : PostS => (([.inl (p.c : Int), .inr p.nm] : List Key), natsT p.arms)), Option.bind_some, limU_ok (by rw [List.length_map]; have : LIM = 1000000 := rfl; omega), Option.bind_some, show (posts.map fun p : PostS => (([.inl (p.c : Int), .inr p.nm] : List Key), natsT p.arms)) = posted posts from rfl, mkD_nodup (posted_nodup hp.key)]
  · intro p _
    unfold postT
    simp only [Option.bind_some, Option.bind_none, asB_b, asI_i, un2_t, un3_t, un4_t, unT_t, tru_b, tru_t, tru_l, tru_n, isN_n, isN_t, isN_i, isN_l, isi_tt, isi_tl, isi_ti, isi_tn, isi_ii, isi_ib, isi_is, isi_bi, isi_bb, isi_bs, isi_ss, isi_si, isi_st, isi_sn, isi_it, isi_bt, ↓len_t0, ↓len_t1, ↓len_t2, ↓len_t3, ne_22, ne_12, ne_33, eq_22, eq_11, len_t, len_l, len_s, len_dt, len_dk, tup_l, tup_t, list_l, list_t, it_l, it_t, add_n, add_1, one_add, sub_i, lt_n, ltA_n, le_n, gt_n, ge_n, gt_0, gt_1, gt_2, eqn_0, eqn_1, eqn_2, eqn_3, nen_2, nen_3, chain_ll, chain_lt, eq_n, ne_n, eq_s, ne_s, ix0, ix1, ix2, ix3, cut2, cond_true, cond_false, Bool.not_true, Bool.not_false, List.length_map, List.length_cons, List.length_nil, List.isEmpty_cons, List.isEmpty_nil, ite_true, ite_false, if_true, if_false, reduceIte]
    rfl
/-- the arms of the post that is gone by at a place -/
def armsAt (posts : List PostS) (word : List Str) (x : Pl) : List Nat := match word[x.2]? with
  | some R => ((posts.find? fun p => decide (p.c = x.1 ∧ p.nm = R)).map (·.arms)).getD []
  | none => []
theorem look_posted {posts : List PostS} {c : Nat} {R : Str} : lookD (.dt (posted posts)) (.tuple [.int (c : Int), .str R]) = some (((posts.find? fun p => decide (p.c = c ∧ p.nm = R)).map (·.arms)).map natsT) := by
  show some (valA (posted posts) [.inl (c : Int), .inr R]) = _
  congr 1
  unfold valA posted
  induction posts with
  | nil => rfl
  | cons p ps ih =>
    rw [List.map_cons, List.find?_cons, List.find?_cons]
    by_cases h : p.c = c ∧ p.nm = R
    · obtain ⟨rfl, rfl⟩ := h
      simp
    · have h1 : decide (([.inl (p.c : Int), .inr p.nm] : List Key) = [.inl (c : Int), .inr R]) = false := by
        rw [decide_eq_false_iff_not]
        intro e
        injection e with e1 e2
        injection e2 with e2 _
        injection e1 with e1
        injection e2 with e2
        exact h ⟨Int.ofNat_inj.mp e1, e2⟩
      rw [h1, decide_eq_false h]
      exact ih
theorem iter_nats {bs : List Nat} : iterU (natsT bs) = some (bs.map fun b : Nat => Da.int (b : Int)) := rfl
theorem all_go {bs : List Bool} : fAll [.list (bs.map Da.bool)] = some (.bool (bs.all id)) := by
  unfold fAll
  dsimp only
  rw [bls_bools, Option.bind_some]
theorem in_natsF {e : Nat} {bs : List Nat} : (fIn false) (.int (e : Int)) (natsT bs) = some (.bool (decide (e ∈ bs))) := in_nats e bs false
theorem find_filter {posts : List PostS} (h : (posts.map fun p => (p.c, p.nm)).Nodup) (c : Nat) (R : Str) : (posts.filter fun p => decide (p.c = c ∧ p.nm = R)) = (posts.find? fun p => decide (p.c = c ∧ p.nm = R)).toList := by
  induction posts with
  | nil => rfl
  | cons p ps ih =>
    rw [List.map_cons, List.nodup_cons] at h
    rw [List.filter_cons, List.find?_cons]
    by_cases e : p.c = c ∧ p.nm = R
    · rw [decide_eq_true e, if_pos rfl]
      have : (ps.filter fun q => decide (q.c = c ∧ q.nm = R)) = [] := by
        rw [List.filter_eq_nil_iff]
        intro q mq hq
        obtain ⟨e1, e2⟩ := of_decide_eq_true hq
        exact h.1 (List.mem_map.mpr ⟨q, mq, by rw [e1, e2, e.1, e.2]⟩)
      rw [this]
      rfl
    · rw [decide_eq_false e, if_neg (by simp)]
      exact ih h.2
theorem nm_ok {z : Str} (h : Nm z) : PyData.strOk z = true := by
  have hl : ∀ c ∈ lettersS.cps.toList, c < 0x110000 := by decide +kernel
  unfold PyData.strOk
  rw [Array.all_eq_true]
  intro i hi
  exact decide_eq_true (hl _ (h.2.2 _ (by rw [Array.mem_toList_iff]; exact Array.getElem_mem hi)))
end Wo
namespace Wo
open PySem PySem.Spec PyProof.Rows L2 Gk Vm Mth
theorem flatS_inv {τ σ β : Type} {f : Da → σ → Option (List β × σ)} {e : τ → Da} (J : List τ → List β → σ → Prop) {L : List τ} {s : σ} (h0 : J [] [] s) (h : ∀ done x rest ys s, done ++ x :: rest = L → J done ys s → ∃ zs s', f (e x) s = some (zs, s') ∧ J (done ++ [x]) (ys ++ zs) s') : ∃ ys s', flatS f (L.map e) s = some (ys, s') ∧ J L ys s' := by
  have all : ∀ rest done ys s, done ++ rest = L → J done ys s → ∃ zs s', flatS f (rest.map e) s = some (zs, s') ∧ J L (ys ++ zs) s' := by
    intro rest
    induction rest with
    | nil => intro done ys s e1 j; rw [List.append_nil] at e1; subst e1; exact ⟨[], s, rfl, by rw [List.append_nil]; exact j⟩
    | cons x rest ih =>
      intro done ys s e1 j
      obtain ⟨z1, s1, h1, j1⟩ := h done x rest ys s e1 j
      obtain ⟨z2, s2, h2, j2⟩ := ih (done ++ [x]) _ s1 (by rw [List.append_assoc]; exact e1) j1
      refine ⟨z1 ++ z2, s2, ?_, by rw [← List.append_assoc]; exact j2⟩
      rw [List.map_cons]
      unfold flatS
      rw [h1, Option.bind_some]
      dsimp only
      rw [h2, Option.bind_some]
  obtain ⟨ys, s', h1, h2⟩ := all L [] [] s rfl h0
  exact ⟨ys, s', h1, h2⟩
theorem sub_web {n : Nat} {posts : List PostS} : fSubs (webT n posts) (.int 1) = some (.tuple (posts.map postT)) := ix1
theorem sub_web0 {n : Nat} {posts : List PostS} : fSubs (webT n posts) (.int 0) = some (.int (n : Int)) := ix0
end Wo
namespace Wo
open PySem PySem.Spec PyProof.Rows L2 Gk Vm Mth
def RL : Nat → List Fr → List (Pl × Da)
  | _, [] => []
  | k, F :: fs => F.map (fun y => (y.1, Da.int (k : Int))) ++ RL (k + 1) fs
/-- what stands in the first rounds -/
def Kn (fs : List Fr) (i : Nat) : List Pl := ((fs.take i).map keysF).flatten
end Wo
namespace Wo
open PySem PySem.Spec PyProof.Rows L2 Gk Vm Mth
end Wo
namespace Wo
open PySem PySem.Spec PyProof.Rows L2 Gk Vm Mth
end Wo
namespace Wo
open PySem PySem.Spec PyProof.Rows L2 Gk Vm Mth
end Wo
namespace Wo
open PySem PySem.Spec PyProof.Rows L2 Gk Vm Mth
abbrev Rul := List Pl × Pl
/-- the rules of posts and of places further -/
def q1 (posts : List PostS) (word : List Str) (pl c : Nat) : List Rul := if armsAt posts word (c, pl) = [] then [] else [((armsAt posts word (c, pl)).map fun d => (d, pl + 1), (c, pl))]
def q2 (low pl c : Nat) : Rul := ([(c, low)], (c, pl))
end Wo
namespace Wo
open PySem PySem.Spec PyProof.Rows L2 Gk Vm Mth
end Wo
namespace Wo
open PySem PySem.Spec PyProof.Rows L2 Gk Vm Mth
end Wo
namespace Wo
open PySem PySem.Spec PyProof.Rows L2 Gk Vm
end Wo
namespace Wo
open PySem PySem.Spec PyProof.Rows L2 Gk Vm Mth
theorem depthAll_ns : ∀ js : List Nat, PyData.depthAll (js.map fun b : Nat => PyData.int (b : Int)) = 0
  | [] => rfl
  | j :: js => by
    rw [List.map_cons]
    unfold PyData.depthAll
    rw [depthAll_ns js]
    rfl
end Wo
namespace Wo
open PySem PySem.Spec PyProof.Rows L2 Gk Vm Mth
def hP (x : Pl) : Int := reduceHash (Builtin.Tuple.tupleHashOf [hashInt (x.1 : Int), hashInt (x.2 : Int)])
theorem shd_lst {xs : List Da} {k n : Nat} (m : Nat) (h : ∀ x ∈ xs, ShD x k n) (hl : xs.length ≤ m) (hm : m ≤ 100000) : ShD (.list xs) (k + 1) (m * (n + 2) + 3) := by
  obtain ⟨ds, e, s, l⟩ := toPysR_sh h
  refine ⟨.list ds, ?_, lst_sh s (by omega)⟩
  unfold toPyR
  rw [if_pos (by omega), e]
  rfl
end Wo
namespace Wo
open PySem PySem.Spec PyProof.Rows L2 Gk Vm Mth
theorem forE_any {τ ρ : Type} {f : Da → Unit → Option (Lp Unit ρ)} {e : τ → Da} {t : τ → Bool} {r : ρ} : ∀ {L : List τ}, (∀ x ∈ L, f (e x) () = some (if t x = true then .rt r else .nx ())) → forE f (L.map e) () = some (if L.any t = true then .rt r else .nx ())
  | [], _ => rfl
  | x :: L, h => by
    rw [List.map_cons]
    unfold forE
    rw [h x (List.mem_cons_self ..), Option.bind_some, List.any_cons]
    cases e1 : t x with
    | true => rfl
    | false => exact forE_any fun y m => h y (List.mem_cons_of_mem _ m)
end Wo
namespace Vm
open PySem PySem.Spec PyProof.Rows L2 Gk Mth
end Vm
namespace Vm
open PySem PySem.Spec PyProof.Rows L2 Gk Mth
end Vm
namespace Vm
open PySem PySem.Spec PyProof.Rows L2 Gk
end Vm
namespace Vm
open PySem PySem.Spec PyProof.Rows L2 Gk
end Vm
namespace Vm
open PySem PySem.Spec PyProof.Rows L2 Gk
end Vm
namespace Vm
open PySem PySem.Spec PyProof.Rows L2 Gk
end Vm
namespace Vm
open PySem PySem.Spec PyProof.Rows L2 Gk
end Vm
namespace Vm
open PySem PySem.Spec PyProof.Rows L2 Gk
end Vm
namespace Vm
open PySem PySem.Spec PyProof.Rows L2 Gk
end Vm
namespace Vm
open PySem PySem.Spec PyProof.Rows L2 Gk
end Vm
namespace Vm
open PySem PySem.Spec PyProof.Rows L2 Gk
section
variable {K : PySem.W.Frag} {p p' p2 : List Addr} {H H' H2 : Hp} {σ σ' σ2 : L2.St} {α α' α2 α0 : AS} {A A' A2 : FT}
def mInN (i : Nat) (neg : Bool) (mk : ME) : MT := fun α => (mk α).bind fun y => (nestAt α i).bind fun r => match r.2 with
  | .dt kvs => (res α y.1).bind fun kd => (keyT kd).bind fun k => some ((valA kvs k).isSome != neg, α)
  | _ => none
theorem inN_go {i : Nat} {tk : TE} {mk : ME} (hk : RefP K tk mk) {neg b : Bool} (R : Rel K p H σ α A) (e : mInN i neg mk α = some (b, α')) {G : Option V → Hp → Prop}
    (h : ∀ H', Same H H' → α' = α → ∀ o : Option V, (o.isSome != neg) = b → G o H') : tk σ H fun y H1 => tVar i σ H1 fun x H2 => ∃ a o, x = .ref a ∧ DGet H2 a y o ∧ G o H2 := by
  simp only [mInN, Option.bind_eq_some_iff] at e
  obtain ⟨⟨ly, αy⟩, e2, ⟨f, dd⟩, e3, e⟩ := e
  dsimp only at e
  split at e
  · rename_i kvs
    simp only [Option.bind_eq_some_iff] at e
    obtain ⟨kd, e5, k, e6, e⟩ := e
    obtain ⟨a, as, xs, hs, ha, h1, h2, h3⟩ := nest_atT R (nestAt_some e3)
    refine hk.go p H σ α A ly αy _ R e2 fun kv H2 s2 q2 => ?_
    have R2 := R.same s2
    obtain ⟨b', rfl, hb, ok⟩ := vz_keyT (res_vz R2 q2 e5) e6
    refine ⟨.ref a, hs, a, valV xs k, rfl, .inr ⟨xs, k, b', .inl (s2 _ _ h1), rfl, hb, rfl⟩, ?_⟩
    simp only [Option.some.injEq, Prod.mk.injEq] at e
    refine h H2 s2 e.2.symm _ ?_
    rw [← e.1]
    rcases h3.val k with ⟨z1, z2⟩ | ⟨c, inner, z1, z2, _, _⟩
    · rw [z1, z2]; rfl
    · rw [z1, z2]; rfl
  · cases e
theorem ref_inNT {i : Nat} {tk : TE} {mk : ME} (hk : RefP K tk mk) : RefT K (tB (tDIn tk (tVar i))) (mInN i false mk) := ⟨fun p H σ α A b α' Q R e h => inN_go hk R e fun H' s ea o eo => by
  subst ea
  refine ⟨b, ?_, h p H' A (R.same s) (.same s)⟩
  rw [← eo]
  cases o <;> rfl⟩
theorem ref_ninNT {i : Nat} {tk : TE} {mk : ME} (hk : RefP K tk mk) : RefT K (tB (tDNotIn tk (tVar i))) (mInN i true mk) := ⟨fun p H σ α A b α' Q R e h => inN_go hk R e fun H' s ea o eo => by
  subst ea
  refine ⟨b, ?_, h p H' A (R.same s) (.same s)⟩
  rw [← eo]
  cases o <;> rfl⟩
theorem Top.vz {lk : Bool} {a : Addr} {x : Da} (h : Top K p H lk a x) : Vz K p H (.ref a) x := by
  cases x with
  | _ => exact .top h.lock
def eLenN (i : Nat) (mk : ME) : ME := fun α => (mk α).bind fun y => (nestAt α i).bind fun r => match r.2 with
  | .dt kvs => (res α y.1).bind fun kd => (keyT kd).bind fun k => match valA kvs k with
    | some (.list xs) => some (.d (.int ((xs.length : Nat) : Int)), α)
    | _ => none
  | _ => none
theorem refp_lenN {i : Nat} {tk : TE} {mk : ME} (hk : RefP K tk mk) : RefP K (tCB rLenB (tCons (tDGet (tVar i) tk) tNil)) (eLenN i mk) := ⟨fun p H σ α A l α' Q R e h => by
  simp only [eLenN, Option.bind_eq_some_iff] at e
  obtain ⟨⟨ly, αy⟩, e2, ⟨f, dd⟩, e3, e⟩ := e
  dsimp only at e
  split at e
  · rename_i kvs
    simp only [Option.bind_eq_some_iff] at e
    obtain ⟨kd, e5, k, e6, e⟩ := e
    obtain ⟨a, as, xs, hs, ha, h1, h2, h3⟩ := nest_atT R (nestAt_some e3)
    refine ⟨.ref a, hs, ?_⟩
    refine hk.go p H σ α A ly αy _ R e2 fun kv H2 s2 q2 => ?_
    have R2 := R.same s2
    obtain ⟨b', rfl, hb, ok⟩ := vz_keyT (res_vz R2 q2 e5) e6
    rcases h3.val k with ⟨z1, z2⟩ | ⟨c, inner, z1, z2, z3, z4⟩
    · rw [z1] at e; cases e
    rw [z1] at e
    cases inner with
    | list ys =>
      cases e
      refine ⟨a, .ref c, rfl, .inr ⟨xs, k, b', .inl (s2 _ _ h1), rfl, hb, z2.symm⟩, ?_⟩
      have z5 : Top K p H2 false c (.list ys) := z4.tr (tr_same s2) fun o ho => s2 _ _ ho
      exact rr_lenB p H2 [.ref c] [.list ys] (.int ((ys.length : Nat) : Int)) _ R2.al (.cons z5.vz .nil) rfl fun z H3 s3 q3 => h z H3 (s2.trans s3) q3
    | _ => cases e
  · cases e⟩
theorem RefP.e {t : TE} {m : ME} (h : RefP K t m) (st : ∀ {α l α'}, m α = some (l, α') → α' = α) : RefE K t m := ⟨fun p H σ α A l α' Q R e q => by
  obtain rfl := st e
  exact h.go p H σ α' A l _ Q R e fun v H' s z => q p H' A v (R.same s) (.same s) z⟩
theorem eLenN_st {i : Nat} {mk : ME} {l : Lc} (e : eLenN i mk α = some (l, α')) : α' = α := by
  simp only [eLenN, Option.bind_eq_some_iff] at e
  obtain ⟨⟨ly, αy⟩, e2, ⟨f, dd⟩, e3, e⟩ := e
  dsimp only at e
  split at e
  · simp only [Option.bind_eq_some_iff] at e
    obtain ⟨kd, e5, k, e6, e⟩ := e
    split at e
    · cases e; rfl
    · cases e
  · cases e
theorem ref_lenN {i : Nat} {tk : TE} {mk : ME} (hk : RefP K tk mk) : RefE K (tCB rLenB (tCons (tDGet (tVar i) tk) tNil)) (eLenN i mk) := (refp_lenN hk).e eLenN_st
theorem call_aside {F : FV} {vs : List V} {ls : List Lc} {Q : VK} {E : XK} {r : Rv} {i : Nat} {q : AV} {α2 : AS} (R : Rel K p H σ α A) (hi : α[i]? = some q) (hq : q.isRoot = true) (hl : LocA K p H σ vs ls) (e : callM F (α.set i .un) ls = some (r, α2))
    (h : ∀ p' H' A' v, Rel K p' H' σ (α2.set i q) (setF A' i (A i)) → Step p H σ α A p' H' σ (α2.set i q) (setF A' i (A i)) → (∀ b ∈ A i, ∀ o, H b = some o → H' b = some o) → Dz K p' H' v r.da → Q v H') : spV K F vs H Q E := by
  have hia : i < α.length := (List.getElem?_eq_some_iff.mp hi).1
  have his := R.lt hi
  obtain ⟨ov, hov⟩ : ∃ ov, σ[i]? = some ov := ⟨_, List.getElem?_eq_getElem his⟩
  have es : σ.set i ov = σ := by
    apply List.ext_getElem?
    intro j
    by_cases e : j = i
    · subst e
      rw [List.getElem?_set_self his, hov]
    · rw [List.getElem?_set_ne (fun z => e z.symm)]
  have R0 : Rel K p H σ (α.set i .un) (setF A i []) := by
    have z := rel_put (o := ov) (f := []) (r := .un) R hi rfl .nil (fun _ m => (List.not_mem_nil m).elim) (fun _ m => (List.not_mem_nil m).elim)
    rwa [es] at z
  refine call_data R0 hl e fun p' H' A' v R2 S2 dz => ?_
  have no : ∀ b ∈ A i, ∀ j, b ∉ setF A i [] j := fun b m j z => by
    rcases setF_mem z with ⟨_, z⟩ | ⟨n, z⟩
    · exact List.not_mem_nil z
    · exact n (R.dj j i b z m)
  have keep : ∀ b ∈ A i, ∀ o, H b = some o → H' b = some o := fun b m o ho => (S2.keep b o (R.own_tbl m ho) ho (no b m)).exp (R.inp i b m)
  have inp' : ∀ b ∈ A i, b ∈ p' := fun b m => by
    rcases S2.mono b (R.inp i b m) with z | ⟨j, z⟩
    · exact z
    · exact (no b m j z).elim
  have nA' : ∀ b ∈ A i, ∀ j, b ∉ A' j := fun b m j z => by
    rcases S2.new j b z with y | y
    · exact no b m j y
    · exact R.al b (R.inp i b m) y
  have hl2 : α2.length = α.length := by rw [S2.ln, List.length_set]
  have hi2 : ∃ u, α2[i]? = some u := ⟨_, List.getElem?_eq_getElem (by omega)⟩
  obtain ⟨u, hu⟩ := hi2
  have R3 : Rel K p' H' σ (α2.set i q) (setF A' i (A i)) := by
    have sl := (R.sl i q hi).tr (S2.tr R0) fun c m u hu => keep c m u hu
    have z := rel_put (o := ov) (f := A i) (r := q) R2 hu (by rw [hov] at sl; exact sl) (R.nd i) inp' fun b m j _ => nA' b m j
    rwa [es] at z
  refine h p' H' A' v R3 ⟨fun b o ht ho n => S2.keep b o ht ho fun j z => ?_, S2.dom, fun j b m => ?_, S2.sub, fun b m => ?_, by rw [List.length_set]; exact hl2, fun j r er fr => ?_, fun j r er fr => ?_⟩ keep dz
  · rcases setF_mem z with ⟨_, z⟩ | ⟨_, z⟩
    · exact List.not_mem_nil z
    · exact n j z
  · rcases setF_mem m with ⟨rfl, m⟩ | ⟨ne, m⟩
    · exact .inl m
    · rcases S2.new j b m with z | z
      · rw [setF_ne ne] at z; exact .inl z
      · exact .inr z
  · rcases S2.mono b m with z | ⟨j, z⟩
    · exact .inl z
    · rcases setF_mem z with ⟨_, z⟩ | ⟨_, z⟩
      · exact (List.not_mem_nil z).elim
      · exact .inr ⟨j, z⟩
  · by_cases z : j = i
    · subst z
      rw [hi] at er
      cases er
      exact ⟨rfl, q, List.getElem?_set_self (by omega), .refl⟩
    · obtain ⟨e1, r', e2, k⟩ := S2.fix j r (by rw [List.getElem?_set_ne (fun y => z y.symm)]; exact er) fr
      exact ⟨rfl, r', by rw [List.getElem?_set_ne (fun y => z y.symm)]; exact e2, k⟩
  · by_cases z : j = i
    · subst z
      rw [List.getElem?_set_self (by omega)] at er
      cases er
      exact ⟨q, hi, fr⟩
    · rw [List.getElem?_set_ne (fun y => z y.symm)] at er
      obtain ⟨q', e1, e2⟩ := S2.nof j r er fr
      rw [List.getElem?_set_ne (fun y => z y.symm)] at e1
      exact ⟨q', e1, e2⟩
def callU (i : Nat) (F : FV) (ds : List Da) (ma : MA) : AS → Option (Da × AS) := fun α => (ma α).bind fun x => (α[i]?).bind fun q => if q.isRoot = true then (callM F (α.set i .un) (x.1 ++ ds.map Lc.d)).bind fun y => some (y.1.da, y.2.set i q) else none
theorem callU_go {F : FV} {ta : TA} {ma : MA} {dvs : List V} {ds : List Da} {E : XK} {Q : VK} {i : Nat} {x : Da} (hd : DfA dvs ds) (ha : RefPA K ta ma) (R : Rel K p H σ α A) (e : callU i F ds ma α = some (x, α'))
    (h : ∀ p' H' A' v, Rel K p' H' σ α' A' → Step p H σ α A p' H' σ α' A' → A' i = A i → (∀ b ∈ A i, ∀ o, H b = some o → H' b = some o) → α'[i]? = α[i]? → Dz K p' H' v x → Q v H') : tCall (spV K F) dvs E ta σ H Q := by
  simp only [callU, Option.bind_eq_some_iff] at e
  obtain ⟨⟨ls, α1⟩, e1, q, e2, e3⟩ := e
  obtain rfl := ha.st e1
  split at e3
  · rename_i hq
    obtain ⟨⟨r, α2⟩, e4, e5⟩ := Option.bind_eq_some_iff.mp e3
    cases e5
    refine ha.go p H σ _ A ls _ _ R e1 fun vs H1 s1 q1 => ?_
    refine call_aside (R.same s1) e2 hq (paired_app q1 hd.loc) e4 fun p' H' A' v R2 S2 kp dz => ?_
    have hia : i < α2.length := by
      have := S2.ln
      rw [List.length_set] at this
      rw [this]
      exact (List.getElem?_eq_some_iff.mp e2).1
    exact h p' H' _ v R2 ((Step.same s1).trans R S2) setF_same (fun b m o ho => kp b m o (s1 _ _ ho)) (by rw [List.getElem?_set_self hia, e2]) dz
  · cases e3
def sPopU (i : Nat) (mk : ME) (F : FV) (ds : List Da) (ma : MA) : MS := fun α => (mk α).bind fun y => (nestAt α i).bind fun r => match r.2 with
  | .dt kvs => (res α y.1).bind fun kd => (keyT kd).bind fun k => match valA kvs k with
    | some (.list xs) => (callU i F ds ma α).bind fun z => match z.1 with
      | .int n => if 0 ≤ n ∧ n.toNat < xs.length then some (.nx (z.2.set i (.n r.1 false (.dt (putF kvs k (.list (xs.eraseIdx n.toNat))))))) else none
      | _ => none
    | _ => none
  | _ => none
theorem ref_popU {i : Nat} {tk : TE} {mk : ME} {F : FV} {ta : TA} {ma : MA} {dvs : List V} {ds : List Da} {E : XK} (hk : RefP K tk mk) (hd : DfA dvs ds) (ha : RefPA K ta ma) :
    RefS K (tDrop (tBM K "list" rPopAt (tDGet (tVar i) tk) (tCons (tCall (spV K F) dvs E ta) tNil))) (sPopU i mk F ds ma) := ⟨fun p H σ α A o D R e h => by
  simp only [sPopU, Option.bind_eq_some_iff] at e
  obtain ⟨⟨ly, αy⟩, e2, ⟨f, dd⟩, e3, e⟩ := e
  dsimp only at e
  split at e
  · rename_i kvs
    simp only [Option.bind_eq_some_iff] at e
    obtain ⟨kd, e5, k, e6, e⟩ := e
    obtain ⟨a, as, xs, hs, ha', h1, h2, h3⟩ := nest_atT R (nestAt_some e3)
    refine ⟨.ref a, hs, ?_⟩
    refine hk.go p H σ α A ly αy _ R e2 fun kv H2 s2 q2 => ?_
    have R2 := R.same s2
    obtain ⟨b', rfl, hb, ok⟩ := vz_keyT (res_vz R2 q2 e5) e6
    rcases h3.val k with ⟨z1, z2⟩ | ⟨c, inner, z1, z2, z3, z4⟩
    · rw [z1] at e; cases e
    rw [z1] at e
    cases inner with
    | list ys =>
      obtain ⟨⟨x, α3⟩, e7, e8⟩ := Option.bind_eq_some_iff.mp e
      refine ⟨a, .ref c, rfl, .inr ⟨xs, k, b', .inl (s2 _ _ h1), rfl, hb, z2.symm⟩, ?_⟩
      obtain ⟨us, t1, t2, t3⟩ := z4
      refine ⟨.inl ⟨rfl, us, .of (s2 _ _ t1)⟩, ?_⟩
      refine callU_go hd ha R2 e7 fun p4 H4 A4 v R4 S4 eA kp ei dz => ?_
      dsimp only at e8
      split at e8
      · rename_i n
        split at e8
        · rename_i hn
          cases e8
          cases vz_int (.of dz)
          have ca : c ∈ A i := by rw [ha']; exact List.mem_cons_of_mem _ z3
          have t1' := kp c ca _ (s2 _ _ t1)
          have h1' := kp a (by rw [ha']; exact List.mem_cons_self ..) _ (s2 _ _ h1)
          have tr4 : Tr p H p4 H4 := (tr_same s2).trans (S4.tr R2)
          have t3' := t3.tr tr4
          have lim : LIM = 1000000 := rfl
          have hk2 : n.toNat < us.length := by rw [t3.length]; exact hn.2
          have hi4 : α3[i]? = some (.n f false (.dt kvs)) := ei.trans (nestAt_some e3)
          have h3' := h3.tr tr4 fun b m o ho => kp b (by rw [ha']; exact List.mem_cons_of_mem _ m) o (s2 _ _ ho)
          have hA : A4 i = a :: as := eA.trans ha'
          have hp := R4.inp i c (by rw [hA]; exact List.mem_cons_of_mem _ z3)
          have tr5 : Tr p4 H4 p4 (L2.upd H4 c (.lst (us.eraseIdx n.toNat))) := tr_upd hp t1' trivial
          have ⟨P, S⟩ := nest_putT (o' := .lst (us.eraseIdx n.toNat)) (x' := .list (ys.eraseIdx n.toNat)) R4 hi4 hs hA h1' h2 h3' z2 z3 t1' trivial ⟨_, upd_same, by rw [List.length_eraseIdx]; split <;> (have := t2; omega), (dz_erase _ t3').tr tr5⟩
          refine ⟨c, us, n, n.toNat, us[n.toNat], rfl, rfl, t1', by omega, by omega, ?_, List.getElem?_eq_getElem hk2, ?_⟩
          · unfold seqIndex?
            simp only [show ¬ n < 0 by omega, if_false]
            rw [if_pos (by simp only [Bool.and_eq_true, decide_eq_true_eq]; omega)]
          · exact h p4 _ σ _ P (((Step.same s2).trans R S4).trans R S)
        · cases e8
      · cases e8
    | _ => cases e
  · cases e⟩
def eCatU (i : Nat) (mk : ME) (F : FV) (ds : List Da) (ma : MA) : ME := fun α => (mk α).bind fun y => (nestAt α i).bind fun r => match r.2 with
  | .dt kvs => (res α y.1).bind fun kd => (keyT kd).bind fun k => match valA kvs k with
    | some (.list xs) => (callU i F ds ma α).bind fun z => (fAdd (.list xs) (.list [z.1])).bind fun c => some (.d c, z.2)
    | _ => none
  | _ => none
theorem ref_catU {i : Nat} {tk : TE} {mk : ME} {F : FV} {ta : TA} {ma : MA} {dvs : List V} {ds : List Da} {E : XK} (hk : RefP K tk mk) (hd : DfA dvs ds) (ha : RefPA K ta ma) :
    RefE K (tOp rAddA (tDGet (tVar i) tk) (tLst (tCons (tCall (spV K F) dvs E ta) tNil))) (eCatU i mk F ds ma) := ⟨fun p H σ α A l α' Q R e h => by
  simp only [eCatU, Option.bind_eq_some_iff] at e
  obtain ⟨⟨ly, αy⟩, e2, ⟨f, dd⟩, e3, e⟩ := e
  dsimp only at e
  split at e
  · rename_i kvs
    simp only [Option.bind_eq_some_iff] at e
    obtain ⟨kd, e5, k, e6, e⟩ := e
    obtain ⟨a, as, xs, hs, ha', h1, h2, h3⟩ := nest_atT R (nestAt_some e3)
    refine ⟨.ref a, hs, ?_⟩
    refine hk.go p H σ α A ly αy _ R e2 fun kv H2 s2 q2 => ?_
    have R2 := R.same s2
    obtain ⟨b', rfl, hb, ok⟩ := vz_keyT (res_vz R2 q2 e5) e6
    rcases h3.val k with ⟨z1, z2⟩ | ⟨c, inner, z1, z2, z3, z4⟩
    · rw [z1] at e; cases e
    rw [z1] at e
    cases inner with
    | list ys =>
      obtain ⟨⟨x, α3⟩, e7, e8⟩ := Option.bind_eq_some_iff.mp e
      obtain ⟨cc, e9, e10⟩ := Option.bind_eq_some_iff.mp e8
      cases e10
      refine ⟨a, .ref c, rfl, .inr ⟨xs, k, b', .inl (s2 _ _ h1), rfl, hb, z2.symm⟩, ?_⟩
      refine callU_go hd ha R2 e7 fun p4 H4 A4 v R4 S4 eA kp ei dz => ?_
      refine ⟨by show 1 ≤ _; rw [sizeLine_eq]; decide, fun q hq => ?_⟩
      have sq := same_new (o := .lst [v]) hq
      have ca : c ∈ A i := by rw [ha']; exact List.mem_cons_of_mem _ z3
      have z5 : Top K p4 (L2.upd H4 q (.lst [v])) false c (.list ys) := z4.tr (((tr_same s2).trans (S4.tr R2)).trans (tr_same sq)) fun o ho => sq _ _ (kp c ca _ (s2 _ _ ho))
      have R5 := R4.same sq
      have dl : Dz K p4 (L2.upd H4 q (.lst [v])) (.ref q) (.list [x]) := .lst (fun m => R4.al q m hq) upd_same (by show 1 ≤ LIM; decide) (.cons (dz.tr (tr_same sq)) .nil)
      refine rr_add p4 _ (.ref c) (.ref q) (.list ys) (.list [x]) cc _ R5.al z5.vz (.of dl) e9 fun z H6 s6 q6 => ?_
      exact h p4 H6 A4 z (R5.same s6) ((((Step.same s2).trans R S4).trans R (.same sq)).trans R (.same s6)) q6
    | _ => cases e
  · cases e⟩
end
end Vm
namespace Vm
open PySem PySem.Spec PyProof.Rows L2 Gk
section
variable {K : PySem.W.Frag} {p p' p2 : List Addr} {H H' H2 : Hp} {σ σ' σ2 : L2.St} {α α' α2 α0 : AS} {A A' A2 : FT}
/-- an own thing written at, new things with it -/
theorem own_store {i : Nat} {q q' : AV} {a : Addr} {o o' : HO} {f' : List Addr} (R : Rel K p H σ α A) (R1 : Rel K p' H' σ α' A') (S1 : Step p H σ α A p' H' σ α' A') (hi : α'[i]? = some q) (kin : Kin q q') (nl : q.isLk = false) (ma : a ∈ A' i) (ho : H' a = some o) (hn : HO.noTup o)
    (hs : SlotR K p' (L2.upd H' a o') (σ[i]?).join f' q') (hin : ∀ b ∈ f', b ∈ p') (nd : f'.Nodup) (new : ∀ b ∈ f', b ∈ A' i ∨ (H b = none ∧ ∀ j, b ∉ A' j)) :
    Rel K p' (L2.upd H' a o') σ (α'.set i q') (setF A' i f') ∧ Step p H σ α A p' (L2.upd H' a o') σ (α'.set i q') (setF A' i f') := by
  have hia : i < α'.length := (List.getElem?_eq_some_iff.mp hi).1
  have his := R1.lt hi
  obtain ⟨ov, hov⟩ : ∃ ov, σ[i]? = some ov := ⟨_, List.getElem?_eq_getElem his⟩
  have es : σ.set i ov = σ := by
    apply List.ext_getElem?
    intro j
    by_cases e : j = i
    · subst e
      rw [List.getElem?_set_self his, hov]
    · rw [List.getElem?_set_ne (fun z => e z.symm)]
  have hap := R1.inp i a ma
  have R0 : Rel K p' H' σ (α'.set i .un) (setF A' i []) := by
    have z := rel_put (o := ov) (f := []) (r := .un) R1 hi rfl .nil (fun _ m => (List.not_mem_nil m).elim) (fun _ m => (List.not_mem_nil m).elim)
    rwa [es] at z
  have na : ∀ j, a ∉ setF A' i [] j := fun j z => by
    rcases setF_mem z with ⟨_, z⟩ | ⟨n, z⟩
    · exact List.not_mem_nil z
    · exact n (R1.dj j i a z ma)
  have R2 := rel_upd (o' := o') R0 hap ho hn na
  have ff : setF (setF A' i []) i f' = setF A' i f' := by funext j; unfold setF; split <;> rfl
  have nold : ∀ b, b ∈ A' i → H b ≠ none → b ∈ A i := fun b m z => (S1.new i b m).resolve_right z
  refine ⟨?_, fun b u ht hu n => ?_, fun b e => ?_, fun j b m => ?_, S1.sub, S1.mono, by rw [List.length_set]; exact S1.ln, fun j r e g => ?_, fun j r e g => ?_⟩
  · have z := rel_put (o := ov) (f := f') (r := q') (i := i) (q := .un) R2 (List.getElem?_set_self hia) (by rw [hov] at hs; exact hs) nd hin fun b m j ne z => by
      rcases setF_mem z with ⟨y, _⟩ | ⟨_, z⟩
      · exact ne y
      · rcases new b m with y | ⟨_, y⟩
        · exact ne (R1.dj j i b z y)
        · exact y j z
    rw [es, List.set_set, ff] at z
    exact z
  · have ne : b ≠ a := fun z => by
      subst z
      exact n i (nold b ma (by rw [hu]; exact fun z => by cases z))
    rcases S1.keep b u ht hu n with z | ⟨z1, z2, od, z3⟩
    · exact .inl (by rw [upd_ne ne]; exact z)
    · exact .inr ⟨z1, z2, od, by rw [upd_ne ne]; exact z3⟩
  · by_cases z : b = a
    · subst z; rw [upd_same] at e; cases e
    · rw [upd_ne z] at e; exact S1.dom b e
  · rcases setF_mem m with ⟨ej, m2⟩ | ⟨ne, m⟩
    · subst ej
      rcases new b m2 with y | ⟨y, _⟩
      · exact S1.new j b y
      · exact .inr y
    · exact S1.new j b m
  · obtain ⟨e1, s1, e2, k⟩ := S1.fix j r e g
    by_cases z : j = i
    · subst z
      rw [hi] at e2
      cases e2
      refine ⟨rfl, q', List.getElem?_set_self hia, k.fx ▸ kin.fx, k.lk ▸ kin.lk, k.rt ▸ kin.rt, fun y => ?_⟩
      rw [← k.lk, nl] at y
      cases y
    · exact ⟨rfl, s1, by rw [List.getElem?_set_ne (fun y => z y.symm)]; exact e2, k⟩
  · by_cases z : j = i
    · subst z
      rw [List.getElem?_set_self hia] at e
      cases e
      exact S1.nof j q hi (kin.fx ▸ g)
    · rw [List.getElem?_set_ne (fun y => z y.symm)] at e
      exact S1.nof j r e g
theorem KidsT.keys : ∀ {r : List (List Key × V)} {s : List (List Key × Da)} {as : List Addr}, KidsT K p H r s as → r.map (·.1) = s.map (·.1)
  | _, _, _, .nil => rfl
  | _, _, _, .cons _ _ t => by rw [List.map_cons, List.map_cons, KidsT.keys t]
theorem map_skip {k : List Key} {v : V} : ∀ {r : List (List Key × V)}, k ∉ r.map (·.1) → r.map (fun kv => if kv.1 = k then (kv.1, v) else kv) = r
  | [], _ => rfl
  | kv :: r, h => by
    rw [List.map_cons, List.mem_cons] at h
    rw [List.map_cons, map_skip fun z => h (.inr z), if_neg fun z => h (.inl z.symm)]
theorem KidsT.repl {k : List Key} {c : Addr} {x : Da} (top : Top K p H false c x) : ∀ {r : List (List Key × V)} {s : List (List Key × Da)} {as : List Addr}, KidsT K p H r s as → (s.map (·.1)).Nodup → valA s k ≠ none → as.Nodup → c ∉ as →
    ∃ as', KidsT K p H (r.map fun kv => if kv.1 = k then (kv.1, .ref c) else kv) (putF s k x) as' ∧ (∀ b ∈ as', b ∈ as ∨ b = c) ∧ as'.Nodup
  | _, _, _, .nil, _, e, _, _ => (e rfl).elim
  | _, _, _, .cons (k := j) (c := c0) (x := y) (r := r) (s := s) (as := as) h d t, nd, e, na, nc => by
    obtain ⟨n1, n2⟩ := List.nodup_cons.mp nd
    obtain ⟨m1, m2⟩ := List.nodup_cons.mp na
    by_cases z : j = k
    · subst z
      rw [show putF ((j, y) :: s) j x = (j, x) :: s from if_pos rfl, List.map_cons, if_pos rfl, map_skip (by rw [t.keys]; exact n1)]
      exact ⟨c :: as, .cons h top t, fun b m => by exact (List.mem_cons.mp m).elim .inr fun m => .inl (List.mem_cons_of_mem _ m), List.nodup_cons.mpr ⟨fun z => nc (List.mem_cons_of_mem _ z), m2⟩⟩
    · obtain ⟨as', k1, k2, k3⟩ := KidsT.repl top t n2 (fun q => e (by simpa [valA, List.find?_cons, z] using q)) m2 fun q => nc (List.mem_cons_of_mem _ q)
      rw [show putF ((j, y) :: s) k x = (j, y) :: putF s k x from if_neg z, List.map_cons, if_neg z]
      refine ⟨c0 :: as', .cons h d k1, fun b m => ?_, List.nodup_cons.mpr ⟨fun q => ?_, k3⟩⟩
      · rcases List.mem_cons.mp m with rfl | m
        · exact .inl (List.mem_cons_self ..)
        · exact (k2 b m).imp (List.mem_cons_of_mem _) id
      · rcases k2 _ q with q | q
        · exact m1 q
        · exact nc (by rw [← q]; exact List.mem_cons_self ..)
def putN (kvs : List (List Key × Da)) (k : List Key) (x : Da) : Option (List (List Key × Da)) := match valA kvs k with
  | none => if kvs.length < LIM then some (kvs ++ [(k, x)]) else none
  | some _ => if (kvs.map (·.1)).Nodup ∧ kvs.length < LIM then some (putF kvs k x) else none
def sNPut (i : Nat) (mf : MF) (mk : ME) : MS := fun α => (mf α).bind fun x => (mk x.2).bind fun y => (nestAt x.2 i).bind fun r => match r.2, x.1 with
  | .dt kvs, .r d => (res x.2 y.1).bind fun kd => (keyT kd).bind fun k => (putN kvs k d).bind fun w => some (.nx (x.2.set i (.n r.1 false (.dt w))))
  | _, _ => none
theorem ref_nput {i : Nat} {tf tk : TE} {mf : MF} {mk : ME} (hf : RefF K tf mf) (hk : RefP K tk mk) : RefS K (sDPut (tVar i) tk tf) (sNPut i mf mk) := ⟨fun p H σ α A o D R e h => by
  simp only [sNPut, Option.bind_eq_some_iff] at e
  obtain ⟨⟨x, α1⟩, e1, ⟨ly, αy⟩, e2, ⟨f, dd⟩, e3, e⟩ := e
  dsimp only at e
  split at e
  · rename_i kvs d
    simp only [Option.bind_eq_some_iff] at e
    obtain ⟨kd, e5, k, e6, w, e7, e8⟩ := e
    cases e8
    refine hf.go p H σ α A _ α1 _ R e1 fun p1 H1 A1 c cs R1 S1 fr nw => ?_
    obtain ⟨rfl, top⟩ := nw
    obtain ⟨a, as, xs, hs, ha, h1, h2, h3⟩ := nest_atT R1 (nestAt_some e3)
    refine ⟨.ref a, hs, ?_⟩
    refine hk.go p1 H1 σ α1 A1 ly αy _ R1 e2 fun kv H2 s2 q2 => ?_
    have R2 := R1.same s2
    have S2 := S1.trans R (.same s2)
    obtain ⟨b', rfl, hb, ok⟩ := vz_keyT (res_vz R2 q2 e5) e6
    have h1' := s2 _ _ h1
    have top2 : Top K p1 H2 false c d := top.tr (tr_same s2) fun o ho => s2 _ _ ho
    have h3' := h3.tr (tr_same s2) fun b _ o ho => s2 _ _ ho
    have ma : a ∈ A1 i := by rw [ha]; exact List.mem_cons_self ..
    have cp : c ∈ p1 := fr.inp c (List.mem_cons_self ..)
    have cn : ∀ j, c ∉ A1 j := fr.noA c (List.mem_cons_self ..)
    have c0 : H c = none := fr.non c (List.mem_cons_self ..)
    have nd : (a :: as).Nodup := by rw [← ha]; exact R1.nd i
    obtain ⟨n1, n2⟩ := List.nodup_cons.mp nd
    have nca : c ∉ as := fun z => cn i (by rw [ha]; exact List.mem_cons_of_mem _ z)
    have nac : a ≠ c := fun z => cn i (z ▸ ma)
    have hap := R1.inp i a ma
    obtain ⟨as', hk2, hm2, hnd⟩ : ∃ as', KidsT K p1 H2 (putK xs k (.ref c)) w as' ∧ (∀ b ∈ as', b ∈ as ∨ b = c) ∧ as'.Nodup := by
      unfold putN at e7
      rcases h3'.val k with ⟨z1, z2⟩ | ⟨c', inner, z1, z2, _, _⟩
      · rw [z1] at e7
        dsimp only at e7
        split at e7
        · cases e7
          rw [putK_new z2]
          refine ⟨as ++ [c], h3'.add ok top2, fun b m => ?_, ?_⟩
          · rcases List.mem_append.mp m with m | m
            · exact .inl m
            · exact .inr (List.mem_singleton.mp m)
          · rw [List.nodup_append]
            exact ⟨n2, by simp, fun b hb d hd z => nca (by rw [← List.mem_singleton.mp hd, ← z]; exact hb)⟩
        · cases e7
      · rw [z1] at e7
        dsimp only at e7
        split at e7
        · rename_i hc
          cases e7
          have hp : putK xs k (.ref c) = xs.map fun kv => if kv.1 = k then (kv.1, .ref c) else kv := by
            unfold putK
            rw [if_pos]
            unfold valV at z2
            obtain ⟨kv, y1, _⟩ := Option.map_eq_some_iff.mp z2
            have y3 := List.find?_some y1
            exact List.any_eq_true.mpr ⟨kv, List.mem_of_find?_eq_some y1, y3⟩
          rw [hp]
          exact h3'.repl top2 hc.1 (by rw [z1]; exact fun z => by cases z) n2 nca
        · cases e7
    have lt : xs.length < LIM := by
      rw [h3.len]
      unfold putN at e7
      split at e7
      · split at e7
        · assumption
        · cases e7
      · split at e7
        · rename_i hc; exact hc.2
        · cases e7
    have lw : (putK xs k (.ref c)).length ≤ LIM := Nat.le_trans (length_putK xs k _) lt
    have nas' : a ∉ as' := fun z => by
      rcases hm2 a z with y | y
      · exact n1 y
      · exact nac y
    have tu : Tr p1 H2 p1 (L2.upd H2 a (.dT (putK xs k (.ref c)))) := tr_upd hap h1' trivial
    have ⟨P, S⟩ := own_store (q' := .n f false (.dt w)) (o' := .dT (putK xs k (.ref c))) (f' := a :: as') R R2 S2 (nestAt_some e3) ⟨rfl, rfl, rfl, fun z => by cases z⟩ rfl ma h1' trivial
      (by rw [join_of hs]; exact ⟨a, as', rfl, rfl, _, upd_same, lw, hk2.tr tu fun b mb o ho => by rw [upd_ne (fun z => nas' (by rw [← z]; exact mb))]; exact ho⟩)
      (fun b m => by
        rcases List.mem_cons.mp m with rfl | m
        · exact hap
        · rcases hm2 b m with y | rfl
          · exact R1.inp i b (by rw [ha]; exact List.mem_cons_of_mem _ y)
          · exact cp)
      (List.nodup_cons.mpr ⟨nas', hnd⟩)
      (fun b m => by
        rcases List.mem_cons.mp m with rfl | m
        · exact .inl ma
        · rcases hm2 b m with y | rfl
          · exact .inl (by rw [ha]; exact List.mem_cons_of_mem _ y)
          · exact .inr ⟨c0, cn⟩)
    exact ⟨a, _, rfl, .inr ⟨xs, k, b', h1', rfl, hb, line_lt (Nat.le_of_lt lt), rfl⟩, h p1 _ σ _ P S⟩
  · cases e⟩
def rPopT1 : V → List V → Hp → VK → Prop := fun x xs H Q => ∃ (a : Addr) (kvs : List (List L2.Key × V)) (k : List L2.Key) (b : Addr) (v : V), x = .ref a ∧ xs = [.ref b] ∧ H a = some (.dT kvs) ∧ H b = some (.tup (k.map kV)) ∧ valV kvs k = some v ∧ Q v (upd H a (.dT (dropK kvs k)))
theorem mt_popT1 {X : Cx} (hu : X.A.units + 1 < cLine) : MtR X "dict.pop" rPopT1 := by
  intro pins s σ H x xs v us Q I rx rxs h
  obtain ⟨a, kvs, k, b, v0, rfl, rfl, ha, hb, ev, q1⟩ := h
  cases rx
  obtain ⟨u1, rfl, r1⟩ := vals1 rxs
  cases r1
  obtain ⟨z, hd, xs', rel, dd⟩ := dt_of I.hok ha
  have hz : xs'.length ≤ sizeLine := by rw [← Paired.length rel]; exact z
  have r := rel.val k
  rw [ev] at r
  cases hp : atKey xs' k with
  | none => rw [hp] at r; exact (show False from r).elim
  | some pp =>
    rw [hp] at r
    refine call_pop_heap (more := []) (.inl rfl) (PySem.F.args_dict_pop_2 _ _) (knd := tupleKind (mixKind X.prog X.w)) (tupleKind_room_in1 hu) (key_of I.hok hb) hd dd hp (fun h' dd' hs => ?_) hz
    obtain ⟨o, es, ep, hq, h2, h3, h4, _, h5⟩ := dd'
    have I2 : Inv X pins σ (upd H a (.dT (dropK kvs k))) { s with heap := h', toks := s.toks + (tupleKind (mixKind X.prog X.w)).draws k } :=
      d_write I (by rw [ha]; exact True.intro) hs ⟨o, hq⟩ ⟨Nat.le_trans (dropK_le kvs k) z, hd, _, (L2.DX.KT_drop k rel).keeps (fun c ys ec => (by rw [upd_ne (ne_of ec ha (fun z => nomatch z))]; exact ec)), o, es, ep, hq, h2, h3, h4, h5⟩
    exact ⟨v0, _, I2, r, q1⟩
theorem KidsT.drop {k : List Key} : ∀ {r : List (List Key × V)} {s : List (List Key × Da)} {as : List Addr}, KidsT K p H r s as → as.Nodup →
    ∃ as', KidsT K p H (dropK r k) (s.filter fun kv => decide (kv.1 ≠ k)) as' ∧ as'.Sublist as
  | _, _, _, .nil, _ => ⟨[], .nil, .slnil⟩
  | _, _, _, .cons (k := j) (c := c0) (x := y) (r := r) (s := s) (as := as) h d t, nd => by
    obtain ⟨as', k1, k2⟩ := KidsT.drop t (List.nodup_cons.mp nd).2
    by_cases z : j = k
    · rw [show dropK ((j, V.ref c0) :: r) k = dropK r k from List.filter_cons_of_neg (by simp [z]), List.filter_cons_of_neg (by simp [z])]
      exact ⟨as', k1, k2.cons _⟩
    · rw [show dropK ((j, V.ref c0) :: r) k = (j, V.ref c0) :: dropK r k from List.filter_cons_of_pos (by simp [z]), List.filter_cons_of_pos (by simp [z])]
      exact ⟨c0 :: as', .cons h d k1, k2.cons₂ _⟩
def popN (kvs : List (List Key × Da)) (k : List Key) : Option (List (List Key × Da)) := (valA kvs k).bind fun _ => some (kvs.filter fun kv => decide (kv.1 ≠ k))
def sNPop (i : Nat) (mk : ME) : MS := fun α => (mk α).bind fun y => (nestAt α i).bind fun r => match r.2 with
  | .dt kvs => (res α y.1).bind fun kd => (keyT kd).bind fun k => (popN kvs k).bind fun w => some (.nx (α.set i (.n r.1 false (.dt w))))
  | _ => none
theorem ref_npop {i : Nat} {tk : TE} {mk : ME} (hk : RefP K tk mk) : RefS K (tDrop (tBM K "dict" rPopT1 (tVar i) (tCons tk tNil))) (sNPop i mk) := ⟨fun p H σ α A o D R e h => by
  simp only [sNPop, Option.bind_eq_some_iff] at e
  obtain ⟨⟨ly, αy⟩, e2, ⟨f, dd⟩, e3, e⟩ := e
  dsimp only at e
  split at e
  · rename_i kvs
    simp only [Option.bind_eq_some_iff] at e
    obtain ⟨kd, e5, k, e6, w, e7, e8⟩ := e
    cases e8
    obtain ⟨a, as, xs, hs, ha, h1, h2, h3⟩ := nest_atT R (nestAt_some e3)
    refine ⟨.ref a, hs, .inr (.inr (.inl ⟨rfl, .inr ⟨xs, h1⟩⟩)), ?_⟩
    refine hk.go p H σ α A ly αy _ R e2 fun kv H2 s2 q2 => ?_
    have R2 := R.same s2
    obtain ⟨b', rfl, hb, ok⟩ := vz_keyT (res_vz R2 q2 e5) e6
    have h1' := s2 _ _ h1
    have h3' := h3.tr (tr_same s2) fun b _ o ho => s2 _ _ ho
    have ma : a ∈ A i := by rw [ha]; exact List.mem_cons_self ..
    have nd : (a :: as).Nodup := by rw [← ha]; exact R.nd i
    obtain ⟨n1, n2⟩ := List.nodup_cons.mp nd
    have hap := R.inp i a ma
    obtain ⟨x0, y1, y2⟩ := Option.bind_eq_some_iff.mp e7
    cases y2
    rcases h3'.val k with ⟨z1, _⟩ | ⟨c', inner, z1, z2, _, _⟩
    · rw [z1] at y1; cases y1
    obtain ⟨as', k1, k2⟩ := h3'.drop (k := k) n2
    have nas' : a ∉ as' := fun z => n1 (k2.subset z)
    have tu : Tr p H2 p (L2.upd H2 a (.dT (dropK xs k))) := tr_upd hap h1' trivial
    have ⟨P, S⟩ := own_store (q' := .n f false (.dt (kvs.filter fun kv => decide (kv.1 ≠ k)))) (o' := .dT (dropK xs k)) (f' := a :: as') R R2 (.same s2) (nestAt_some e3) ⟨rfl, rfl, rfl, fun z => by cases z⟩ rfl ma h1' trivial
      (by rw [join_of hs]; exact ⟨a, as', rfl, rfl, _, upd_same, Nat.le_trans (dropK_le xs k) h2, k1.tr tu fun b mb o ho => by rw [upd_ne (fun z => nas' (by rw [← z]; exact mb))]; exact ho⟩)
      (fun b m => by
        rcases List.mem_cons.mp m with rfl | m
        · exact hap
        · exact R.inp i b (by rw [ha]; exact List.mem_cons_of_mem _ (k2.subset m)))
      (List.nodup_cons.mpr ⟨nas', n2.sublist k2⟩)
      (fun b m => by
        rcases List.mem_cons.mp m with rfl | m
        · exact .inl ma
        · exact .inl (by rw [ha]; exact List.mem_cons_of_mem _ (k2.subset m)))
    exact ⟨a, xs, k, b', _, rfl, rfl, h1', hb, z2, h p _ σ _ P S⟩
  · cases e⟩
end
end Vm
namespace Vm
open PySem PySem.Spec PyProof.Rows L2 Gk
section
variable {K : PySem.W.Frag} {p p' p2 : List Addr} {H H' H2 : Hp} {σ σ' σ2 : L2.St} {α α' α2 α0 : AS} {A A' A2 : FT}
/-- what is put in is there, and what was there -/
theorem rel_news {L : List Addr} (R : Rel K p H σ α A) (s : Same H H') (hL : ∀ b ∈ L, H b = none ∧ H' b ≠ none) : Rel K (L ++ p) H' σ α A ∧ Step p H σ α A (L ++ p) H' σ α A ∧ ∀ b ∈ L, ∀ i, b ∉ A i := by
  have t : Tr p H (L ++ p) H' := ⟨fun a u _ n r => ⟨Rd.same (fun o e => s a o e) r, fun m => by
    rcases List.mem_append.mp m with z | z
    · exact Rd.ne_none r (hL a z).1
    · exact n z⟩, fun a xs _ r => s a _ r, fun a xs r => s a _ r, fun a o u _ r => s a _ r⟩
  refine ⟨⟨R.len, fun i r e => (R.sl i r e).tr t fun c m u q => s c u q, R.out, R.nd, R.dj, fun i b m => List.mem_append_right _ (R.inp i b m), fun b m z => ?_, (R.tb.sub (q := L ++ p) fun b m => ?_).same s⟩,
    ⟨fun b u _ e _ => .inl (s b u e), fun b e => Same.free s e, fun i b m => .inl m, fun b m => ?_, fun b m => .inl (List.mem_append_right _ m), rfl, fun i r e f => ⟨rfl, r, e, .refl⟩, fun i r e f => ⟨r, e, f⟩⟩, fun b m i z => R.in_al z (hL b m).1⟩
  · rcases List.mem_append.mp m with m | m
    · exact (hL b m).2 z
    · exact R.al b m (Same.free s z)
  · rcases List.mem_append.mp m with m | m
    · exact .inr (hL b m).1
    · exact .inl m
  · rcases List.mem_append.mp m with m | m
    · exact .inr (hL b m).1
    · exact .inl m
abbrev tItN (j : Nat) : TE := tTup (tCons (tSl rSlU (tVar j) tNoPart (tPart (tC (.int 2)))) (tCons (tCB rLstA (tCons (tOrE (tOp rIxA (tVar j) (tC (.int 2))) (tDGet (tVar j) (tC (.int 2)))) tNil)) tNil))
theorem itN_go {j : Nat} {v : V} {da db : Da} {ys : List Da} {k1 k2 : Key} {Q : VK} (al : ∀ a ∈ p, H a ≠ none) (hv : σ[j]? = some (some v)) (dv : Dz K p H v (.tuple [da, db, .tuple ys])) (e1 : keyD da = some k1) (e2 : keyD db = some k2)
    (h : ∀ H' t b c us, Same H H' → H' t = some (.tup [.ref b, .ref c]) → H' b = some (.tup [kV k1, kV k2]) → KeyOk k1 → KeyOk k2 → H c = none → H' c = some (.lst us) → us.length ≤ LIM → DzA K p H' us ys → Q (.ref t) H') : tItN j σ H Q := by
  obtain ⟨a, vs, rfl, h1, h2, h3⟩ := vz_tup (.of dv)
  cases h3 with
  | cons d1 h3 =>
    cases h3 with
    | cons d2 h3 =>
      cases h3 with
      | cons d3 h3 =>
        cases h3
        obtain ⟨rfl, ok1⟩ := vz_key (.of d1) e1
        obtain ⟨rfl, ok2⟩ := vz_key (.of d2) e2
        rename_i vc
        refine ⟨.ref a, hv, ?_⟩
        refine ⟨2, rfl, .inl ⟨a, _, rfl, h1, fun b H2 s2 hb => ?_⟩⟩
        have dv2 : Dz K p H2 (.ref a) (.tuple [da, db, .tuple ys]) := dv.tr (tr_same s2)
        have al2 : ∀ a ∈ p, H2 a ≠ none := fun a m z => al a m (Same.free s2 z)
        refine .inl ⟨.ref a, hv, ?_⟩
        refine rr_ix p H2 (.ref a) (.int 2) (.tuple [da, db, .tuple ys]) (.int 2) (.tuple ys) _ al2 (.of dv2) (.of (.int 2)) rfl fun z H3 s3 dz => ?_
        obtain ⟨tc, us, rfl, g1, g2, g3⟩ := vz_tup (.of dz)
        refine .inl ⟨tc, us, rfl, .inr g1, fun c hc => ?_⟩
        have s4 := same_new (o := .lst us) hc
        refine ⟨by show 2 ≤ _; rw [sizeLine_eq]; decide, fun t ht => ?_⟩
        have s5 := same_new (o := .tup [.ref b, .ref c]) ht
        exact h _ t b c us (((s2.trans s3).trans s4).trans s5) upd_same (s5 _ _ (s4 _ _ (s3 _ _ hb))) ok1 ok2 (Same.free (s2.trans s3) hc) (s5 _ _ upd_same) g2 (g3.tr (tr_same (s4.trans s5)))
def isI : Da → Bool
  | .int _ => true
  | _ => false
theorem dzA_ints : ∀ {us : List V} {ys : List Da}, DzA K p H us ys → ys.all isI = true → DzA K p' H' us ys
  | _, _, .nil, _ => .nil
  | _, y :: _, .cons h t, e => by
    rw [List.all_cons, Bool.and_eq_true] at e
    cases y with
    | int i => cases vz_int (.of h); exact .cons (.int i) (dzA_ints t e.2)
    | _ => cases e.1
/-- one pair, laid -/
def OneN (K : PySem.W.Frag) (p : List Addr) (H1 : Hp) (D : Addr) (H : Hp) (e : Addr × List Key × Addr × Addr) (d : List Key × Da) : Prop :=
  H e.1 = some (.tup [.ref e.2.2.1, .ref e.2.2.2]) ∧ H e.2.2.1 = some (.tup (e.2.1.map kV)) ∧ ((∀ x ∈ e.2.1, KeyOk x) ∧ e.2.1.length ≤ LIM) ∧ e.2.1 = d.1 ∧ H1 e.2.2.2 = none ∧ e.2.2.2 ≠ D ∧ ∃ us ys, d.2 = .list ys ∧ H e.2.2.2 = some (.lst us) ∧ us.length ≤ LIM ∧ DzA K p H us ys ∧ ys.all isI = true
theorem OneN.keep {H1 : Hp} {D : Addr} {o : HO} {vs : List V} {e : Addr × List Key × Addr × Addr} {d : List Key × Da} (h : OneN K p H1 D H e d) (s : Same H H2) (hD : H2 D = some (.lst vs)) (hp : D ∈ p) : OneN K p H1 D (L2.upd H2 D o) e d := by
  obtain ⟨h1, h2, h3, h4, h5, h6, us, ys, h7, h8, h9, h10, h11⟩ := h
  have ne : ∀ {b : Addr} {xs : List V}, H b = some (.tup xs) → b ≠ D := fun hb z => by
    have := s _ _ hb
    rw [z, hD] at this
    cases this
  exact ⟨(upd_ne (ne h1)).trans (s _ _ h1), (upd_ne (ne h2)).trans (s _ _ h2), h3, h4, h5, h6, us, ys, h7, (upd_ne h6).trans (s _ _ h8), h9, (h10.tr (tr_same s)).tr (tr_upd hp hD trivial), h11⟩
def pairN : Da → Option (List Key × Da)
  | .tuple [da, db, .tuple ys] => (keyD da).bind fun k1 => (keyD db).bind fun k2 => if ys.all isI = true then some ([k1, k2], .list ys) else none
  | _ => none
theorem pairN_some {x : Da} {d : List Key × Da} (h : pairN x = some d) : ∃ da db ys k1 k2, x = .tuple [da, db, .tuple ys] ∧ keyD da = some k1 ∧ keyD db = some k2 ∧ d = ([k1, k2], .list ys) ∧ ys.all isI = true := by
  unfold pairN at h
  split at h
  · rename_i da db ys
    obtain ⟨k1, e1, h⟩ := Option.bind_eq_some_iff.mp h
    obtain ⟨k2, e2, h⟩ := Option.bind_eq_some_iff.mp h
    split at h
    · rename_i hi
      cases h
      exact ⟨da, db, ys, k1, k2, rfl, e1, e2, rfl, hi⟩
    · cases h
  · cases h
def dictN (xs : List Da) : Option (List (List Key × Da)) := (xs.mapM pairN).bind fun ds => if ds.length ≤ LIM ∧ (ds.map (·.1)).Nodup then some ds else none
def fDictN (ma : ME) (j : Nat) : MF := fun α => (iAny ma α).bind fun x => if x.1.2 = [] ∧ noRoots x.2 [j] ∧ j < x.2.length then (dictN x.1.1).bind fun ds => some (.n (.dt ds), x.2) else none
theorem mapM_get : ∀ {xs : List Da} {ds : List (List Key × Da)} {i : Nat} {x : Da}, xs.mapM pairN = some ds → xs[i]? = some x → ∃ d, ds[i]? = some d ∧ pairN x = some d
  | [], _, _, _, _, h => by simp at h
  | y :: xs, ds, i, x, e, h => by
    rw [List.mapM_cons] at e
    obtain ⟨d, e1, e⟩ := Option.bind_eq_some_iff.mp e
    obtain ⟨ds', e2, e⟩ := Option.bind_eq_some_iff.mp e
    cases e
    cases i with
    | zero => cases h; exact ⟨d, rfl, e1⟩
    | succ i => rw [List.getElem?_cons_succ] at h; rw [List.getElem?_cons_succ]; exact mapM_get e2 h
theorem mapM_len : ∀ {xs : List Da} {ds : List (List Key × Da)}, xs.mapM pairN = some ds → ds.length = xs.length
  | [], _, e => by cases e; rfl
  | y :: xs, ds, e => by
    rw [List.mapM_cons] at e
    obtain ⟨d, e1, e⟩ := Option.bind_eq_some_iff.mp e
    obtain ⟨ds', e2, e⟩ := Option.bind_eq_some_iff.mp e
    cases e
    exact congrArg (· + 1) (mapM_len e2)
theorem mergeT_nodup : ∀ (es : List (List Key × Addr × V)) (acc : List (List Key × V)), (acc.map (·.1) ++ es.map (·.1)).Nodup → es.foldl (fun acc e => putK acc e.1 e.2.2) acc = acc ++ es.map fun e => (e.1, e.2.2)
  | [], acc, _ => by simp
  | e :: es, acc, nd => by
    have hn : valV acc e.1 = none := by
      unfold valV
      rw [Option.map_eq_none_iff, List.find?_eq_none]
      intro y m z
      have z : y.1 = e.1 := by simpa using z
      rw [List.map_cons, List.nodup_append] at nd
      exact nd.2.2 y.1 (List.mem_map_of_mem m) e.1 (List.mem_cons_self ..) z
    rw [List.foldl_cons, putK_new hn, mergeT_nodup es _ (by simpa [List.append_assoc] using nd), List.map_cons, List.append_assoc]
    rfl
theorem kids_of {H1 : Hp} {D : Addr} (s : Same H H') : ∀ {es : List (Addr × List Key × Addr × Addr)} {ds : List (List Key × Da)}, Paired (OneN K p H1 D H) es ds → KidsT K p' H' (es.map fun e => (e.2.1, .ref e.2.2.2)) ds (es.map fun e => e.2.2.2)
  | _, _, .nil => .nil
  | e :: _, d :: _, .cons h t => by
    obtain ⟨h1, h2, h3, h4, h5, h6, us, ys, h7, h8, h9, h10, h11⟩ := h
    have z := kids_of s t
    rw [List.map_cons, List.map_cons]
    have e1 : d = (e.2.1, Da.list ys) := by rw [h4, ← h7]
    rw [e1]
    exact .cons h3 ⟨us, s _ _ h8, h9, dzA_ints h10 h11⟩ z
theorem paired_memL {τ υ : Type} {R : τ → υ → Prop} : ∀ {xs : List τ} {ys : List υ}, Paired R xs ys → ∀ x ∈ xs, ∃ y ∈ ys, R x y
  | _, _, .cons h t, x, m => by
    rcases List.mem_cons.mp m with rfl | m
    · exact ⟨_, List.mem_cons_self .., h⟩
    · obtain ⟨y, m2, r⟩ := paired_memL t x m
      exact ⟨y, List.mem_cons_of_mem _ m2, r⟩
  | _, _, .nil, _, m => (List.not_mem_nil m).elim
theorem keys_of {H1 : Hp} {D : Addr} : ∀ {es : List (Addr × List Key × Addr × Addr)} {ds : List (List Key × Da)}, Paired (OneN K p H1 D H) es ds → (es.map fun e => e.2.1) = ds.map (·.1)
  | _, _, .nil => rfl
  | _, _, .cons h t => by rw [List.map_cons, List.map_cons, keys_of t, h.2.2.2.1]
theorem pairs_of {H1 : Hp} {D : Addr} : ∀ {es : List (Addr × List Key × Addr × Addr)} {ds : List (List Key × Da)}, Paired (OneN K p H1 D H) es ds → Paired (PairT H) (es.map (·.1)) (es.map fun e => (e.2.1, e.2.2.1, V.ref e.2.2.2))
  | _, _, .nil => .nil
  | _, _, .cons h t => .cons ⟨h.1, h.2.1⟩ (pairs_of t)
def ItW (K : PySem.W.Frag) (p : List Addr) (H1 : Hp) (D : Addr) (n : Nat) (ds : List (List Key × Da)) (i m : Nat) (H : Hp) : Prop :=
  m = n - i ∧ i ≤ n ∧ Same H1 H ∧ ∃ es : List (Addr × List Key × Addr × Addr), H D = some (.lst (es.map fun e => V.ref e.1)) ∧ Paired (OneN K (D :: p) H1 D H) es (ds.take i) ∧ (es.map fun e => e.2.2.2).Nodup
theorem ref_fDictN {te : TE} {me : ME} {j : Nat} (he : RefE K te me) : RefF K (tCB rDictT (tCons (tLc (iA K te) (gName j) tYes (tItN j) [j]) tNil)) (fDictN me j) := ⟨fun p H σ α A r α' Q R e h => by
  simp only [fDictN, Option.bind_eq_some_iff] at e
  obtain ⟨⟨⟨xs, dep⟩, α1⟩, e1, e2⟩ := e
  dsimp only at e2
  split at e2
  · rename_i hc
    obtain ⟨hdep, hnr, hj⟩ := hc
    subst hdep
    obtain ⟨ds, e3, e4⟩ := Option.bind_eq_some_iff.mp e2
    cases e4
    obtain ⟨ds', e5, e6⟩ := Option.bind_eq_some_iff.mp e3
    split at e6
    · rename_i hd
      cases e6
      refine (ref_iAny he).go p H σ α A _ α' _ R e1 fun p1 H1 A1 J R1 S1 it lkb D hD => ?_
      have hlen := mapM_len e5
      refine ⟨ItW K p1 H1 D xs.length ds, ⟨xs.length, rfl, Nat.zero_le _, same_new hD, [], upd_same, .nil, .nil⟩, ?_⟩
      rintro i m H2 ⟨rfl, hi, s2, es, hDe, hes, hnd⟩
      have RD : Rel K (D :: p1) H2 σ α' A1 := (rel_news (L := [D]) R1 s2 fun b m => by rw [List.mem_singleton.mp m]; exact ⟨hD, by rw [hDe]; exact fun z => by cases z⟩).1
      have itw := fun (σ1 : L2.St) (α2 : AS) (A2 : FT) (H2' : Hp) (R2 : Rel K (D :: p1) H2' σ1 α2 A2) (s : Same H1 H2') => it.go (D :: p1) H2' σ1 α2 A2 R2 (tr_new hD s) fun i m => (List.not_mem_nil m).elim
      obtain ⟨yes, stop⟩ := itw σ α' A1 H2 RD s2
      by_cases lt : i < xs.length
      · right
        have hx : xs[i]? = some xs[i] := List.getElem?_eq_getElem lt
        obtain ⟨hgo, hy⟩ := yes i _ hx
        refine ⟨hgo, fun H' => ∃ m', m' < xs.length - i ∧ ItW K p1 H1 D xs.length ds (i + 1) m' H', fun H' z => z, fun v H3 y => ?_⟩
        obtain ⟨sm, dv⟩ := hy v H3 y
        obtain ⟨d, f1, f2⟩ := mapM_get e5 hx
        obtain ⟨da, db, ys, k1, k2, ex, g1, g2, rfl, hI⟩ := pairN_some f2
        rw [ex] at dv
        refine ⟨by rw [wipe_set (List.mem_singleton.mpr rfl), wipe_wipe], ?_⟩
        have s3 := s2.trans sm
        have al3 : ∀ a ∈ D :: p1, H3 a ≠ none := fun a m z => RD.al a m (Same.free sm z)
        have hjs : j < (wipe σ [j]).length := by rw [wipe_length, R1.len]; exact hj
        unfold tYes
        refine iteT ?_
        refine itN_go al3 (List.getElem?_set_self hjs) dv g1 g2 fun H4 t b c us s4 q1 q2 q3 q4 q5 q6 q7 q8 => ?_
        have hD4 : H4 D = some (.lst (es.map fun e => V.ref e.1)) := s4 _ _ (sm _ _ hDe)
        have lt4 : es.length < LIM := by
          have := Paired.length hes
          rw [List.length_take] at this
          have := hd.1
          omega
        refine ⟨_, hD4, by rw [List.length_map]; exact line_lt (Nat.le_of_lt lt4), xs.length - (i + 1), by omega, rfl, lt, ?_, es ++ [(t, [k1, k2], b, c)], ?_, ?_, ?_⟩
        · intro z o hz
          rw [upd_ne (fun w => by rw [w, hD] at hz; cases hz)]
          exact s4 _ _ (s3 _ _ hz)
        · rw [upd_same, List.map_append]
          rfl
        · rw [List.take_succ, f1]
          refine paired_app (paired_imp (fun e d h => h.keep (sm.trans s4) hD4 (List.mem_cons_self ..)) hes) (.cons ?_ .nil)
          have cD : c ≠ D := fun z => by rw [z, sm _ _ hDe] at q5; cases q5
          have tD : t ≠ D := fun z => by rw [z, hD4] at q1; cases q1
          have bD : b ≠ D := fun z => by rw [z, hD4] at q2; cases q2
          exact ⟨(upd_ne tD).trans q1, (upd_ne bD).trans q2, ⟨fun x m => by rcases List.mem_cons.mp m with rfl | m; exact q3; rcases List.mem_cons.mp m with rfl | m; exact q4; exact (List.not_mem_nil m).elim, by show 2 ≤ LIM; decide⟩, rfl, Same.free s3 q5, cD, us, ys, rfl, (upd_ne cD).trans q6, q7, q8.tr (tr_upd (List.mem_cons_self ..) hD4 trivial), hI⟩
        · rw [List.map_append, List.nodup_append]
          refine ⟨hnd, by simp, fun c1 m1 c2 m2 z => ?_⟩
          rw [List.map_cons, List.map_nil, List.mem_singleton] at m2
          subst z
          obtain ⟨e', m3, rfl⟩ := List.mem_map.mp m1
          obtain ⟨d', _, _, _, _, _, _, _, us', _, _, h8, _⟩ := paired_memL hes e' m3
          rw [show e'.2.2.2 = c from m2, sm.free q5] at h8
          cases h8
      · left
        have ei : i = xs.length := by omega
        subst ei
        refine ⟨stop, ?_⟩
        rw [List.take_of_length_le (by omega)] at hes
        have keyse : (es.map fun e => e.2.1) = ds.map (·.1) := by
          exact keys_of hes
        refine ⟨D, es.map (·.1), es.map fun e => (e.2.1, e.2.2.1, .ref e.2.2.2), rfl, by rw [hDe, List.map_map]; rfl, ?_, fun q hq => ?_⟩
        · exact pairs_of hes
        · have hm : mergeT (es.map fun e => (e.2.1, e.2.2.1, V.ref e.2.2.2)) = es.map fun e => (e.2.1, V.ref e.2.2.2) := by
            unfold mergeT
            rw [mergeT_nodup _ _ (by rw [List.map_nil, List.nil_append, List.map_map]; exact keyse ▸ hd.2), List.nil_append, List.map_map]
            rfl
          rw [hm]
          have sq := same_new (o := .dT (es.map fun e => (e.2.1, V.ref e.2.2.2))) hq
          have hq1 : H1 q = none := s2.free hq
          have cfree : ∀ c ∈ es.map (fun e => e.2.2.2), H1 c = none ∧ c ≠ q ∧ ∃ us, H2 c = some (.lst us) := fun c m => by
            obtain ⟨e', m3, rfl⟩ := List.mem_map.mp m
            obtain ⟨d', _, _, _, _, _, h5, _, us', _, _, h8, _⟩ := paired_memL hes e' m3
            exact ⟨h5, (fun z => by rw [z, hq] at h8; cases h8), us', h8⟩
          obtain ⟨R3, S3, nr⟩ := rel_news (L := q :: es.map fun e => e.2.2.2) R1 (s2.trans sq) fun b m => by
            rcases List.mem_cons.mp m with rfl | m
            · exact ⟨hq1, by rw [upd_same]; exact fun z => by cases z⟩
            · obtain ⟨c1, c2, us, c3⟩ := cfree b m
              exact ⟨c1, by rw [sq _ _ c3]; exact fun z => by cases z⟩
          refine h _ _ A1 q (es.map fun e => e.2.2.2) R3 (S1.trans R S3) ⟨fun b m => List.mem_append_left _ m, fun b m => S1.dom b ?_, nr, List.nodup_cons.mpr ⟨fun z => (cfree q z).2.1 rfl, hnd⟩⟩ ⟨_, .of upd_same, ?_, ?_⟩
          · rcases List.mem_cons.mp m with rfl | m
            · exact hq1
            · exact (cfree b m).1
          · rw [List.length_map, Paired.length hes]
            exact hd.1
          · exact kids_of sq hes
    · cases e6
  · cases e2⟩
end
end Vm
namespace K67
open PySem PySem.Spec PyProof.Rows L2 Gk Vm Wo
def topS (i : Nat) : Stmt := PySem.Challenge.pw_woundwalks_k67_who_knows_more.main.body.getD i (.Pass ⟨0, 0, 0, 0⟩)
abbrev FnP (K : PySem.W.Frag) (x : Str) (st : Stmt) (f : Addr) (fd : FuncData) : Prop := FunD K x x (defArgs st) (defBody st) (defScope st) [] [] f fd
end K67
namespace K67
open PySem PySem.Spec PyProof.Rows L2 Gk Vm Wo
abbrev s_posted_arms : Stmt := topS 1
theorem sc_posted_arms : FnScope ["web", "post"] ["web"] (defScope s_posted_arms) := ⟨rfl, rfl, rfl, by decide +kernel, rfl, by decide +kernel, by decide +kernel⟩
theorem ok_posted_arms {P : Program} {w : World} {K : PySem.W.Frag} {mg : Str → Option Value} {base : Heap} {f : Addr} {fd : FuncData} (F : FnP K "posted_arms" s_posted_arms f fd) (B : Bi mg) :
    FnG P w K mg base CX0 1 f fd ["web"] (spV K F_posted_arms) := by
  refine okGN F sc_posted_arms (fun vs H Q E h => spV_len h) (fun cdv A outer s H vs Q E hg hr h => ?_)
  exact ⟨_, (pss_one (ps_ret (pe_dcT (hu_of hr) (own := [("post", 1)]) (g := (gName 1)) (tt := tYes) rfl sc_posted_arms.nd (pi_any (K := K) rfl (pe_orE (pe_ix ix_any (pv 0) pe_int (fun _ _ => rfl)) (pe_dget (hu_of hr) (pv 0) pe_int (fun _ _ => rfl)))) (blkOk_by (own := [("post", 1)]) (N := ["web", "post"]) (sc := defScope s_posted_arms) (by decide +kernel)) (fun _ _ _ _ _ => (pg_name (i := 1) sc_posted_arms.nd rfl (Or.inl rfl))) (fun _ _ _ _ _ => pts_nil) (fun _ _ _ _ _ => (pe_slice sl_any (pv 1) po_none (po_some pe_int))) (fun _ _ _ _ _ => (pe_orE (pe_ix ix_any (pv 1) pe_int (fun _ _ => rfl)) (pe_dget (hu_of hr) (pv 1) pe_int (fun _ _ => rfl))))))), body_ok ((ref_ret (ref_F (ref_dcT (ref_iAny (ref_sub ref_var ref_int)) (ref_bName (by decide)) ref_yes (ref_sl ref_var ref_oNone (ref_oSome ref_int)) (ref_sub ref_var ref_int))))) (by decide) h⟩
abbrev s_knows_more : Stmt := topS 3
theorem sc_knows_more : FnScope ["one", "other", "known", "crossing", "name", "arms", "arm"] ["one", "other"] (defScope s_knows_more) := ⟨rfl, rfl, rfl, by decide +kernel, rfl, by decide +kernel, by decide +kernel⟩
noncomputable def m_knows_more : MS := (sSeq (sAsg (eCall F_posted_arms [] (aCons (eV 0) aNil)) (setD 2))
  (sSeq (sForD (iAny (eOp fSubs (eV 1) (eC (.int 1)))) (gTupD 3 (gsCons (setD 3) (gsCons (setD 4) (gsCons (setD 5) gsNil)))) (sSeq (sIf (tOfE (eOp (fIn true) (eTup (aCons (eV 3) (aCons (eV 4) aNil))) (eV 2))) (sRet (eC (.bool false))) sNext)
  (sIf (mNot (mTru (eCB fAll (aCons (eF (fLc (cmI (iAny (eOp fSubs (eV 2) (eTup (aCons (eV 3) (aCons (eV 4) aNil))))) [6] (setD 6) tYesM (mLc (eOp (fIn false) (eV 6) (eV 5)))))) aNil)))) (sRet (eC (.bool false))) sNext)))
  (sRet (eC (.bool true)))))
noncomputable def F_knows_more : FV := mDef 2 7 m_knows_more
theorem ok_knows_more {P : Program} {w : World} {K : PySem.W.Frag} {mg : Str → Option Value} {base : Heap} {f : Addr} {fd : FuncData} (F : FnP K "knows_more" s_knows_more f fd) (B : Bi mg) (c_posted_arms : ClG P w K mg base 1 "posted_arms" ["web"] (spV K F_posted_arms)) :
    FnG P w K mg base CX0 2 f fd ["one", "other"] (spV K F_knows_more) := by
  refine okGN F sc_knows_more (fun vs H Q E h => spV_len h) (fun cdv A outer s H vs Q E hg hr h => ?_)
  exact ⟨_, (pss_cons (ps_set (i := 2) sc_knows_more.nd rfl (Or.inl rfl) (pe_clG c_posted_arms hg hr (by decide) (by rfl) (pa_cons (pv 0) pa_nil)))
      (pss_cons (ps_for PassesOwn.never rfl (pi_any (K := K) rfl (pe_orE (pe_ix ix_any (pv 1) pe_int (fun _ _ => rfl)) (pe_dget (hu_of hr) (pv 1) pe_int (fun _ _ => rfl)))) (pg_tup rfl (pgs_cons (pg_name (i := 3) sc_knows_more.nd rfl (Or.inl rfl)) (pgs_cons (pg_name (i := 4) sc_knows_more.nd rfl (Or.inl rfl)) (pgs_cons (pg_name (i := 5) sc_knows_more.nd rfl (Or.inr rfl)) pgs_nil)))) (pss_cons (ps_if (pt_orT (pt_cmpR (op_notInA (K := K) rfl (hu65_of hr)) (pe_tup (pa_cons (pv 3) (pa_cons (pv 4) pa_nil))) (pv 2) rfl) (pt_cmp (pc_dnotin (hu_of hr) (pe_tup (pa_cons (pv 3) (pa_cons (pv 4) pa_nil))) (pv 2)))) (pss_one (ps_ret pe_bl)) pss_nil)
      (pss_one (ps_if (pt_not (pt_tru (pe_callB (all_H rfl) (by rfl) B.all (by decide +kernel) (pa_cons (pe_lc (own := [("arm", 6)]) (g := (gName 6)) (tt := tYes) rfl sc_knows_more.nd (pi_any (K := K) rfl (pe_orE (pe_ix ix_any (pv 2) (pe_tup (pa_cons (pv 3) (pa_cons (pv 4) pa_nil))) (fun _ _ => rfl)) (pe_dget (hu_of hr) (pv 2) (pe_tup (pa_cons (pv 3) (pa_cons (pv 4) pa_nil))) (fun _ _ => rfl)))) (blkOk_by (own := [("arm", 6)]) (N := ["one", "other", "known", "crossing", "name", "arms", "arm"]) (sc := defScope s_knows_more) (by decide +kernel)) (fun _ _ _ _ _ => (pg_name (i := 6) sc_knows_more.nd rfl (Or.inl rfl))) (fun _ _ _ _ _ => pts_nil) (fun _ _ _ _ _ => (pe_orE (pe_cmpR (op_inA (K := K) rfl (hu65_of hr)) (pv 6) (pv 5) rfl) (pe_cmp (pc_din (hu_of hr) (pv 6) (pv 5)))))) pa_nil)))) (pss_one (ps_ret pe_bl)) pss_nil))))
      (pss_one (ps_ret pe_bl)))), body_ok ((ref_seq (ref_asg (ref_call .nil (ref_cons ref_var ref_nil)) ref_gName)
      (ref_seq (ref_for (ref_iAny (ref_sub ref_var ref_int)) (ref_gTup (ref_gCons ref_gName (ref_gCons ref_gName (ref_gCons ref_gName ref_gNil)))) (ref_seq (ref_ifS (ref_testOr (ref_in_ rfl (ref_tup (ref_cons ref_var (ref_cons ref_var ref_nil))) ref_var)) (ref_ret ref_bl) ref_next)
      (ref_ifS (ref_not (ref_tru (ref_cb rr_all (ref_cons (ref_F (ref_lc (ref_iAny (ref_sub ref_var (ref_tup (ref_cons ref_var (ref_cons ref_var ref_nil))))) (ref_bName (by decide)) ref_yes (ref_in_ rfl ref_var ref_var))) ref_nil)))) (ref_ret ref_bl) ref_next)))
      (ref_ret ref_bl)))) (by decide) h⟩
abbrev s_law_pot : Stmt := topS 5
theorem sc_law_pot : FnScope ["_law_script", "_law_k", "_law_cell", "_law_great"] ["_law_script", "_law_k"] (defScope s_law_pot) := ⟨rfl, rfl, rfl, by decide +kernel, rfl, by decide +kernel, by decide +kernel⟩
theorem ok_law_pot {P : Program} {w : World} {K : PySem.W.Frag} {mg : Str → Option Value} {base : Heap} {f : Addr} {fd : FuncData} (F : FnP K "_law_pot" s_law_pot f fd) (B : Bi mg) (hd : PySem.W.nsIn K cStatics "sys.int_max_str_digits" = some none) :
    FnG P w K mg base CX0 1 f fd ["_law_script", "_law_k"] (spV K F_law_pot) := by
  refine okGN F sc_law_pot (fun vs H Q E h => spV_len h) (fun cdv A outer s H vs Q E hg hr h => ?_)
  exact ⟨_, (pss_cons (ps_set (i := 2) sc_law_pot.nd rfl (Or.inl rfl) (pe_op op_addA (pe_op op_mul pe_int (pv 1)) (pe_callB (len_L (K := K) rfl) (by rfl) B.len (by decide +kernel) (pa_cons (pv 0) pa_nil))))
      (pss_cons (ps_if (pt_cmpR (op_ltA (K := K) rfl (hu70_of hr)) (pv 1) (pe_callB (len_L (K := K) rfl) (by rfl) B.len (by decide +kernel) (pa_cons (pv 0) pa_nil)) (nomark _)) (pss_one (ps_set (i := 2) sc_law_pot.nd rfl (Or.inl rfl) (pe_ix (ix_L (K := K) rfl) (pv 0) (pv 1) (fun _ _ => rfl)))) pss_nil)
      (pss_cons (ps_set (i := 3) sc_law_pot.nd rfl (Or.inl rfl) (pe_op op_mul (pe_op op_mod (pe_callB cr_abs (by rfl) B.abs (by decide +kernel) (pa_cons (pv 2) pa_nil)) (pe_callTy (cr_big hd) (by rfl) B.int (by decide +kernel) (pa_cons (pe_op op_add_str pe_str (pe_op op_mulStr pe_str pe_int)) pa_nil))) (pe_callTy cr_int (by rfl) B.int (by decide +kernel) (pa_cons (pe_cmpR op_ge (pe_callB cr_abs (by rfl) B.abs (by decide +kernel) (pa_cons (pv 2) pa_nil)) (pe_op op_pow pe_int pe_int) (nomark _)) pa_nil))))
      (pss_one (ps_ret (pe_lst (pa_cons (pv 3) (pa_cons (pe_op op_mod (pe_op op_mul (pe_op op_addA (pe_op op_addA (pe_op op_mod (pv 2) pe_int) (pe_op op_mul (pe_op op_mul pe_int (pv 1)) (pv 1))) pe_int) pe_int) pe_int) pa_nil)))))))), body_ok ((ref_seq (ref_asg (ref_op rr_add (ref_op rr_mul ref_int ref_var) ref_scLen) ref_gName)
      (ref_seq (ref_ifS (ref_test (ref_op rr_ltA ref_var ref_scLen)) (ref_asg (ref_scIx ref_var) ref_gName) ref_next)
      (ref_seq (ref_asg (ref_op rr_mul (ref_op rr_mod (ref_cb rr_abs (ref_cons ref_var ref_nil)) (ref_big fun _ _ _ h => big_arg h)) (ref_cb rr_int (ref_cons (ref_op rr_IB (ref_cb rr_abs (ref_cons ref_var ref_nil)) (ref_op rr_pow ref_int ref_int)) ref_nil))) ref_gName)
      (ref_retF (ref_fLst (ref_cons ref_var (ref_cons (ref_op rr_mod (ref_op rr_mul (ref_op rr_add (ref_op rr_add (ref_op rr_mod ref_var ref_int) (ref_op rr_mul (ref_op rr_mul ref_int ref_var) ref_var)) ref_int) ref_int) ref_int) ref_nil)))))))) (by decide) h⟩
abbrev s_law_take : Stmt := topS 6
theorem sc_law_take : FnScope ["_law_pot_here", "_law_upto", "_law_digit"] ["_law_pot_here", "_law_upto"] (defScope s_law_take) := ⟨rfl, rfl, rfl, by decide +kernel, rfl, by decide +kernel, by decide +kernel⟩
theorem ok_law_take {P : Program} {w : World} {K : PySem.W.Frag} {mg : Str → Option Value} {base : Heap} {f : Addr} {fd : FuncData} (F : FnP K "_law_take" s_law_take f fd) (B : Bi mg) :
    FnG P w K mg base CX0 1 f fd ["_law_pot_here", "_law_upto"] (spV K F_law_take) := by
  refine okGN F sc_law_take (fun vs H Q E h => spV_len h) (fun cdv A outer s H vs Q E hg hr h => ?_)
  exact ⟨_, (pss_cons (ps_if (pt_cmpR op_gt (pe_orE (pe_ix ix_any (pv 0) pe_int (fun _ _ => rfl)) (pe_dget (hu_of hr) (pv 0) pe_int (fun _ _ => rfl))) pe_int (nomark _)) (pss_cons (ps_set (i := 2) sc_law_take.nd rfl (Or.inl rfl) (pe_op op_mod (pe_orE (pe_ix ix_any (pv 0) pe_int (fun _ _ => rfl)) (pe_dget (hu_of hr) (pv 0) pe_int (fun _ _ => rfl))) (pv 1)))
      (pss_cons (ps_orS (ps_asg (pe_op op_fdiv (pe_orE (pe_ix ix_any (pv 0) pe_int (fun _ _ => rfl)) (pe_dget (hu_of hr) (pv 0) pe_int (fun _ _ => rfl))) (pv 1)) (pg_sub (pv 0) pe_int set_list)) (ps_dput (hu_of hr) (pv 0) pe_int (pe_op op_fdiv (pe_orE (pe_ix ix_any (pv 0) pe_int (fun _ _ => rfl)) (pe_dget (hu_of hr) (pv 0) pe_int (fun _ _ => rfl))) (pv 1)) (by rfl)))
      (pss_one (ps_ret (pv 2))))) pss_nil)
      (pss_cons (ps_orS (ps_asg (pe_op op_mod (pe_op op_addA (pe_op op_mul (pe_orE (pe_ix ix_any (pv 0) pe_int (fun _ _ => rfl)) (pe_dget (hu_of hr) (pv 0) pe_int (fun _ _ => rfl))) pe_int) pe_int) pe_int) (pg_sub (pv 0) pe_int set_list)) (ps_dput (hu_of hr) (pv 0) pe_int (pe_op op_mod (pe_op op_addA (pe_op op_mul (pe_orE (pe_ix ix_any (pv 0) pe_int (fun _ _ => rfl)) (pe_dget (hu_of hr) (pv 0) pe_int (fun _ _ => rfl))) pe_int) pe_int) pe_int) (by rfl)))
      (pss_one (ps_ret (pe_op op_mod (pe_op op_fdiv (pe_op op_mod (pe_op op_mul (pe_op op_fdiv (pe_orE (pe_ix ix_any (pv 0) pe_int (fun _ _ => rfl)) (pe_dget (hu_of hr) (pv 0) pe_int (fun _ _ => rfl))) pe_int) (pe_op op_addA (pe_op op_mod (pe_orE (pe_ix ix_any (pv 0) pe_int (fun _ _ => rfl)) (pe_dget (hu_of hr) (pv 0) pe_int (fun _ _ => rfl))) pe_int) pe_int)) pe_int) pe_int) (pv 1)))))), body_ok ((ref_seq (ref_ifS (ref_test (ref_op rr_IB (ref_sub ref_var ref_int) ref_int)) (ref_seq (ref_asg (ref_op rr_mod (ref_sub ref_var ref_int) ref_var) ref_gName)
      (ref_seq (ref_setI (ref_op rr_div (ref_sub ref_var ref_int) ref_var) ref_int)
      (ref_ret ref_var))) ref_next)
      (ref_seq (ref_setI (ref_op rr_mod (ref_op rr_add (ref_op rr_mul (ref_sub ref_var ref_int) ref_int) ref_int) ref_int) ref_int)
      (ref_ret (ref_op rr_mod (ref_op rr_div (ref_op rr_mod (ref_op rr_mul (ref_op rr_div (ref_sub ref_var ref_int) ref_int) (ref_op rr_add (ref_op rr_mod (ref_sub ref_var ref_int) ref_int) ref_int)) ref_int) ref_int) ref_var))))) (by decide) h⟩
abbrev s_law_of : Stmt := topS 7
theorem sc_law_of : FnScope ["_law_pot_here", "_law_some"] ["_law_pot_here", "_law_some"] (defScope s_law_of) := ⟨rfl, rfl, rfl, by decide +kernel, rfl, by decide +kernel, by decide +kernel⟩
theorem ok_law_of {P : Program} {w : World} {K : PySem.W.Frag} {mg : Str → Option Value} {base : Heap} {f : Addr} {fd : FuncData} (F : FnP K "_law_of" s_law_of f fd) (B : Bi mg) (c_law_take : ClG P w K mg base 1 "_law_take" ["_law_pot_here", "_law_upto"] (spV K F_law_take)) :
    FnG P w K mg base CX0 2 f fd ["_law_pot_here", "_law_some"] (spV K F_law_of) := by
  refine okGN F sc_law_of (fun vs H Q E h => spV_len h) (fun cdv A outer s H vs Q E hg hr h => ?_)
  exact ⟨_, (pss_one (ps_ret (pe_orE (pe_ix ix_any (pv 1) (pe_clG c_law_take hg hr (by decide) (by rfl) (pa_cons (pv 0) (pa_cons (pe_callB len_all (by rfl) B.len (by decide +kernel) (pa_cons (pv 1) pa_nil)) pa_nil))) (fun _ _ => rfl)) (pe_dget (hu_of hr) (pv 1) (pe_clG c_law_take hg hr (by decide) (by rfl) (pa_cons (pv 0) (pa_cons (pe_callB len_all (by rfl) B.len (by decide +kernel) (pa_cons (pv 1) pa_nil)) pa_nil))) (fun _ _ => rfl))))), body_ok ((ref_ret (ref_sub ref_var (ref_call .nil (ref_cons ref_var (ref_cons (ref_cb rr_lenB (ref_cons ref_var ref_nil)) ref_nil)))))) (by decide) h⟩
abbrev s_law_names : Stmt := topS 8
theorem sc_law_names : FnScope ["_law_pot_here", "_law_many", "_law_stem", "_law_at", "_law_first", "_law_leap", "_law_letters", "_law_k", "_law_letter"] ["_law_pot_here", "_law_many"] (defScope s_law_names) := ⟨rfl, rfl, rfl, by decide +kernel, rfl, by decide +kernel, by decide +kernel⟩
theorem ok_law_names {P : Program} {w : World} {K : PySem.W.Frag} {mg : Str → Option Value} {base : Heap} {f : Addr} {fd : FuncData} (F : FnP K "_law_names" s_law_names f fd) (B : Bi mg) (c_law_of : ClG P w K mg base 2 "_law_of" ["_law_pot_here", "_law_some"] (spV K F_law_of)) (c_law_take : ClG P w K mg base 1 "_law_take" ["_law_pot_here", "_law_upto"] (spV K F_law_take)) :
    FnG P w K mg base CX0 3 f fd ["_law_pot_here", "_law_many"] (spV K F_law_names) := by
  refine okGN F sc_law_names (fun vs H Q E h => spV_len h) (fun cdv A outer s H vs Q E hg hr h => ?_)
  exact ⟨_, (pss_cons (ps_set (i := 2) sc_law_names.nd rfl (Or.inr rfl) (pe_joinH pe_str (pe_lc (own := [("_law_k", 7)]) (g := (gName 7)) (tt := tYes) rfl sc_law_names.nd (pi_range1 (by rfl) B.range (pa_cons (pe_clG c_law_take hg hr (by decide) (by rfl) (pa_cons (pv 0) (pa_cons pe_int pa_nil))) pa_nil)) (blkOk_by (own := [("_law_k", 7)]) (N := ["_law_pot_here", "_law_many", "_law_stem", "_law_at", "_law_first", "_law_leap", "_law_letters", "_law_k", "_law_letter"]) (sc := defScope s_law_names) (by decide +kernel)) (fun _ _ _ _ _ => (pg_name (i := 7) sc_law_names.nd rfl (Or.inl rfl))) (fun _ _ _ _ _ => pts_nil) (fun _ _ _ _ _ => (pe_clG c_law_of hg hr (by decide) (by rfl) (pa_cons (pv 0) (pa_cons (pe_callTy (list_any rfl) (by rfl) B.list (by decide +kernel) (pa_cons pe_str pa_nil)) pa_nil)))))))
      (pss_cons (ps_asg (pe_tup (pa_cons (pe_clG c_law_take hg hr (by decide) (by rfl) (pa_cons (pv 0) (pa_cons (pe_op op_addA (pe_callB len_all (by rfl) B.len (by decide +kernel) (pa_cons (pv 2) pa_nil)) pe_int) pa_nil))) (pa_cons (pe_clG c_law_take hg hr (by decide) (by rfl) (pa_cons (pv 0) (pa_cons pe_int pa_nil))) (pa_cons (pe_clG c_law_of hg hr (by decide) (by rfl) (pa_cons (pv 0) (pa_cons (pe_lst (pa_cons pe_int (pa_cons pe_int (pa_cons pe_int (pa_cons pe_int (pa_cons pe_int (pa_cons pe_int pa_nil))))))) pa_nil))) pa_nil)))) (pg_tup rfl (pgs_cons (pg_name (i := 3) sc_law_names.nd rfl (Or.inr rfl)) (pgs_cons (pg_name (i := 4) sc_law_names.nd rfl (Or.inr rfl)) (pgs_cons (pg_name (i := 5) sc_law_names.nd rfl (Or.inr rfl)) pgs_nil)))))
      (pss_cons (ps_setLc (i := 6) (own := [("_law_k", 7)]) (g := (gName 7)) (tt := tYes) (by rfl) sc_law_names.nd rfl rfl (sw_true rfl rfl rfl (by decide +kernel)) (pi_range1 (by rfl) B.range (pa_cons (pv 1) pa_nil)) (blkOk_by (own := [("_law_k", 7)]) (N := ["_law_pot_here", "_law_many", "_law_stem", "_law_at", "_law_first", "_law_leap", "_law_letters", "_law_k", "_law_letter"]) (sc := defScope s_law_names) (by decide +kernel)) (fun _ _ _ _ _ => (pg_name (i := 7) sc_law_names.nd rfl (Or.inl rfl))) (fun _ _ _ _ _ => pts_nil) (fun _ _ _ _ _ => (pe_orE (pe_ix ix_any pe_str (pe_op op_mod (pe_op op_addA (pv 4) (pe_op op_mul (pv 5) (pv 7))) pe_int) (fun _ _ => rfl)) (pe_dget (hu_of hr) pe_str (pe_op op_mod (pe_op op_addA (pv 4) (pe_op op_mul (pv 5) (pv 7))) pe_int) (fun _ _ => rfl)))))
      (pss_one (ps_ret (pe_callB (cr_sortD (K := K) rfl (hu70_of hr)) (by rfl) B.sorted (by decide +kernel) (pa_cons (pe_lc (own := [("_law_letter", 8)]) (g := (gName 8)) (tt := tYes) rfl sc_law_names.nd (pi_any (K := K) rfl (pv 6)) (blkOk_by (own := [("_law_letter", 8)]) (N := ["_law_pot_here", "_law_many", "_law_stem", "_law_at", "_law_first", "_law_leap", "_law_letters", "_law_k", "_law_letter"]) (sc := defScope s_law_names) (by decide +kernel)) (fun _ _ _ _ _ => (pg_name (i := 8) sc_law_names.nd rfl (Or.inl rfl))) (fun _ _ _ _ _ => pts_nil) (fun _ _ _ _ _ => (pe_op op_addA (pe_op op_addA (pe_slice sl_any (pv 2) po_none (po_some (pv 3))) (pv 8)) (pe_slice sl_any (pv 2) (po_some (pv 3)) po_none)))) pa_nil))))))), body_ok ((ref_seq (ref_asg (ref_join (ref_str (by decide +kernel)) (ref_F (ref_lc (ref_iRg1 (ref_cons (ref_call .nil (ref_cons ref_var (ref_cons ref_int ref_nil))) ref_nil)) (ref_bName (by decide)) ref_yes (ref_call .nil (ref_cons ref_var (ref_cons (ref_F (ref_fList (ref_cons (ref_str (by decide +kernel)) ref_nil))) ref_nil)))))) ref_gName)
      (ref_seq (ref_asg (ref_tup (ref_cons (ref_call .nil (ref_cons ref_var (ref_cons (ref_op rr_add (ref_cb rr_lenB (ref_cons ref_var ref_nil)) ref_int) ref_nil))) (ref_cons (ref_call .nil (ref_cons ref_var (ref_cons ref_int ref_nil))) (ref_cons (ref_call .nil (ref_cons ref_var (ref_cons (ref_F (ref_fLst (ref_cons ref_int (ref_cons ref_int (ref_cons ref_int (ref_cons ref_int (ref_cons ref_int (ref_cons ref_int ref_nil)))))))) ref_nil))) ref_nil)))) (ref_gTup (ref_gCons ref_gName (ref_gCons ref_gName (ref_gCons ref_gName ref_gNil)))))
      (ref_seq (ref_asg (ref_F (ref_lc (ref_iRg1 (ref_cons ref_var ref_nil)) (ref_bName (by decide)) ref_yes (ref_sub (ref_str (by decide +kernel)) (ref_op rr_mod (ref_op rr_add ref_var (ref_op rr_mul ref_var ref_var)) ref_int)))) ref_gName)
      (ref_ret (ref_F (ref_fSort (ref_cons (ref_F (ref_lc (ref_iAny ref_var) (ref_bName (by decide)) ref_yes (ref_op rr_add (ref_op rr_add (ref_sl ref_var ref_oNone (ref_oSome ref_var)) ref_var) (ref_sl ref_var (ref_oSome ref_var) ref_oNone)))) ref_nil)))))))) (by decide) h⟩
abbrev s_law_web : Stmt := topS 9
theorem sc_law_web : FnScope ["_law_pot_here", "_law_n", "_law_names_here", "_law_most", "_law_found", "_law_crossing", "_law_name", "_law_arms", "_law_k"] ["_law_pot_here", "_law_n", "_law_names_here", "_law_most"] (defScope s_law_web) := ⟨rfl, rfl, rfl, by decide +kernel, rfl, by decide +kernel, by decide +kernel⟩
theorem ok_law_web {P : Program} {w : World} {K : PySem.W.Frag} {mg : Str → Option Value} {base : Heap} {f : Addr} {fd : FuncData} (F : FnP K "_law_web" s_law_web f fd) (B : Bi mg) (c_law_take : ClG P w K mg base 1 "_law_take" ["_law_pot_here", "_law_upto"] (spV K F_law_take)) :
    FnG P w K mg base CX0 2 f fd ["_law_pot_here", "_law_n", "_law_names_here", "_law_most"] (spV K F_law_web) := by
  refine okGN F sc_law_web (fun vs H Q E h => spV_len h) (fun cdv A outer s H vs Q E hg hr h => ?_)
  exact ⟨_, (pss_cons (ps_set (i := 4) sc_law_web.nd rfl (Or.inl rfl) (pe_lst pa_nil))
      (pss_cons (ps_for PassesOwn.never rfl (pi_range1 (by rfl) B.range (pa_cons (pv 1) pa_nil)) (pg_name (i := 5) sc_law_web.nd rfl (Or.inl rfl)) (pss_one (ps_for PassesOwn.never rfl (pi_any (K := K) rfl (pv 2)) (pg_name (i := 6) sc_law_web.nd rfl (Or.inl rfl)) (pss_cons (ps_set (i := 7) sc_law_web.nd rfl (Or.inl rfl) pe_dnewK)
      (pss_cons (ps_for PassesOwn.never rfl (pi_range1 (by rfl) B.range (pa_cons (pe_clG c_law_take hg hr (by decide) (by rfl) (pa_cons (pv 0) (pa_cons (pe_op op_addA (pv 3) pe_int) pa_nil))) pa_nil)) (pg_name (i := 8) sc_law_web.nd rfl (Or.inl rfl)) (pss_one (ps_orS (ps_asg pe_bl (pg_sub (pv 7) (pe_clG c_law_take hg hr (by decide) (by rfl) (pa_cons (pv 0) (pa_cons (pv 1) pa_nil))) set_list)) (ps_dput (hu_of hr) (pv 7) (pe_clG c_law_take hg hr (by decide) (by rfl) (pa_cons (pv 0) (pa_cons (pv 1) pa_nil))) pe_bl (by rfl)))))
      (pss_one (ps_if (pt_cmpR (op_neEmp (hu_of hr)) (pv 7) pe_dnewK (nomark _)) (pss_one (ps_expr (pe_bm PySem.F.plainAttrs_list PySem.F.slot_list_append PySem.F.type_list_append mt_append (pv 4) (pa_cons (pe_tup (pa_cons (pv 5) (pa_cons (pv 6) (pa_cons (pe_callTy tuple_any (by rfl) B.tuple (by decide +kernel) (pa_cons (pe_callB (cr_sortDK rfl (hu70_of hr)) (by rfl) B.sorted (by decide +kernel) (pa_cons (pv 7) pa_nil)) pa_nil)) pa_nil)))) pa_nil)))) pss_nil)))))))
      (pss_one (ps_ret (pe_tup (pa_cons (pv 1) (pa_cons (pe_callTy tuple_any (by rfl) B.tuple (by decide +kernel) (pa_cons (pv 4) pa_nil)) pa_nil))))))), body_ok ((ref_seq (ref_asgR (ref_fLst ref_nil))
      (ref_seq (ref_for (ref_iRg1 (ref_cons ref_var ref_nil)) ref_gName (ref_for (ref_iAny ref_var) ref_gName (ref_seq (ref_asgR ref_fDK)
      (ref_seq (ref_for (ref_iRg1 (ref_cons (ref_call .nil (ref_cons ref_var (ref_cons (ref_op rr_add ref_var ref_int) ref_nil))) ref_nil)) ref_gName (ref_setI ref_bl (ref_call .nil (ref_cons ref_var (ref_cons ref_var ref_nil)))))
      (ref_ifS (ref_test (ref_emp ref_var)) (ref_append (ref_cons (ref_tup (ref_cons ref_var (ref_cons ref_var (ref_cons (ref_cb rr_tuple (ref_cons (ref_F (ref_fSortDK (ref_cons ref_var ref_nil))) ref_nil)) ref_nil)))) ref_nil)) ref_next)))))
      (ref_ret (ref_tup (ref_cons ref_var (ref_cons (ref_cb rr_tuple (ref_cons ref_var ref_nil)) ref_nil))))))) (by decide) h⟩
abbrev s_law_due : Stmt := topS 10
theorem sc_law_due : FnScope ["_law_here", "_law_there", "_law_crossing", "_law_name", "_law_arms", "_law_post", "_law_own", "_law_arm"] ["_law_here", "_law_there"] (defScope s_law_due) := ⟨rfl, rfl, rfl, by decide +kernel, rfl, by decide +kernel, by decide +kernel⟩
noncomputable def m_law_due : MS := (sSeq (sForD (iAny (eOp fSubs (eV 1) (eC (.int 1)))) (gTupD 3 (gsCons (setD 2) (gsCons (setD 3) (gsCons (setD 4) gsNil)))) (sSeq (sAsg (eF (fLc (cmI (iAny (eOp fSubs (eV 0) (eC (.int 1)))) [5] (setD 5) (tOfE (eOp fEqS (eSl (eV 5) oNone (oSome (eC (.int 2)))) (eTup (aCons (eV 2) (aCons (eV 3) aNil))))) (mLc (eOp fSubs (eV 5) (eC (.int 2))))))) (setD 6))
  (sIf (mOr (tOfE (eOp fEqS (eV 6) (eF (fLst aNil)))) (tOfE (eOp fNeS (eF (fLc (cmI (iAny (eOp fSubs (eV 6) (eC (.int 0)))) [7] (setD 7) (tOfE (eOp (fIn true) (eV 7) (eV 4))) (mLc (eV 7))))) (eF (fLst aNil))))) (sRet (eC (.bool false))) sNext)))
  (sRet (eC (.bool true))))
noncomputable def F_law_due : FV := mDef 2 8 m_law_due
theorem ok_law_due {P : Program} {w : World} {K : PySem.W.Frag} {mg : Str → Option Value} {base : Heap} {f : Addr} {fd : FuncData} (F : FnP K "_law_due" s_law_due f fd) (B : Bi mg) :
    FnG P w K mg base CX0 1 f fd ["_law_here", "_law_there"] (spV K F_law_due) := by
  refine okGN F sc_law_due (fun vs H Q E h => spV_len h) (fun cdv A outer s H vs Q E hg hr h => ?_)
  exact ⟨_, (pss_cons (ps_for PassesOwn.never rfl (pi_any (K := K) rfl (pe_orE (pe_ix ix_any (pv 1) pe_int (fun _ _ => rfl)) (pe_dget (hu_of hr) (pv 1) pe_int (fun _ _ => rfl)))) (pg_tup rfl (pgs_cons (pg_name (i := 2) sc_law_due.nd rfl (Or.inr rfl)) (pgs_cons (pg_name (i := 3) sc_law_due.nd rfl (Or.inr rfl)) (pgs_cons (pg_name (i := 4) sc_law_due.nd rfl (Or.inr rfl)) pgs_nil)))) (pss_cons (ps_setLc (i := 6) (own := [("_law_post", 5)]) (g := (gName 5)) (by rfl) sc_law_due.nd rfl rfl (sw_true rfl rfl rfl (by decide +kernel)) (pi_any (K := K) rfl (pe_orE (pe_ix ix_any (pv 0) pe_int (fun _ _ => rfl)) (pe_dget (hu_of hr) (pv 0) pe_int (fun _ _ => rfl)))) (blkOk_by (own := [("_law_post", 5)]) (N := ["_law_here", "_law_there", "_law_crossing", "_law_name", "_law_arms", "_law_post", "_law_own", "_law_arm"]) (sc := defScope s_law_due) (by decide +kernel)) (fun _ _ _ _ _ => (pg_name (i := 5) sc_law_due.nd rfl (Or.inl rfl))) (fun _ _ _ _ _ => (pts_one (pt_cmpR (op_eqK (K := K) rfl (hu64_of hr)) (pe_slice sl_any (pv 5) po_none (po_some pe_int)) (pe_tup (pa_cons (pv 2) (pa_cons (pv 3) pa_nil))) (nomark _)))) (fun _ _ _ _ _ => (pe_orE (pe_ix ix_any (pv 5) pe_int (fun _ _ => rfl)) (pe_dget (hu_of hr) (pv 5) pe_int (fun _ _ => rfl)))))
      (pss_one (ps_if ((pw_or (pt_cmpR (op_eqK (K := K) rfl (hu64_of hr)) (pv 6) (pe_lst pa_nil) (nomark _)) (pw_or1 (pt_cmpR (op_neK (K := K) rfl (hu64_of hr)) (pe_lc (own := [("_law_arm", 7)]) (g := (gName 7)) rfl sc_law_due.nd (pi_any (K := K) rfl (pe_orE (pe_ix ix_any (pv 6) pe_int (fun _ _ => rfl)) (pe_dget (hu_of hr) (pv 6) pe_int (fun _ _ => rfl)))) (blkOk_by (own := [("_law_arm", 7)]) (N := ["_law_here", "_law_there", "_law_crossing", "_law_name", "_law_arms", "_law_post", "_law_own", "_law_arm"]) (sc := defScope s_law_due) (by decide +kernel)) (fun _ _ _ _ _ => (pg_name (i := 7) sc_law_due.nd rfl (Or.inl rfl))) (fun _ _ _ _ _ => (pts_one (pt_orT (pt_cmpR (op_notInA (K := K) rfl (hu65_of hr)) (pv 7) (pv 4) rfl) (pt_cmp (pc_dnotin (hu_of hr) (pv 7) (pv 4)))))) (fun _ _ _ _ _ => (pv 7))) (pe_lst pa_nil) (nomark _))))).pt (pss_one (ps_ret pe_bl)) pss_nil))))
      (pss_one (ps_ret pe_bl))), body_ok ((ref_seq (ref_for (ref_iAny (ref_sub ref_var ref_int)) (ref_gTup (ref_gCons ref_gName (ref_gCons ref_gName (ref_gCons ref_gName ref_gNil)))) (ref_seq (ref_asg (ref_F (ref_lc (ref_iAny (ref_sub ref_var ref_int)) (ref_bName (by decide)) (ref_test (ref_op rr_eq (ref_sl ref_var ref_oNone (ref_oSome ref_int)) (ref_tup (ref_cons ref_var (ref_cons ref_var ref_nil))))) (ref_sub ref_var ref_int))) ref_gName)
      (ref_ifS (ref_or (ref_test (ref_op rr_eq ref_var (ref_F (ref_fLst ref_nil)))) (ref_test (ref_op rr_ne (ref_F (ref_lc (ref_iAny (ref_sub ref_var ref_int)) (ref_bName (by decide)) (ref_testOr (ref_in_ rfl ref_var ref_var)) ref_var)) (ref_F (ref_fLst ref_nil))))) (ref_ret ref_bl) ref_next)))
      (ref_ret ref_bl))) (by decide) h⟩
abbrev s_law_changed : Stmt := topS 11
theorem sc_law_changed : FnScope ["_law_pot_here", "_law_net", "_law_names_here", "_law_way", "_law_post", "_law_found", "_law_crossing", "_law_name", "_law_key"] ["_law_pot_here", "_law_net", "_law_names_here", "_law_way"] (defScope s_law_changed) := ⟨rfl, rfl, rfl, by decide +kernel, rfl, by decide +kernel, by decide +kernel⟩
noncomputable def m_law_changed : MS := (sSeq (sAsgR 5 (fDictN (eOp fSubs (eV 1) (eC (.int 1))) 4))
  (sSeq (sForD (iRg1 (aCons (eOp fSubs (eV 1) (eC (.int 0))) aNil)) (setD 6) (sForD (iAny (eV 2)) (setD 7) (sSeq (sAsg (eTup (aCons (eV 6) (aCons (eV 7) aNil))) (setD 8))
  (sIf (mAnd (mInN 5 false (eV 8)) (tOfE (eOp fEqS (eCall F_law_take [] (aCons (eV 0) (aCons (eC (.int 3)) aNil))) (eC (.int 0))))) (sIf (mAnd (tOfE (eOp fEqS (eV 3) (eC (.int 0)))) (tOfE (eOp fGt (eLenN 5 (eV 8)) (eC (.int 1))))) (sPopU 5 (eV 8) F_law_take [] (aCons (eV 0) (aCons (eLenN 5 (eV 8)) aNil))) (sIf (mAnd (tOfE (eOp fEqS (eV 3) (eC (.int 2)))) (tOfE (eOp fLtA (eLenN 5 (eV 8)) (eC (.int 8))))) (sNPut 5 (fSortSet (eCatU 5 (eV 8) F_law_take [] (aCons (eV 0) (aCons (eOp fSubs (eV 1) (eC (.int 0))) aNil)))) (eV 8)) (sIf (tOfE (eOp fEqS (eV 3) (eC (.int 3)))) (sNPop 5 (eV 8)) sNext))) (sIf (mAnd (mInN 5 true (eV 8)) (mAnd (tOfE (eOp fEqS (eV 3) (eC (.int 1)))) (tOfE (eOp fEqS (eCall F_law_take [] (aCons (eV 0) (aCons (eC (.int 2)) aNil))) (eC (.int 0)))))) (sNPut 5 (fLst (aCons (eCall F_law_take [] (aCons (eV 0) (aCons (eOp fSubs (eV 1) (eC (.int 0))) aNil))) aNil)) (eV 8)) sNext)))))
  (sFrz 5 (sRet (eTup (aCons (eOp fSubs (eV 1) (eC (.int 0))) (aCons (eCB fTuple (aCons (eF (fSortM (aCons (eF (fLc (cmI (iAny (eV 5)) [8] (setD 8) tYesM (mLc (eOp fAdd (eV 8) (eTup (aCons (eCB fTuple (aCons (eOp fSubs (eV 5) (eV 8)) aNil)) aNil))))))) aNil))) aNil)) aNil)))))))
noncomputable def F_law_changed : FV := mDef 4 9 m_law_changed
theorem ok_law_changed {P : Program} {w : World} {K : PySem.W.Frag} {mg : Str → Option Value} {base : Heap} {f : Addr} {fd : FuncData} (F : FnP K "_law_changed" s_law_changed f fd) (B : Bi mg) (c_law_take : ClG P w K mg base 1 "_law_take" ["_law_pot_here", "_law_upto"] (spV K F_law_take)) :
    FnG P w K mg base CX0 2 f fd ["_law_pot_here", "_law_net", "_law_names_here", "_law_way"] (spV K F_law_changed) := by
  refine okGN F sc_law_changed (fun vs H Q E h => spV_len h) (fun cdv A outer s H vs Q E hg hr h => ?_)
  exact ⟨_, (pss_cons (ps_set (i := 5) sc_law_changed.nd rfl (Or.inr rfl) (pe_callTy (call_dictT rfl (hu5_of hr)) (by rfl) B.dict (by decide +kernel) (pa_cons (pe_lc (own := [("_law_post", 4)]) (g := (gName 4)) (tt := tYes) rfl sc_law_changed.nd (pi_any (K := K) rfl (pe_orE (pe_ix ix_any (pv 1) pe_int (fun _ _ => rfl)) (pe_dget (hu_of hr) (pv 1) pe_int (fun _ _ => rfl)))) (blkOk_by (own := [("_law_post", 4)]) (N := ["_law_pot_here", "_law_net", "_law_names_here", "_law_way", "_law_post", "_law_found", "_law_crossing", "_law_name", "_law_key"]) (sc := defScope s_law_changed) (by decide +kernel)) (fun _ _ _ _ _ => (pg_name (i := 4) sc_law_changed.nd rfl (Or.inl rfl))) (fun _ _ _ _ _ => pts_nil) (fun _ _ _ _ _ => (pe_tup (pa_cons (pe_slice sl_any (pv 4) po_none (po_some pe_int)) (pa_cons (pe_callTy (list_any rfl) (by rfl) B.list (by decide +kernel) (pa_cons (pe_orE (pe_ix ix_any (pv 4) pe_int (fun _ _ => rfl)) (pe_dget (hu_of hr) (pv 4) pe_int (fun _ _ => rfl))) pa_nil)) pa_nil))))) pa_nil)))
      (pss_cons (ps_for PassesOwn.never rfl (pi_range1 (by rfl) B.range (pa_cons (pe_orE (pe_ix ix_any (pv 1) pe_int (fun _ _ => rfl)) (pe_dget (hu_of hr) (pv 1) pe_int (fun _ _ => rfl))) pa_nil)) (pg_name (i := 6) sc_law_changed.nd rfl (Or.inl rfl)) (pss_one (ps_for PassesOwn.never rfl (pi_any (K := K) rfl (pv 2)) (pg_name (i := 7) sc_law_changed.nd rfl (Or.inl rfl)) (pss_cons (ps_set (i := 8) sc_law_changed.nd rfl (Or.inl rfl) (pe_tup (pa_cons (pv 6) (pa_cons (pv 7) pa_nil))))
      (pss_one (ps_if ((pw_and (pt_cmp (pc_din (hu_of hr) (pv 8) (pv 5))) (pw_and1 (pt_cmpR (op_eqK (K := K) rfl (hu64_of hr)) (pe_clG c_law_take hg hr (by decide) (by rfl) (pa_cons (pv 0) (pa_cons pe_int pa_nil))) pe_int (nomark _))))).pt (pss_one (ps_if ((pw_and (pt_cmpR (op_eqK (K := K) rfl (hu64_of hr)) (pv 3) pe_int (nomark _)) (pw_and1 (pt_cmpR op_gt (pe_callB len_all (by rfl) B.len (by decide +kernel) (pa_cons (pe_dget (hu_of hr) (pv 5) (pv 8) (fun _ _ => rfl)) pa_nil)) pe_int (nomark _))))).pt (pss_one (ps_expr (pe_bm PySem.F.plainAttrs_list PySem.F.slot_list_pop PySem.F.type_list_pop mt_popAt (pe_dget (hu_of hr) (pv 5) (pv 8) (fun _ _ => rfl)) (pa_cons (pe_clG c_law_take hg hr (by decide) (by rfl) (pa_cons (pv 0) (pa_cons (pe_callB len_all (by rfl) B.len (by decide +kernel) (pa_cons (pe_dget (hu_of hr) (pv 5) (pv 8) (fun _ _ => rfl)) pa_nil)) pa_nil))) pa_nil)))) (pss_one (ps_if ((pw_and (pt_cmpR (op_eqK (K := K) rfl (hu64_of hr)) (pv 3) pe_int (nomark _)) (pw_and1 (pt_cmpR (op_ltA (K := K) rfl (hu70_of hr)) (pe_callB len_all (by rfl) B.len (by decide +kernel) (pa_cons (pe_dget (hu_of hr) (pv 5) (pv 8) (fun _ _ => rfl)) pa_nil)) pe_int (nomark _))))).pt (pss_one (ps_dput (hu_of hr) (pv 5) (pv 8) (pe_sortSet (K := K) rfl rfl (hu70_of hr) (by rfl) B.sorted (by rfl) B.set (pe_op op_addA (pe_dget (hu_of hr) (pv 5) (pv 8) (fun _ _ => rfl)) (pe_lst (pa_cons (pe_clG c_law_take hg hr (by decide) (by rfl) (pa_cons (pv 0) (pa_cons (pe_orE (pe_ix ix_any (pv 1) pe_int (fun _ _ => rfl)) (pe_dget (hu_of hr) (pv 1) pe_int (fun _ _ => rfl))) pa_nil))) pa_nil)))) (by rfl))) (pss_one (ps_if (pt_cmpR (op_eqK (K := K) rfl (hu64_of hr)) (pv 3) pe_int (nomark _)) (pss_one (ps_expr (pe_bm PySem.F.plainAttrs_dict PySem.F.slot_dict_pop PySem.F.type_dict_pop (mt_popT1 (hu_of hr)) (pv 5) (pa_cons (pv 8) pa_nil)))) pss_nil)))))) (pss_one (ps_if ((pw_and (pt_cmp (pc_dnotin (hu_of hr) (pv 8) (pv 5))) (pw_and (pt_cmpR (op_eqK (K := K) rfl (hu64_of hr)) (pv 3) pe_int (nomark _)) (pw_and1 (pt_cmpR (op_eqK (K := K) rfl (hu64_of hr)) (pe_clG c_law_take hg hr (by decide) (by rfl) (pa_cons (pv 0) (pa_cons pe_int pa_nil))) pe_int (nomark _)))))).pt (pss_one (ps_dput (hu_of hr) (pv 5) (pv 8) (pe_lst (pa_cons (pe_clG c_law_take hg hr (by decide) (by rfl) (pa_cons (pv 0) (pa_cons (pe_orE (pe_ix ix_any (pv 1) pe_int (fun _ _ => rfl)) (pe_dget (hu_of hr) (pv 1) pe_int (fun _ _ => rfl))) pa_nil))) pa_nil)) (by rfl))) pss_nil))))))))
      (pss_one (ps_ret (pe_tup (pa_cons (pe_orE (pe_ix ix_any (pv 1) pe_int (fun _ _ => rfl)) (pe_dget (hu_of hr) (pv 1) pe_int (fun _ _ => rfl))) (pa_cons (pe_callTy tuple_any (by rfl) B.tuple (by decide +kernel) (pa_cons (pe_callB (cr_sortD (K := K) rfl (hu70_of hr)) (by rfl) B.sorted (by decide +kernel) (pa_cons (pe_lc (own := [("_law_key", 8)]) (g := (gName 8)) (tt := tYes) rfl sc_law_changed.nd (pi_any (K := K) rfl (pv 5)) (blkOk_by (own := [("_law_key", 8)]) (N := ["_law_pot_here", "_law_net", "_law_names_here", "_law_way", "_law_post", "_law_found", "_law_crossing", "_law_name", "_law_key"]) (sc := defScope s_law_changed) (by decide +kernel)) (fun _ _ _ _ _ => (pg_name (i := 8) sc_law_changed.nd rfl (Or.inl rfl))) (fun _ _ _ _ _ => pts_nil) (fun _ _ _ _ _ => (pe_op op_addA (pv 8) (pe_tup (pa_cons (pe_callTy tuple_any (by rfl) B.tuple (by decide +kernel) (pa_cons (pe_orE (pe_ix ix_any (pv 5) (pv 8) (fun _ _ => rfl)) (pe_dget (hu_of hr) (pv 5) (pv 8) (fun _ _ => rfl))) pa_nil)) pa_nil))))) pa_nil)) pa_nil)) pa_nil))))))), body_ok ((ref_seq (ref_asgR (ref_fDictN (ref_sub ref_var ref_int)))
      (ref_seq (ref_for (ref_iRg1 (ref_cons (ref_sub ref_var ref_int) ref_nil)) ref_gName (ref_for (ref_iAny ref_var) ref_gName (ref_seq (ref_asg (ref_tup (ref_cons ref_var (ref_cons ref_var ref_nil))) ref_gName)
      (ref_ifS (ref_and (ref_inNT refp_var) (ref_test (ref_op rr_eq (ref_call .nil (ref_cons ref_var (ref_cons ref_int ref_nil))) ref_int))) (ref_ifS (ref_and (ref_test (ref_op rr_eq ref_var ref_int)) (ref_test (ref_op rr_IB (ref_lenN refp_var) ref_int))) (ref_popU (F := F_law_take) refp_var .nil (refpa_cons eV_st refp_var (refpa_cons eLenN_st (refp_lenN refp_var) refpa_nil))) (ref_ifS (ref_and (ref_test (ref_op rr_eq ref_var ref_int)) (ref_test (ref_op rr_ltA (ref_lenN refp_var) ref_int))) (ref_nput (ref_fSortSet (ref_catU (F := F_law_take) refp_var .nil (refpa_cons eV_st refp_var (refpa_cons (eOp_st eV_st (fun e => by cases e; rfl)) (refp_sub eV_st (fun e => by cases e; rfl) refp_var refp_int) refpa_nil)))) refp_var) (ref_ifS (ref_test (ref_op rr_eq ref_var ref_int)) (ref_npop refp_var) ref_next))) (ref_ifS (ref_and (ref_ninNT refp_var) (ref_and (ref_test (ref_op rr_eq ref_var ref_int)) (ref_test (ref_op rr_eq (ref_call .nil (ref_cons ref_var (ref_cons ref_int ref_nil))) ref_int)))) (ref_nput (ref_fLst (ref_cons (ref_call .nil (ref_cons ref_var (ref_cons (ref_sub ref_var ref_int) ref_nil))) ref_nil)) refp_var) ref_next)))))
      (ref_frz (i := 5) (ref_ret (ref_tup (ref_cons (ref_sub ref_var ref_int) (ref_cons (ref_cb rr_tuple (ref_cons (ref_F (ref_fSort (ref_cons (ref_F (ref_lc (ref_iAny ref_var) (ref_bName (by decide)) ref_yes (ref_op rr_add ref_var (ref_tup (ref_cons (ref_cb rr_tuple (ref_cons (ref_sub ref_var ref_var) ref_nil)) ref_nil))))) ref_nil))) ref_nil)) ref_nil)))))))) (by decide) h⟩
abbrev s_law_right : Stmt := topS 12
theorem sc_law_right : FnScope ["_law_pot_here", "_law_names_here", "_law_net", "_law_way", "_law_some", "_law_table", "_law_at", "_law_here", "_law_to", "_law_there", "_law_kept", "_law_due_here", "_law_last", "_law_later"] ["_law_pot_here"] (defScope s_law_right) := ⟨rfl, rfl, rfl, by decide +kernel, rfl, by decide +kernel, by decide +kernel⟩
noncomputable def m_law_right : MS := (sSeq (sAsg (eCall F_law_names [] (aCons (eV 0) (aCons (eOp fAdd (eC (.int 1)) (eCall F_law_take [] (aCons (eV 0) (aCons (eC (.int 3)) aNil)))) aNil))) (setD 1))
  (sSeq (sAsg (eCall F_law_web [] (aCons (eV 0) (aCons (eCall F_law_take [] (aCons (eV 0) (aCons (eC (.int 7)) aNil))) (aCons (eV 1) (aCons (eC (.int 4)) aNil))))) (setD 2))
  (sSeq (sAsg (eOp fAdd (eF (fLst (aCons (eV 2) aNil))) (eF (fLc (cmI (iRg1 (aCons (eC (.int 4)) aNil)) [3] (setD 3) tYesM (mLc (eCall F_law_changed [] (aCons (eV 0) (aCons (eV 2) (aCons (eV 1) (aCons (eV 3) aNil)))))))))) (setD 4))
  (sSeq (sAsg (eOp fAdd (eV 4) (eF (fLst (aCons (eCall F_law_changed [] (aCons (eV 0) (aCons (eOp fSubs (eV 4) (eC (.int 1))) (aCons (eV 1) (aCons (eC (.int 1)) aNil))))) (aCons (eCall F_law_web [] (aCons (eV 0) (aCons (eOp fSubs (eV 2) (eC (.int 0))) (aCons (eV 1) (aCons (eC (.int 4)) aNil))))) (aCons (eTup (aCons (eOp fSubs (eV 2) (eC (.int 0))) (aCons (eTup aNil) aNil))) aNil)))))) (setD 4))
  (sSeq (sAsgR 5 (fDT false))
  (sSeq (sForD (iEnL (aCons (eV 4) aNil)) (gTupD 2 (gsCons (setD 6) (gsCons (setD 7) gsNil))) (sForD (iEnL (aCons (eV 4) aNil)) (gTupD 2 (gsCons (setD 8) (gsCons (setD 9) gsNil))) (sSeq (sPar [10, 11] (aCons (eCB fRepr (aCons (eTup (aCons (eV 7) (aCons (eV 9) aNil))) aNil)) (aCons (eCall F_law_due [] (aCons (eV 7) (aCons (eV 9) aNil))) aNil)))
  (sSeq (sIf (tOfE (eOp fNeS (eCB fRepr (aCons (eF (fLst (aCons (eCall F_knows_more [] (aCons (eV 7) (aCons (eV 9) aNil))) (aCons (eCallN 0 2 F_knows_more (gP [1, 0] []) aNil (aCons (eV 9) (aCons (eV 7) aNil))) aNil)))) aNil)) (eCB fRepr (aCons (eF (fLst (aCons (eV 11) (aCons (eV 11) aNil)))) aNil)))) (sRet (eC (.bool false))) sNext)
  (sSeq (sIf (mOr (mAnd (mTru (eV 11)) (mAnd (mTru (eCall F_law_due [] (aCons (eV 9) (aCons (eV 7) aNil)))) (tOfE (eOp fNeS (eV 7) (eV 9))))) (tOfE (eOp fNeS (eCB fRepr (aCons (eTup (aCons (eV 7) (aCons (eV 9) aNil))) aNil)) (eV 10)))) (sRet (eC (.bool false))) sNext)
  (sSetI 5 (eV 11) (eTup (aCons (eV 6) (aCons (eV 8) aNil)))))))))
  (sSeq (sForD (iRg1 (aCons (eCB fLenB (aCons (eV 4) aNil)) aNil)) (setD 6) (sForD (iRg1 (aCons (eCB fLenB (aCons (eV 4) aNil)) aNil)) (setD 8) (sSeq (sAsg (eF (fLc (cmI (iRg1 (aCons (eCB fLenB (aCons (eV 4) aNil)) aNil)) [12] (setD 12) (mTru (eOp fSubs (eV 5) (eTup (aCons (eV 8) (aCons (eV 12) aNil))))) (mLc (eV 12))))) (setD 13))
  (sIf (mAnd (mTru (eOp fSubs (eV 5) (eTup (aCons (eV 6) (aCons (eV 8) aNil))))) (mNot (mTru (eCB fAll (aCons (eF (fLc (cmI (iAny (eV 13)) [12] (setD 12) tYesM (mLc (eOp fSubs (eV 5) (eTup (aCons (eV 6) (aCons (eV 12) aNil)))))))) aNil))))) (sRet (eC (.bool false))) sNext))))
  (sRet (eAnd (eCB fAll (aCons (eF (fLc (cmI (iRg1 (aCons (eCB fLenB (aCons (eV 4) aNil)) aNil)) [6] (setD 6) tYesM (mLc (eOp fSubs (eV 5) (eTup (aCons (eV 6) (aCons (eV 6) aNil)))))))) aNil)) (eAnd (eOp fSubs (eV 5) (eTup (aCons (eC (.int 1)) (aCons (eC (.int 0)) aNil)))) (eAnd (eOp fSubs (eV 5) (eTup (aCons (eC (.int 2)) (aCons (eC (.int 0)) aNil)))) (eOp fSubs (eV 5) (eTup (aCons (eC (.int 0)) (aCons (eC (.int 3)) aNil)))))))))))))))
noncomputable def F_law_right : FV := mDef 1 14 m_law_right
theorem ok_law_right {P : Program} {w : World} {K : PySem.W.Frag} {mg : Str → Option Value} {base : Heap} {f : Addr} {fd : FuncData} (F : FnP K "_law_right" s_law_right f fd) (B : Bi mg) (c_law_due : ClG P w K mg base 1 "_law_due" ["_law_here", "_law_there"] (spV K F_law_due)) (c_knows_more : ClG P w K mg base 2 "knows_more" ["one", "other"] (spV K F_knows_more)) (c_law_web : ClG P w K mg base 2 "_law_web" ["_law_pot_here", "_law_n", "_law_names_here", "_law_most"] (spV K F_law_web)) (c_law_changed : ClG P w K mg base 2 "_law_changed" ["_law_pot_here", "_law_net", "_law_names_here", "_law_way"] (spV K F_law_changed)) (c_law_take : ClG P w K mg base 1 "_law_take" ["_law_pot_here", "_law_upto"] (spV K F_law_take)) (c_law_names : ClG P w K mg base 3 "_law_names" ["_law_pot_here", "_law_many"] (spV K F_law_names)) (k_knows_more_0_p1_0 : ClKG P w K mg base 2 "knows_more" ["one", "other"] (spV K F_knows_more) 0 ["other", "one"] (gQ [1, 0] [])) :
    FnG P w K mg base CX0 4 f fd ["_law_pot_here"] (spV K F_law_right) := by
  refine okGN F sc_law_right (fun vs H Q E h => spV_len h) (fun cdv A outer s H vs Q E hg hr h => ?_)
  exact ⟨_, (pss_cons (ps_set (i := 1) sc_law_right.nd rfl (Or.inr rfl) (pe_clG c_law_names hg hr (by decide) (by rfl) (pa_cons (pv 0) (pa_cons (pe_op op_addA pe_int (pe_clG c_law_take hg hr (by decide) (by rfl) (pa_cons (pv 0) (pa_cons pe_int pa_nil)))) pa_nil))))
      (pss_cons (ps_set (i := 2) sc_law_right.nd rfl (Or.inr rfl) (pe_clG c_law_web hg hr (by decide) (by rfl) (pa_cons (pv 0) (pa_cons (pe_clG c_law_take hg hr (by decide) (by rfl) (pa_cons (pv 0) (pa_cons pe_int pa_nil))) (pa_cons (pv 1) (pa_cons pe_int pa_nil))))))
      (pss_cons (ps_set (i := 4) sc_law_right.nd rfl (Or.inl rfl) (pe_op op_addA (pe_lst (pa_cons (pv 2) pa_nil)) (pe_lc (own := [("_law_way", 3)]) (g := (gName 3)) (tt := tYes) rfl sc_law_right.nd (pi_range1 (by rfl) B.range (pa_cons pe_int pa_nil)) (blkOk_by (own := [("_law_way", 3)]) (N := ["_law_pot_here", "_law_names_here", "_law_net", "_law_way", "_law_some", "_law_table", "_law_at", "_law_here", "_law_to", "_law_there", "_law_kept", "_law_due_here", "_law_last", "_law_later"]) (sc := defScope s_law_right) (by decide +kernel)) (fun _ _ _ _ _ => (pg_name (i := 3) sc_law_right.nd rfl (Or.inl rfl))) (fun _ _ _ _ _ => pts_nil) (fun _ _ _ _ _ => (pe_clG c_law_changed hg hr (by decide) (by rfl) (pa_cons (pv 0) (pa_cons (pv 2) (pa_cons (pv 1) (pa_cons (pv 3) pa_nil)))))))))
      (pss_cons (ps_set (i := 4) sc_law_right.nd rfl (Or.inl rfl) (pe_op op_addA (pv 4) (pe_lst (pa_cons (pe_clG c_law_changed hg hr (by decide) (by rfl) (pa_cons (pv 0) (pa_cons (pe_orE (pe_ix ix_any (pv 4) pe_int (fun _ _ => rfl)) (pe_dget (hu_of hr) (pv 4) pe_int (fun _ _ => rfl))) (pa_cons (pv 1) (pa_cons pe_int pa_nil))))) (pa_cons (pe_clG c_law_web hg hr (by decide) (by rfl) (pa_cons (pv 0) (pa_cons (pe_orE (pe_ix ix_any (pv 2) pe_int (fun _ _ => rfl)) (pe_dget (hu_of hr) (pv 2) pe_int (fun _ _ => rfl))) (pa_cons (pv 1) (pa_cons pe_int pa_nil))))) (pa_cons (pe_tup (pa_cons (pe_orE (pe_ix ix_any (pv 2) pe_int (fun _ _ => rfl)) (pe_dget (hu_of hr) (pv 2) pe_int (fun _ _ => rfl))) (pa_cons (pe_tup pa_nil) pa_nil))) pa_nil))))))
      (pss_cons (ps_set (i := 5) sc_law_right.nd rfl (Or.inr rfl) pe_dnewT)
      (pss_cons (ps_for PassesOwn.never rfl (pi_enum (by rfl) B.enumerate (pa_cons (pv 4) pa_nil)) (pg_tup rfl (pgs_cons (pg_name (i := 6) sc_law_right.nd rfl (Or.inr rfl)) (pgs_cons (pg_name (i := 7) sc_law_right.nd rfl (Or.inl rfl)) pgs_nil))) (pss_one (ps_for PassesOwn.never rfl (pi_enum (by rfl) B.enumerate (pa_cons (pv 4) pa_nil)) (pg_tup rfl (pgs_cons (pg_name (i := 8) sc_law_right.nd rfl (Or.inr rfl)) (pgs_cons (pg_name (i := 9) sc_law_right.nd rfl (Or.inl rfl)) pgs_nil))) (pss_cons (ps_par (i := 10) (j := 11) rfl sc_law_right.nd rfl rfl (by decide) rfl rfl (pa_cons (pe_callB (call_reprD [] hg hr) (by rfl) B.repr (by decide +kernel) (pa_cons (pe_tup (pa_cons (pv 7) (pa_cons (pv 9) pa_nil))) pa_nil)) (pa_cons (pe_clG c_law_due hg hr (by decide) (by rfl) (pa_cons (pv 7) (pa_cons (pv 9) pa_nil))) pa_nil)) (by rfl))
      (pss_cons (ps_if (pt_cmpR (op_neK (K := K) rfl (hu64_of hr)) (pe_callB (call_reprD [] hg hr) (by rfl) B.repr (by decide +kernel) (pa_cons (pe_lst (pa_cons (pe_clG c_knows_more hg hr (by decide) (by rfl) (pa_cons (pv 7) (pa_cons (pv 9) pa_nil))) (pa_cons (pe_clK0G k_knows_more_0_p1_0 hg hr (by decide) (by rfl) (pk_cons (pv 9) (pk_cons (pv 7) pk_nil))) pa_nil))) pa_nil)) (pe_callB (call_reprD [] hg hr) (by rfl) B.repr (by decide +kernel) (pa_cons (pe_lst (pa_cons (pv 11) (pa_cons (pv 11) pa_nil))) pa_nil)) (nomark _)) (pss_one (ps_ret pe_bl)) pss_nil)
      (pss_cons (ps_if ((pw_or ((pw_and (pt_tru (pv 11)) (pw_and (pt_tru (pe_clG c_law_due hg hr (by decide) (by rfl) (pa_cons (pv 9) (pa_cons (pv 7) pa_nil)))) (pw_and1 (pt_cmpR (op_neK (K := K) rfl (hu64_of hr)) (pv 7) (pv 9) (nomark _)))))).pt (pw_or1 (pt_cmpR (op_neK (K := K) rfl (hu64_of hr)) (pe_callB (call_reprD [] hg hr) (by rfl) B.repr (by decide +kernel) (pa_cons (pe_tup (pa_cons (pv 7) (pa_cons (pv 9) pa_nil))) pa_nil)) (pv 10) (nomark _))))).pt (pss_one (ps_ret pe_bl)) pss_nil)
      (pss_one (ps_orS (ps_asg (pv 11) (pg_sub (pv 5) (pe_tup (pa_cons (pv 6) (pa_cons (pv 8) pa_nil))) set_list)) (ps_dput (hu_of hr) (pv 5) (pe_tup (pa_cons (pv 6) (pa_cons (pv 8) pa_nil))) (pv 11) (by rfl))))))))))
      (pss_cons (ps_for PassesOwn.never rfl (pi_range1 (by rfl) B.range (pa_cons (pe_callB len_all (by rfl) B.len (by decide +kernel) (pa_cons (pv 4) pa_nil)) pa_nil)) (pg_name (i := 6) sc_law_right.nd rfl (Or.inr rfl)) (pss_one (ps_for PassesOwn.never rfl (pi_range1 (by rfl) B.range (pa_cons (pe_callB len_all (by rfl) B.len (by decide +kernel) (pa_cons (pv 4) pa_nil)) pa_nil)) (pg_name (i := 8) sc_law_right.nd rfl (Or.inr rfl)) (pss_cons (ps_setLc (i := 13) (own := [("_law_last", 12)]) (g := (gName 12)) (by rfl) sc_law_right.nd rfl rfl (sw_true rfl rfl rfl (by decide +kernel)) (pi_range1 (by rfl) B.range (pa_cons (pe_callB len_all (by rfl) B.len (by decide +kernel) (pa_cons (pv 4) pa_nil)) pa_nil)) (blkOk_by (own := [("_law_last", 12)]) (N := ["_law_pot_here", "_law_names_here", "_law_net", "_law_way", "_law_some", "_law_table", "_law_at", "_law_here", "_law_to", "_law_there", "_law_kept", "_law_due_here", "_law_last", "_law_later"]) (sc := defScope s_law_right) (by decide +kernel)) (fun _ _ _ _ _ => (pg_name (i := 12) sc_law_right.nd rfl (Or.inl rfl))) (fun _ _ _ _ _ => (pts_one (pt_tru (pe_orE (pe_ix ix_any (pv 5) (pe_tup (pa_cons (pv 8) (pa_cons (pv 12) pa_nil))) (fun _ _ => rfl)) (pe_dget (hu_of hr) (pv 5) (pe_tup (pa_cons (pv 8) (pa_cons (pv 12) pa_nil))) (fun _ _ => rfl)))))) (fun _ _ _ _ _ => (pv 12)))
      (pss_one (ps_if ((pw_and (pt_tru (pe_orE (pe_ix ix_any (pv 5) (pe_tup (pa_cons (pv 6) (pa_cons (pv 8) pa_nil))) (fun _ _ => rfl)) (pe_dget (hu_of hr) (pv 5) (pe_tup (pa_cons (pv 6) (pa_cons (pv 8) pa_nil))) (fun _ _ => rfl)))) (pw_and1 (pt_not (pt_tru (pe_callB (all_H rfl) (by rfl) B.all (by decide +kernel) (pa_cons (pe_lc (own := [("_law_last", 12)]) (g := (gName 12)) (tt := tYes) rfl sc_law_right.nd (pi_any (K := K) rfl (pv 13)) (blkOk_by (own := [("_law_last", 12)]) (N := ["_law_pot_here", "_law_names_here", "_law_net", "_law_way", "_law_some", "_law_table", "_law_at", "_law_here", "_law_to", "_law_there", "_law_kept", "_law_due_here", "_law_last", "_law_later"]) (sc := defScope s_law_right) (by decide +kernel)) (fun _ _ _ _ _ => (pg_name (i := 12) sc_law_right.nd rfl (Or.inl rfl))) (fun _ _ _ _ _ => pts_nil) (fun _ _ _ _ _ => (pe_orE (pe_ix ix_any (pv 5) (pe_tup (pa_cons (pv 6) (pa_cons (pv 12) pa_nil))) (fun _ _ => rfl)) (pe_dget (hu_of hr) (pv 5) (pe_tup (pa_cons (pv 6) (pa_cons (pv 12) pa_nil))) (fun _ _ => rfl))))) pa_nil))))))).pt (pss_one (ps_ret pe_bl)) pss_nil))))))
      (pss_one (ps_ret (pe_and (pe_callB (all_H rfl) (by rfl) B.all (by decide +kernel) (pa_cons (pe_lc (own := [("_law_at", 6)]) (g := (gName 6)) (tt := tYes) rfl sc_law_right.nd (pi_range1 (by rfl) B.range (pa_cons (pe_callB len_all (by rfl) B.len (by decide +kernel) (pa_cons (pv 4) pa_nil)) pa_nil)) (blkOk_by (own := [("_law_at", 6)]) (N := ["_law_pot_here", "_law_names_here", "_law_net", "_law_way", "_law_some", "_law_table", "_law_at", "_law_here", "_law_to", "_law_there", "_law_kept", "_law_due_here", "_law_last", "_law_later"]) (sc := defScope s_law_right) (by decide +kernel)) (fun _ _ _ _ _ => (pg_name (i := 6) sc_law_right.nd rfl (Or.inl rfl))) (fun _ _ _ _ _ => pts_nil) (fun _ _ _ _ _ => (pe_orE (pe_ix ix_any (pv 5) (pe_tup (pa_cons (pv 6) (pa_cons (pv 6) pa_nil))) (fun _ _ => rfl)) (pe_dget (hu_of hr) (pv 5) (pe_tup (pa_cons (pv 6) (pa_cons (pv 6) pa_nil))) (fun _ _ => rfl))))) pa_nil)) (pe_and (pe_orE (pe_ix ix_any (pv 5) (pe_tup (pa_cons pe_int (pa_cons pe_int pa_nil))) (fun _ _ => rfl)) (pe_dget (hu_of hr) (pv 5) (pe_tup (pa_cons pe_int (pa_cons pe_int pa_nil))) (fun _ _ => rfl))) (pe_and (pe_orE (pe_ix ix_any (pv 5) (pe_tup (pa_cons pe_int (pa_cons pe_int pa_nil))) (fun _ _ => rfl)) (pe_dget (hu_of hr) (pv 5) (pe_tup (pa_cons pe_int (pa_cons pe_int pa_nil))) (fun _ _ => rfl))) (pe_one (pe_orE (pe_ix ix_any (pv 5) (pe_tup (pa_cons pe_int (pa_cons pe_int pa_nil))) (fun _ _ => rfl)) (pe_dget (hu_of hr) (pv 5) (pe_tup (pa_cons pe_int (pa_cons pe_int pa_nil))) (fun _ _ => rfl)))))))))))))))), body_ok ((ref_seq (ref_asg (ref_call .nil (ref_cons ref_var (ref_cons (ref_op rr_add ref_int (ref_call .nil (ref_cons ref_var (ref_cons ref_int ref_nil)))) ref_nil))) ref_gName)
      (ref_seq (ref_asg (ref_call .nil (ref_cons ref_var (ref_cons (ref_call .nil (ref_cons ref_var (ref_cons ref_int ref_nil))) (ref_cons ref_var (ref_cons ref_int ref_nil))))) ref_gName)
      (ref_seq (ref_asg (ref_op rr_add (ref_F (ref_fLst (ref_cons ref_var ref_nil))) (ref_F (ref_lc (ref_iRg1 (ref_cons ref_int ref_nil)) (ref_bName (by decide)) ref_yes (ref_call .nil (ref_cons ref_var (ref_cons ref_var (ref_cons ref_var (ref_cons ref_var ref_nil)))))))) ref_gName)
      (ref_seq (ref_asg (ref_op rr_add ref_var (ref_F (ref_fLst (ref_cons (ref_call .nil (ref_cons ref_var (ref_cons (ref_sub ref_var ref_int) (ref_cons ref_var (ref_cons ref_int ref_nil))))) (ref_cons (ref_call .nil (ref_cons ref_var (ref_cons (ref_sub ref_var ref_int) (ref_cons ref_var (ref_cons ref_int ref_nil))))) (ref_cons (ref_tup (ref_cons (ref_sub ref_var ref_int) (ref_cons (ref_tup ref_nil) ref_nil))) ref_nil)))))) ref_gName)
      (ref_seq (ref_asgR ref_fDT)
      (ref_seq (ref_for (ref_iEnL (ref_cons ref_var ref_nil)) (ref_gTup (ref_gCons ref_gName (ref_gCons ref_gName ref_gNil))) (ref_for (ref_iEnL (ref_cons ref_var ref_nil)) (ref_gTup (ref_gCons ref_gName (ref_gCons ref_gName ref_gNil))) (ref_seq (ref_par (ref_cons (ref_cb rr_repr (ref_cons (ref_tup (ref_cons ref_var (ref_cons ref_var ref_nil))) ref_nil)) (ref_cons (ref_call .nil (ref_cons ref_var (ref_cons ref_var ref_nil))) ref_nil)))
      (ref_seq (ref_ifS (ref_test (ref_op rr_ne (ref_cb rr_repr (ref_cons (ref_F (ref_fLst (ref_cons (ref_call .nil (ref_cons ref_var (ref_cons ref_var ref_nil))) (ref_cons (ref_callP (F := F_knows_more) (n := 0) (m := 2) (is := [1, 0]) (ds := []) .nil ref_nil (ref_cons ref_var (ref_cons ref_var ref_nil))) ref_nil)))) ref_nil)) (ref_cb rr_repr (ref_cons (ref_F (ref_fLst (ref_cons ref_var (ref_cons ref_var ref_nil)))) ref_nil)))) (ref_ret ref_bl) ref_next)
      (ref_seq (ref_ifS (ref_or (ref_and (ref_tru ref_var) (ref_and (ref_tru (ref_call .nil (ref_cons ref_var (ref_cons ref_var ref_nil)))) (ref_test (ref_op rr_ne ref_var ref_var)))) (ref_test (ref_op rr_ne (ref_cb rr_repr (ref_cons (ref_tup (ref_cons ref_var (ref_cons ref_var ref_nil))) ref_nil)) ref_var))) (ref_ret ref_bl) ref_next)
      (ref_setI ref_var (ref_tup (ref_cons ref_var (ref_cons ref_var ref_nil)))))))))
      (ref_seq (ref_for (ref_iRg1 (ref_cons (ref_cb rr_lenB (ref_cons ref_var ref_nil)) ref_nil)) ref_gName (ref_for (ref_iRg1 (ref_cons (ref_cb rr_lenB (ref_cons ref_var ref_nil)) ref_nil)) ref_gName (ref_seq (ref_asg (ref_F (ref_lc (ref_iRg1 (ref_cons (ref_cb rr_lenB (ref_cons ref_var ref_nil)) ref_nil)) (ref_bName (by decide)) (ref_tru (ref_sub ref_var (ref_tup (ref_cons ref_var (ref_cons ref_var ref_nil))))) ref_var)) ref_gName)
      (ref_ifS (ref_and (ref_tru (ref_sub ref_var (ref_tup (ref_cons ref_var (ref_cons ref_var ref_nil))))) (ref_not (ref_tru (ref_cb rr_all (ref_cons (ref_F (ref_lc (ref_iAny ref_var) (ref_bName (by decide)) ref_yes (ref_sub ref_var (ref_tup (ref_cons ref_var (ref_cons ref_var ref_nil)))))) ref_nil))))) (ref_ret ref_bl) ref_next))))
      (ref_ret (ref_andV (ref_cb rr_all (ref_cons (ref_F (ref_lc (ref_iRg1 (ref_cons (ref_cb rr_lenB (ref_cons ref_var ref_nil)) ref_nil)) (ref_bName (by decide)) ref_yes (ref_sub ref_var (ref_tup (ref_cons ref_var (ref_cons ref_var ref_nil)))))) ref_nil)) (ref_andV (ref_sub ref_var (ref_tup (ref_cons ref_int (ref_cons ref_int ref_nil)))) (ref_andV (ref_sub ref_var (ref_tup (ref_cons ref_int (ref_cons ref_int ref_nil)))) (ref_sub ref_var (ref_tup (ref_cons ref_int (ref_cons ref_int ref_nil)))))))))))))))) (by decide) h⟩
abbrev s_law : Stmt := topS 13
theorem sc_law : FnScope ["_law_script", "_law_k"] ["_law_script"] (defScope s_law) := ⟨rfl, rfl, rfl, by decide +kernel, rfl, by decide +kernel, by decide +kernel⟩
noncomputable def m_law : MS := (sRet (eCB fAll (aCons (eF (fLc (cmI (iRg1 (aCons (eCB fMax (aCons (eC (.int 1)) (aCons (eCB fMin (aCons (eC (.int 4)) (aCons (eScLen 0) aNil))) aNil))) aNil)) [1] (setD 1) tYesM (mLc (eCallO F_law_right (fCall F_law_pot [] (aCons (eV 0) (aCons (eV 1) aNil)))))))) aNil)))
noncomputable def F_law : FV := mDef 1 2 m_law
theorem ok_law {P : Program} {w : World} {K : PySem.W.Frag} {mg : Str → Option Value} {base : Heap} {f : Addr} {fd : FuncData} (F : FnP K "law" s_law f fd) (B : Bi mg) (c_law_right : ClG P w K mg base 4 "_law_right" ["_law_pot_here"] (spV K F_law_right)) (c_law_pot : ClG P w K mg base 1 "_law_pot" ["_law_script", "_law_k"] (spV K F_law_pot)) :
    FnG P w K mg base CX0 5 f fd ["_law_script"] (spV K F_law) := by
  refine okGN F sc_law (fun vs H Q E h => spV_len h) (fun cdv A outer s H vs Q E hg hr h => ?_)
  exact ⟨_, (pss_one (ps_ret (pe_callB (all_H rfl) (by rfl) B.all (by decide +kernel) (pa_cons (pe_lc (own := [("_law_k", 1)]) (g := (gName 1)) (tt := tYes) rfl sc_law.nd (pi_range1 (by rfl) B.range (pa_cons (pe_callB (Vm.cr_max rfl) (by rfl) B.max (by decide +kernel) (pa_cons pe_int (pa_cons (pe_callB (Vm.cr_min rfl) (by rfl) B.min (by decide +kernel) (pa_cons pe_int (pa_cons (pe_callB (len_L (K := K) rfl) (by rfl) B.len (by decide +kernel) (pa_cons (pv 0) pa_nil)) pa_nil))) pa_nil))) pa_nil)) (blkOk_by (own := [("_law_k", 1)]) (N := ["_law_script", "_law_k"]) (sc := defScope s_law) (by decide +kernel)) (fun _ _ _ _ _ => (pg_name (i := 1) sc_law.nd rfl (Or.inl rfl))) (fun _ _ _ _ _ => pts_nil) (fun _ _ _ _ _ => (pe_clG c_law_right hg hr (by decide) (by rfl) (pa_cons (pe_clG c_law_pot hg hr (by decide) (by rfl) (pa_cons (pv 0) (pa_cons (pv 1) pa_nil))) pa_nil)))) pa_nil)))), body_ok ((ref_ret (ref_cb rr_all (ref_cons (ref_F (ref_lc (ref_iRg1 (ref_cons (ref_cb rr_max (ref_cons ref_int (ref_cons (ref_cb rr_min (ref_cons ref_int (ref_cons ref_scLen ref_nil))) ref_nil))) ref_nil)) (ref_bName (by decide)) ref_yes (ref_callO (ref_fCall .nil (ref_cons ref_var (ref_cons ref_var ref_nil)))))) ref_nil)))) (by decide) h⟩
end K67
namespace Vm
open PySem PySem.Spec PyProof.Rows L2 Gk Wo
end Vm
namespace Vm
open PySem PySem.Spec PyProof.Rows L2 Gk
section
variable {α β γ δ ε : AS} {x kd v w c y : Da} {lk lv : Lc} {ls : List Lc} {i : Nat} {f : Bool} {mk : ME} {t : Bool}
theorem nest_at_u (hi : α[i]? = some (.n f false x)) : nestAt α i = some (f, x) := by
  unfold nestAt
  rw [hi]
  rfl
def inNU (neg : Bool) : Da → Da → Option Bool
  | .dt kvs, kd => (keyT kd).bind fun k => some ((valA kvs k).isSome != neg)
  | _, _ => none
theorem inN_u {neg : Bool} (hi : α[i]? = some (.n f false x)) (hk : mk α = some (lk, α)) (rk : res α lk = some kd) (h : inNU neg x kd = some t) : mInN i neg mk α = some (t, α) := by
  unfold mInN
  rw [hk, Option.bind_some, nest_at_u hi, Option.bind_some]
  cases x with
  | dt kvs =>
    replace h : (keyT kd).bind _ = _ := h
    obtain ⟨k, ek, h⟩ := Option.bind_eq_some_iff.mp h
    dsimp only
    rw [rk, Option.bind_some, ek, Option.bind_some]
    cases h
    rfl
  | _ => cases h
def lenNU : Da → Da → Option Da
  | .dt kvs, kd => (keyT kd).bind fun k => match valA kvs k with
    | some (.list xs) => some (.int ((xs.length : Nat) : Int))
    | _ => none
  | _, _ => none
theorem lenN_u (hi : α[i]? = some (.n f false x)) (hk : mk α = some (lk, α)) (rk : res α lk = some kd) (h : lenNU x kd = some c) : eLenN i mk α = some (.d c, α) := by
  unfold eLenN
  rw [hk, Option.bind_some, nest_at_u hi, Option.bind_some]
  cases x with
  | dt kvs =>
    replace h : (keyT kd).bind _ = _ := h
    obtain ⟨k, ek, h⟩ := Option.bind_eq_some_iff.mp h
    dsimp only
    rw [rk, Option.bind_some, ek, Option.bind_some]
    split at h
    · rename_i xs hv
      cases h
      first | rw [hv] | rfl
    · cases h
  | _ => cases h
def putNU : Da → Da → Da → Option Da
  | .dt kvs, kd, v => (keyT kd).bind fun k => (putN kvs k v).map .dt
  | _, _, _ => none
theorem nput_u {mf : MF} (hf : mf α = some (.r v, β)) (hi : β[i]? = some (.n f false x)) (hk : mk β = some (lk, β)) (rk : res β lk = some kd) (h : putNU x kd v = some w) (hγ : β.set i (.n f false w) = γ) : sNPut i mf mk α = some (.nx γ) := by
  unfold sNPut
  rw [hf, Option.bind_some]
  dsimp only
  rw [hk, Option.bind_some, nest_at_u hi, Option.bind_some]
  cases x with
  | dt kvs =>
    replace h : (keyT kd).bind _ = _ := h
    obtain ⟨k, ek, h⟩ := Option.bind_eq_some_iff.mp h
    obtain ⟨w', ew, rfl⟩ := Option.map_eq_some_iff.mp h
    dsimp only
    rw [rk, Option.bind_some, ek, Option.bind_some, ew, Option.bind_some, ← hγ]
  | _ => cases h
def popNU : Da → Da → Option Da
  | .dt kvs, kd => (keyT kd).bind fun k => (popN kvs k).map .dt
  | _, _ => none
theorem npop_u (hi : α[i]? = some (.n f false x)) (hk : mk α = some (lk, α)) (rk : res α lk = some kd) (h : popNU x kd = some w) (hγ : α.set i (.n f false w) = γ) : sNPop i mk α = some (.nx γ) := by
  unfold sNPop
  rw [hk, Option.bind_some, nest_at_u hi, Option.bind_some]
  cases x with
  | dt kvs =>
    replace h : (keyT kd).bind _ = _ := h
    obtain ⟨k, ek, h⟩ := Option.bind_eq_some_iff.mp h
    obtain ⟨w', ew, rfl⟩ := Option.map_eq_some_iff.mp h
    dsimp only
    rw [rk, Option.bind_some, ek, Option.bind_some, ew, Option.bind_some, ← hγ]
  | _ => cases h
theorem callU_u {F : FV} {ds : List Da} {ma : MA} {asv : List AV} {is : List Nat} {q : AV} {xs : List Da} (h1 : ma α = some (ls, α)) (hi : α[i]? = some q) (hr : q.isRoot = true) (hβ : α.set i .un = β) (ha : argsOf β (ls ++ ds.map Lc.d) = some asv) (hn : ((ls ++ ds.map Lc.d).filterMap (rootIx β)).Nodup)
    (hF : uR F asv is = some (c, xs)) (hp : putBack β (ls ++ ds.map Lc.d) (setAs asv is xs) = γ) (hδ : γ.set i q = δ) : callU i F ds ma α = some (c, δ) := by
  obtain ⟨v, e, rfl⟩ := uR_eq hF
  unfold callU callM
  rw [h1, Option.bind_some, hi, Option.bind_some, if_pos hr, hβ]
  dsimp only
  rw [ha, Option.bind_some, e, Option.bind_some, if_pos hn, Option.bind_some, hp, hδ]
def popAtN : Da → Da → Da → Option Da
  | .dt kvs, kd, n => (keyT kd).bind fun k => match valA kvs k, n with
    | some (.list xs), .int n => if 0 ≤ n ∧ n.toNat < xs.length then some (.dt (putF kvs k (.list (xs.eraseIdx n.toNat)))) else none
    | _, _ => none
  | _, _, _ => none
theorem popU_u {F : FV} {ds : List Da} {ma : MA} (hi : α[i]? = some (.n f false x)) (hk : mk α = some (lk, α)) (rk : res α lk = some kd) (hc : callU i F ds ma α = some (c, δ)) (h : popAtN x kd c = some w) (he : δ.set i (.n f false w) = ε) : sPopU i mk F ds ma α = some (.nx ε) := by
  unfold sPopU
  rw [hk, Option.bind_some, nest_at_u hi, Option.bind_some]
  cases x with
  | dt kvs =>
    replace h : (keyT kd).bind _ = _ := h
    obtain ⟨k, ek, h⟩ := Option.bind_eq_some_iff.mp h
    dsimp only
    rw [rk, Option.bind_some, ek, Option.bind_some]
    split at h
    · rename_i xs n hv hn
      try rw [hv]
      try dsimp only
      rw [hc, Option.bind_some]
      dsimp only
      split at h
      · rename_i hb
        cases h
        rw [if_pos hb, ← he]
      · cases h
    · cases h
  | _ => cases h
def catNU : Da → Da → Da → Option Da
  | .dt kvs, kd, n => (keyT kd).bind fun k => match valA kvs k with
    | some (.list xs) => fAdd (.list xs) (.list [n])
    | _ => none
  | _, _, _ => none
theorem catU_u {F : FV} {ds : List Da} {ma : MA} (hi : α[i]? = some (.n f false x)) (hk : mk α = some (lk, α)) (rk : res α lk = some kd) (hc : callU i F ds ma α = some (c, δ)) (h : catNU x kd c = some w) : eCatU i mk F ds ma α = some (.d w, δ) := by
  unfold eCatU
  rw [hk, Option.bind_some, nest_at_u hi, Option.bind_some]
  cases x with
  | dt kvs =>
    replace h : (keyT kd).bind _ = _ := h
    obtain ⟨k, ek, h⟩ := Option.bind_eq_some_iff.mp h
    dsimp only
    rw [rk, Option.bind_some, ek, Option.bind_some]
    split at h
    · rename_i xs hv
      try rw [hv]
      try dsimp only
      rw [hc, Option.bind_some]
      dsimp only
      rw [h]
      rfl
    · cases h
  | _ => cases h
theorem fdictN_u {ma : ME} {j : Nat} {xs : List Da} {ds : List (List Key × Da)} (h : iAny ma α = some ((xs, []), β)) (hn : noRoots β [j]) (hj : j < β.length) (hd : dictN xs = some ds) : fDictN ma j α = some (.n (.dt ds), β) := by
  unfold fDictN
  rw [h, Option.bind_some]
  dsimp only
  rw [if_pos ⟨rfl, hn, hj⟩, hd, Option.bind_some]
end
end Vm
namespace K67
open PySem PySem.Spec PyProof.Rows L2 Gk Vm Wo
noncomputable def u_knows_more (one : Da) (other : Da) : Option (Da) :=
 (uC F_posted_arms [AV.d one]).bind fun known =>
 (fSubs other (Da.int 1)).bind fun e_1 =>
 (iterU e_1).bind fun xs =>
 (forE (ρ := Da) (fun q (_ : Unit) =>
 (un3 q).bind fun (crossing, name, arms) =>
 ((fIn true) (Da.tuple [crossing, name]) known).bind fun e_2 =>
 (asB e_2).bind fun t =>
 cond t (some (.rt (Da.bool false))) ((fSubs known (Da.tuple [crossing, name])).bind fun e_3 =>
 (iterU e_3).bind fun xs_1 =>
 (flatU (fun arm =>
 ((fIn false) arm arms).bind fun e_4 =>
 some [e_4]) xs_1).bind fun ys =>
 (limU ys).bind fun ys_1 =>
 (fAll [(Da.list ys_1)]).bind fun e_5 =>
 cond (!(truD e_5)) (some (.rt (Da.bool false))) (some (.nx ())))) xs ()).bind fun o_ =>
 lpK o_ fun (_ : Unit) =>
 some (Da.bool true)
theorem tx_knows_more {one other r : Da} (h : u_knows_more one other = some r) : F_knows_more [AV.d one, AV.d other] = some (.one (.d r), [AV.d one, AV.d other]) := by
  unfold u_knows_more at h
  refine def_u rfl ?_
  show Wp (m_knows_more [AV.d one, AV.d other, .un, .un, .un, .un, .un]) _
  unfold m_knows_more
  replace h := bse h; obtain ⟨known, h_known, h⟩ := h
  refine wseq (asg_u (call_u (asv := [AV.d one]) (acons_go rfl rfl) rfl rfl h_known) rfl (setD_go rfl rfl)) ?_
  show Wp ((_ : MS) [AV.d one, AV.d other, AV.d known, .un, .un, .un, .un]) _
  replace h := bse h; obtain ⟨e_1, h_e_1, h⟩ := h
  replace h := bse h; obtain ⟨xs, h_xs, h⟩ := h
  replace h := bse h; obtain ⟨o_, hS, h⟩ := h
  refine seq_for_e (fun (s : Unit) (i : Option Da × Option Da × Option Da) => [AV.d one, AV.d other, AV.d known, sl i.1, sl i.2.1, sl i.2.2, .un]) (fun r o => Qr (.one (.d r)) [AV.d one, AV.d other] [AV.d one, AV.d other] o) (none, none, none) (iany_u (eop_go rfl rfl rfl rfl h_e_1) rfl h_xs) rfl hS ?_ ?_ ?_
  · clear h hS
    intro q s i o' h
    obtain ⟨⟩ := s
    obtain ⟨i_, i__1, i__2⟩ := i
    try dsimp only at h
    replace h := bse h; obtain ⟨⟨crossing, name, arms⟩, h_u, h⟩ := h
    try dsimp only at h
    refine wg (gt3_u h_u (gs_c (setD_go rfl (sl_fix _)) (gs_c (setD_go rfl (sl_fix _)) (gs_c (setD_go rfl (sl_fix _)) gs_n)))) ?_
    show Wp ((_ : MS) [AV.d one, AV.d other, AV.d known, AV.d crossing, AV.d name, AV.d arms, .un]) _
    replace h := bse h; obtain ⟨e_2, h_e_2, h⟩ := h
    replace h := bse h; obtain ⟨t, h_t, h⟩ := h
    replace h := csp h; rcases h with ⟨hb, h⟩ | ⟨hb, h⟩
    · refine wsif_t (tofe_u (eop_go (tupN_go (acons_go rfl (acons_go rfl rfl)) (oc rfl (oc rfl rfl)) (Nat.le_of_ble_eq_true rfl)) rfl rfl rfl h_e_2) rfl h_t) hb (wseq_x ?_)
      replace h := Option.some.inj h; subst h
      exact wret rfl ⟨(fun _ z => by cases z), ⟨⟨_, _, rfl⟩, qr_one rfl rfl⟩⟩
    · refine wsif_f (tofe_u (eop_go (tupN_go (acons_go rfl (acons_go rfl rfl)) (oc rfl (oc rfl rfl)) (Nat.le_of_ble_eq_true rfl)) rfl rfl rfl h_e_2) rfl h_t) hb ?_
      refine wseq_next ?_
      replace h := bse h; obtain ⟨e_3, h_e_3, h⟩ := h
      replace h := bse h; obtain ⟨xs_1, h_xs_1, h⟩ := h
      replace h := bse h; obtain ⟨ys, h_ys, h⟩ := h
      replace h := bse h; obtain ⟨ys_1, h_ys_1, h⟩ := h
      replace h := bse h; obtain ⟨e_5, h_e_5, h⟩ := h
      replace h := csp h; rcases h with ⟨hb, h⟩ | ⟨hb, h⟩
      · refine wif_t (mnot_go (tru_u (cb_u (acons_go (ef_u (flc_u (cm_u (W := [AV.d one, AV.d other, AV.d known, AV.d crossing, AV.d name, AV.d arms, .un]) (iany_u (eop_go rfl (tupN_go (acons_go rfl (acons_go rfl rfl)) (oc rfl (oc rfl rfl)) (Nat.le_of_ble_eq_true rfl)) rfl rfl h_e_3) rfl h_xs_1) (nr_cons rfl rfl nr_nil) rfl (fun arm y h => by (replace h := bse h; obtain ⟨e_4, h_e_4, h⟩ := h; replace h := Option.some.inj h; subst h; exact ⟨_, true, (setD_go rfl rfl), rfl, fun _ => (mlc_u (eop_go rfl rfl rfl rfl h_e_4) rfl), fun z => Bool.noConfusion z, rfl⟩)) h_ys) h_ys_1)) rfl) (rc rfl rfl) h_e_5) rfl)) hb ?_
        replace h := Option.some.inj h; subst h
        exact wret rfl ⟨⟨_, _, rfl⟩, qr_one rfl rfl⟩
      · refine wif_f (mnot_go (tru_u (cb_u (acons_go (ef_u (flc_u (cm_u (W := [AV.d one, AV.d other, AV.d known, AV.d crossing, AV.d name, AV.d arms, .un]) (iany_u (eop_go rfl (tupN_go (acons_go rfl (acons_go rfl rfl)) (oc rfl (oc rfl rfl)) (Nat.le_of_ble_eq_true rfl)) rfl rfl h_e_3) rfl h_xs_1) (nr_cons rfl rfl nr_nil) rfl (fun arm y h => by (replace h := bse h; obtain ⟨e_4, h_e_4, h⟩ := h; replace h := Option.some.inj h; subst h; exact ⟨_, true, (setD_go rfl rfl), rfl, fun _ => (mlc_u (eop_go rfl rfl rfl rfl h_e_4) rfl), fun z => Bool.noConfusion z, rfl⟩)) h_ys) h_ys_1)) rfl) (rc rfl rfl) h_e_5) rfl)) hb ?_
        replace h := Option.some.inj h; subst h
        exact wlast rfl ⟨((some crossing), (some name), (some arms)), Or.inl rfl⟩
  · intro s hk i
    replace h := lpK_go hk h
    obtain ⟨⟩ := s
    obtain ⟨i__3, i__4, i__5⟩ := i
    try dsimp only at h
    show Wp ((_ : MS) [AV.d one, AV.d other, AV.d known, sl i__3, sl i__4, sl i__5, .un]) _
    replace h := Option.some.inj h; subst h
    exact wret rfl (qr_one rfl rfl)
  · intro r hk o ho hq
    subst hk
    change some _ = some _ at h
    replace h := Option.some.inj h; subst h
    exact hq
noncomputable def u_law_due (here : Da) (there : Da) : Option (Da) :=
 (fSubs there (Da.int 1)).bind fun e =>
 (iterU e).bind fun xs =>
 (forE (ρ := Da) (fun q (_ : Unit) =>
 (un3 q).bind fun (crossing, name, arms) =>
 (fSubs here (Da.int 1)).bind fun e_1 =>
 (iterU e_1).bind fun xs_1 =>
 (flatU (fun post =>
 (fSl none (some 2) post).bind fun e_2 =>
 (fEqS e_2 (Da.tuple [crossing, name])).bind fun e_3 =>
 (asB e_3).bind fun t =>
 cond t ((fSubs post (Da.int 2)).bind fun e_4 =>
 some [e_4]) (some [])) xs_1).bind fun ys =>
 (limU ys).bind fun ys_1 =>
 (some (Da.list ys_1)).bind fun own =>
 (fEqS own (Da.list [])).bind fun e_5 =>
 (asB e_5).bind fun t_1 =>
 (cond t_1 (some true) ((fSubs own (Da.int 0)).bind fun e_6 =>
 (iterU e_6).bind fun xs_2 =>
 (flatU (fun arm =>
 ((fIn true) arm arms).bind fun e_7 =>
 (asB e_7).bind fun t_2 =>
 cond t_2 (some [arm]) (some [])) xs_2).bind fun ys_2 =>
 (limU ys_2).bind fun ys_3 =>
 (fNeS (Da.list ys_3) (Da.list [])).bind fun e_8 =>
 (asB e_8).bind fun t_3 =>
 some t_3)).bind fun t_4 =>
 cond t_4 (some (.rt (Da.bool false))) (some (.nx ()))) xs ()).bind fun o_ =>
 lpK o_ fun (_ : Unit) =>
 some (Da.bool true)
theorem tx_law_due {here there r : Da} (h : u_law_due here there = some r) : F_law_due [AV.d here, AV.d there] = some (.one (.d r), [AV.d here, AV.d there]) := by
  unfold u_law_due at h
  refine def_u rfl ?_
  show Wp (m_law_due [AV.d here, AV.d there, .un, .un, .un, .un, .un, .un]) _
  unfold m_law_due
  replace h := bse h; obtain ⟨e, h_e, h⟩ := h
  replace h := bse h; obtain ⟨xs, h_xs, h⟩ := h
  replace h := bse h; obtain ⟨o_, hS, h⟩ := h
  refine seq_for_e (fun (s : Unit) (i : Option Da × Option Da × Option Da × Option Da) => [AV.d here, AV.d there, sl i.1, sl i.2.1, sl i.2.2.1, .un, sl i.2.2.2, .un]) (fun r o => Qr (.one (.d r)) [AV.d here, AV.d there] [AV.d here, AV.d there] o) (none, none, none, none) (iany_u (eop_go rfl rfl rfl rfl h_e) rfl h_xs) rfl hS ?_ ?_ ?_
  · clear h hS
    intro q s i o' h
    obtain ⟨⟩ := s
    obtain ⟨i_, i__1, i__2, i__3⟩ := i
    try dsimp only at h
    replace h := bse h; obtain ⟨⟨crossing, name, arms⟩, h_u, h⟩ := h
    try dsimp only at h
    refine wg (gt3_u h_u (gs_c (setD_go rfl (sl_fix _)) (gs_c (setD_go rfl (sl_fix _)) (gs_c (setD_go rfl (sl_fix _)) gs_n)))) ?_
    show Wp ((_ : MS) [AV.d here, AV.d there, AV.d crossing, AV.d name, AV.d arms, .un, sl i__3, .un]) _
    replace h := bse h; obtain ⟨e_1, h_e_1, h⟩ := h
    replace h := bse h; obtain ⟨xs_1, h_xs_1, h⟩ := h
    replace h := bse h; obtain ⟨ys, h_ys, h⟩ := h
    replace h := bse h; obtain ⟨ys_1, h_ys_1, h⟩ := h
    replace h := bse h; obtain ⟨own, h_own, h⟩ := h
    replace h_own := Option.some.inj h_own
    refine wseq (asg_u2 h_own (ef_u (flc_u (cm_u (W := [AV.d here, AV.d there, AV.d crossing, AV.d name, AV.d arms, .un, sl i__3, .un]) (iany_u (eop_go rfl rfl rfl rfl h_e_1) rfl h_xs_1) (nr_cons rfl rfl nr_nil) rfl (fun post y h => by (replace h := bse h; obtain ⟨e_2, h_e_2, h⟩ := h; replace h := bse h; obtain ⟨e_3, h_e_3, h⟩ := h; replace h := bse h; obtain ⟨t, h_t, h⟩ := h; replace h := csp h; rcases h with ⟨hb, h⟩ | ⟨hb, h⟩; (replace h := bse h; obtain ⟨e_4, h_e_4, h⟩ := h; replace h := Option.some.inj h; subst h; exact ⟨_, _, (setD_go rfl rfl), (tofe_u (eop_go (sl_u rfl rfl (osome_u rfl rfl rfl) rfl h_e_2) (tupN_go (acons_go rfl (acons_go rfl rfl)) (oc rfl (oc rfl rfl)) (Nat.le_of_ble_eq_true rfl)) rfl rfl h_e_3) rfl h_t), fun _ => (mlc_u (eop_go rfl rfl rfl rfl h_e_4) rfl), fun z => Bool.noConfusion (hb.symm.trans z), rfl⟩); (replace h := Option.some.inj h; subst h; exact ⟨_, _, (setD_go rfl rfl), (tofe_u (eop_go (sl_u rfl rfl (osome_u rfl rfl rfl) rfl h_e_2) (tupN_go (acons_go rfl (acons_go rfl rfl)) (oc rfl (oc rfl rfl)) (Nat.le_of_ble_eq_true rfl)) rfl rfl h_e_3) rfl h_t), fun z => Bool.noConfusion (hb.symm.trans z), fun _ => rfl, rfl⟩))) h_ys) h_ys_1)) rfl (setD_go rfl (sl_fix _))) ?_
    show Wp ((_ : MS) [AV.d here, AV.d there, AV.d crossing, AV.d name, AV.d arms, .un, AV.d own, .un]) _
    replace h := bse h; obtain ⟨e_5, h_e_5, h⟩ := h
    replace h := bse h; obtain ⟨t_1, h_t_1, h⟩ := h
    replace h := bse h; obtain ⟨t_4, h_t_4, h⟩ := h
    replace h := csp h; rcases h with ⟨hb, h⟩ | ⟨hb, h⟩
    · refine wif_t (mor_b (tofe_u (eop_go rfl (ef_u (flst_u rfl rfl (Nat.le_of_ble_eq_true rfl))) rfl rfl h_e_5) rfl h_t_1) (fun _ x h => by replace h := bse h; obtain ⟨e_6, h_e_6, h⟩ := h; replace h := bse h; obtain ⟨xs_2, h_xs_2, h⟩ := h; replace h := bse h; obtain ⟨ys_2, h_ys_2, h⟩ := h; replace h := bse h; obtain ⟨ys_3, h_ys_3, h⟩ := h; replace h := bse h; obtain ⟨e_8, h_e_8, h⟩ := h; replace h := bse h; obtain ⟨t_3, h_t_3, h⟩ := h; replace h := Option.some.inj h; subst h; exact (tofe_u (eop_go (ef_u (flc_u (cm_u (W := [AV.d here, AV.d there, AV.d crossing, AV.d name, AV.d arms, .un, AV.d own, .un]) (iany_u (eop_go rfl rfl rfl rfl h_e_6) rfl h_xs_2) (nr_cons rfl rfl nr_nil) rfl (fun arm y h => by (replace h := bse h; obtain ⟨e_7, h_e_7, h⟩ := h; replace h := bse h; obtain ⟨t_2, h_t_2, h⟩ := h; replace h := csp h; rcases h with ⟨hb, h⟩ | ⟨hb, h⟩; (replace h := Option.some.inj h; subst h; exact ⟨_, _, (setD_go rfl rfl), (tofe_u (eop_go rfl rfl rfl rfl h_e_7) rfl h_t_2), fun _ => (mlc_u rfl rfl), fun z => Bool.noConfusion (hb.symm.trans z), rfl⟩); (replace h := Option.some.inj h; subst h; exact ⟨_, _, (setD_go rfl rfl), (tofe_u (eop_go rfl rfl rfl rfl h_e_7) rfl h_t_2), fun z => Bool.noConfusion (hb.symm.trans z), fun _ => rfl, rfl⟩))) h_ys_2) h_ys_3)) (ef_u (flst_u rfl rfl (Nat.le_of_ble_eq_true rfl))) rfl rfl h_e_8) rfl h_t_3)) h_t_4) hb ?_
      replace h := Option.some.inj h; subst h
      exact wret rfl ⟨⟨_, _, rfl⟩, qr_one rfl rfl⟩
    · refine wif_f (mor_b (tofe_u (eop_go rfl (ef_u (flst_u rfl rfl (Nat.le_of_ble_eq_true rfl))) rfl rfl h_e_5) rfl h_t_1) (fun _ x h => by replace h := bse h; obtain ⟨e_6, h_e_6, h⟩ := h; replace h := bse h; obtain ⟨xs_2, h_xs_2, h⟩ := h; replace h := bse h; obtain ⟨ys_2, h_ys_2, h⟩ := h; replace h := bse h; obtain ⟨ys_3, h_ys_3, h⟩ := h; replace h := bse h; obtain ⟨e_8, h_e_8, h⟩ := h; replace h := bse h; obtain ⟨t_3, h_t_3, h⟩ := h; replace h := Option.some.inj h; subst h; exact (tofe_u (eop_go (ef_u (flc_u (cm_u (W := [AV.d here, AV.d there, AV.d crossing, AV.d name, AV.d arms, .un, AV.d own, .un]) (iany_u (eop_go rfl rfl rfl rfl h_e_6) rfl h_xs_2) (nr_cons rfl rfl nr_nil) rfl (fun arm y h => by (replace h := bse h; obtain ⟨e_7, h_e_7, h⟩ := h; replace h := bse h; obtain ⟨t_2, h_t_2, h⟩ := h; replace h := csp h; rcases h with ⟨hb, h⟩ | ⟨hb, h⟩; (replace h := Option.some.inj h; subst h; exact ⟨_, _, (setD_go rfl rfl), (tofe_u (eop_go rfl rfl rfl rfl h_e_7) rfl h_t_2), fun _ => (mlc_u rfl rfl), fun z => Bool.noConfusion (hb.symm.trans z), rfl⟩); (replace h := Option.some.inj h; subst h; exact ⟨_, _, (setD_go rfl rfl), (tofe_u (eop_go rfl rfl rfl rfl h_e_7) rfl h_t_2), fun z => Bool.noConfusion (hb.symm.trans z), fun _ => rfl, rfl⟩))) h_ys_2) h_ys_3)) (ef_u (flst_u rfl rfl (Nat.le_of_ble_eq_true rfl))) rfl rfl h_e_8) rfl h_t_3)) h_t_4) hb ?_
      replace h := Option.some.inj h; subst h
      exact wlast rfl ⟨((some crossing), (some name), (some arms), (some own)), Or.inl rfl⟩
  · intro s hk i
    replace h := lpK_go hk h
    obtain ⟨⟩ := s
    obtain ⟨i__4, i__5, i__6, i__7⟩ := i
    try dsimp only at h
    show Wp ((_ : MS) [AV.d here, AV.d there, sl i__4, sl i__5, sl i__6, .un, sl i__7, .un]) _
    replace h := Option.some.inj h; subst h
    exact wret rfl (qr_one rfl rfl)
  · intro r hk o ho hq
    subst hk
    change some _ = some _ at h
    replace h := Option.some.inj h; subst h
    exact hq
noncomputable def u_law_changed (pot : Da) (net : Da) (names : Da) (way : Da) : Option (Da × Da) :=
 (fSubs net (Da.int 1)).bind fun e =>
 (iterU e).bind fun xs =>
 (dictN xs).bind fun ds =>
 (fSubs net (Da.int 0)).bind fun e_1 =>
 (rg1U e_1).bind fun xs_1 =>
 (forU (fun crossing (pot_1, found_1) =>
 (iterU names).bind fun xs_2 =>
 (forU (fun name (pot_2, found_2) =>
 (some (Da.tuple [crossing, name])).bind fun key =>
 (inNU false found_2 key).bind fun t =>
 (cond t ((uR1 F_law_take [AV.r true false pot_2, AV.d (Da.int 3)] 0).bind fun (e_2, pot_3) =>
 (fEqS e_2 (Da.int 0)).bind fun e_3 =>
 (asB e_3).bind fun t_1 =>
 some (t_1, pot_3)) (some (false, pot_2))).bind fun (t_2, pot_4) =>
 cond t_2 ((fEqS way (Da.int 0)).bind fun e_4 =>
 (asB e_4).bind fun t_3 =>
 (cond t_3 ((lenNU found_2 key).bind fun e_5 =>
 (fGt e_5 (Da.int 1)).bind fun e_6 =>
 (asB e_6).bind fun t_4 =>
 some t_4) (some false)).bind fun t_5 =>
 cond t_5 ((lenNU found_2 key).bind fun e_7 =>
 (uR1 F_law_take [AV.r true false pot_4, AV.d e_7] 0).bind fun (e_8, pot_5) =>
 (popAtN found_2 key e_8).bind fun found_3 =>
 some (pot_5, found_3)) ((fEqS way (Da.int 2)).bind fun e_9 =>
 (asB e_9).bind fun t_6 =>
 (cond t_6 ((lenNU found_2 key).bind fun e_10 =>
 (fLtA e_10 (Da.int 8)).bind fun e_11 =>
 (asB e_11).bind fun t_7 =>
 some t_7) (some false)).bind fun t_8 =>
 cond t_8 ((fSubs net (Da.int 0)).bind fun e_12 =>
 (uR1 F_law_take [AV.r true false pot_4, AV.d e_12] 0).bind fun (e_13, pot_6) =>
 (catNU found_2 key e_13).bind fun e_14 =>
 (uSortSet e_14).bind fun ys =>
 (putNU found_2 key (Da.list ys)).bind fun found_4 =>
 some (pot_6, found_4)) ((fEqS way (Da.int 3)).bind fun e_15 =>
 (asB e_15).bind fun t_9 =>
 cond t_9 ((popNU found_2 key).bind fun found_5 =>
 some (pot_4, found_5)) (some (pot_4, found_2))))) ((inNU true found_2 key).bind fun t_10 =>
 (cond t_10 ((fEqS way (Da.int 1)).bind fun e_16 =>
 (asB e_16).bind fun t_11 =>
 (cond t_11 ((uR1 F_law_take [AV.r true false pot_4, AV.d (Da.int 2)] 0).bind fun (e_17, pot_7) =>
 (fEqS e_17 (Da.int 0)).bind fun e_18 =>
 (asB e_18).bind fun t_12 =>
 some (t_12, pot_7)) (some (false, pot_4))).bind fun (t_13, pot_8) =>
 some (t_13, pot_8)) (some (false, pot_4))).bind fun (t_14, pot_9) =>
 cond t_14 ((fSubs net (Da.int 0)).bind fun e_19 =>
 (uR1 F_law_take [AV.r true false pot_9, AV.d e_19] 0).bind fun (e_20, pot_10) =>
 (putNU found_2 key (Da.list [e_20])).bind fun found_6 =>
 some (pot_10, found_6)) (some (pot_9, found_2)))) xs_2 (pot_1, found_1)).bind fun (pot_11, found_7) =>
 some (pot_11, found_7)) xs_1 (pot, (Da.dt ds))).bind fun (pot_12, found_8) =>
 (fSubs net (Da.int 0)).bind fun e_21 =>
 (iterU found_8).bind fun xs_3 =>
 (flatU (fun key_1 =>
 (fSubs found_8 key_1).bind fun e_22 =>
 (fTuple [e_22]).bind fun e_23 =>
 (fAdd key_1 (Da.tuple [e_23])).bind fun e_24 =>
 some [e_24]) xs_3).bind fun ys_1 =>
 (limU ys_1).bind fun ys_2 =>
 (uSortM [(Da.list ys_2)]).bind fun ys_3 =>
 (fTuple [(Da.list ys_3)]).bind fun e_25 =>
 some ((Da.tuple [e_21, e_25]), pot_12)
theorem tx_law_changed {fx : Bool} {pot net names way r r0 : Da} (h : u_law_changed pot net names way = some (r, r0)) : F_law_changed [AV.r fx false pot, AV.d net, AV.d names, AV.d way] = some (.one (.d r), [AV.r fx false r0, AV.d net, AV.d names, AV.d way]) := by
  unfold u_law_changed at h
  refine def_u rfl ?_
  show Wp (m_law_changed [AV.r true false pot, AV.d net, AV.d names, AV.d way, .un, .un, .un, .un, .un]) _
  unfold m_law_changed
  replace h := bse h; obtain ⟨e, h_e, h⟩ := h
  replace h := bse h; obtain ⟨xs, h_xs, h⟩ := h
  replace h := bse h; obtain ⟨ds, h_ds, h⟩ := h
  refine wseq (asgR_u (fdictN_u (iany_u (eop_go rfl rfl rfl rfl h_e) rfl h_xs) (nr_cons rfl rfl nr_nil) (Nat.le_of_ble_eq_true rfl) h_ds) rfl rfl) ?_
  show Wp ((_ : MS) [AV.r true false pot, AV.d net, AV.d names, AV.d way, .un, AV.n false false (Da.dt ds), .un, .un, .un]) _
  replace h := bse h; obtain ⟨e_1, h_e_1, h⟩ := h
  replace h := bse h; obtain ⟨xs_1, h_xs_1, h⟩ := h
  replace h := bse h; obtain ⟨⟨pot_12, found_8⟩, hS, h⟩ := h
  try dsimp only at h
  refine wseq_j (for_u (fun (s : Da × Da) (i : Option Da × Option Da × Option Da) => [AV.r true false s.1, AV.d net, AV.d names, AV.d way, .un, AV.n false false s.2, sl i.1, sl i.2.1, sl i.2.2]) (none, none, none) (irg1_u (acons_go (eop_go rfl rfl rfl rfl h_e_1) rfl) (rc rfl rfl) h_xs_1) rfl hS ?_) ?_
  · clear h hS
    intro crossing s i s' h
    obtain ⟨pot_1, found_1⟩ := s
    obtain ⟨i_, i__1, i__2⟩ := i
    try dsimp only at h
    refine wg (setD_go rfl (sl_fix _)) ?_
    show Wp ((_ : MS) [AV.r true false pot_1, AV.d net, AV.d names, AV.d way, .un, AV.n false false found_1, AV.d crossing, sl i__1, sl i__2]) _
    replace h := bse h; obtain ⟨xs_2, h_xs_2, h⟩ := h
    replace h := bse h; obtain ⟨⟨pot_11, found_7⟩, hS, h⟩ := h
    try dsimp only at h
    refine Wp.mono (for_u (fun (s : Da × Da) (i : Option Da × Option Da) => [AV.r true false s.1, AV.d net, AV.d names, AV.d way, .un, AV.n false false s.2, AV.d crossing, sl i.1, sl i.2]) (i__1, i__2) (iany_u rfl rfl h_xs_2) rfl hS ?_) ?_
    · clear h hS
      intro name s i s' h
      obtain ⟨pot_2, found_2⟩ := s
      obtain ⟨i__3, i__4⟩ := i
      try dsimp only at h
      refine wg (setD_go rfl (sl_fix _)) ?_
      show Wp ((_ : MS) [AV.r true false pot_2, AV.d net, AV.d names, AV.d way, .un, AV.n false false found_2, AV.d crossing, AV.d name, sl i__4]) _
      replace h := bse h; obtain ⟨key, h_key, h⟩ := h
      replace h_key := Option.some.inj h_key
      refine wseq (asg_u2 h_key (tupN_go (acons_go rfl (acons_go rfl rfl)) (oc rfl (oc rfl rfl)) (Nat.le_of_ble_eq_true rfl)) rfl (setD_go rfl (sl_fix _))) ?_
      show Wp ((_ : MS) [AV.r true false pot_2, AV.d net, AV.d names, AV.d way, .un, AV.n false false found_2, AV.d crossing, AV.d name, AV.d key]) _
      replace h := bse h; obtain ⟨t, h_t, h⟩ := h
      replace h := bse h; obtain ⟨⟨t_2, pot_4⟩, h_t_2, h⟩ := h
      dsimp only at h
      replace h := csp h; rcases h with ⟨hb, h⟩ | ⟨hb, h⟩
      · refine wif_t (mand_s (S := (fun s : Da => [AV.r true false s, AV.d net, AV.d names, AV.d way, .un, AV.n false false found_2, AV.d crossing, AV.d name, AV.d key])) (inN_u rfl rfl rfl h_t) rfl (fun _ x s h => by replace h := bse h; obtain ⟨⟨e_2, pot_3⟩, h_e_2, h⟩ := h; dsimp only at h; replace h := bse h; obtain ⟨e_3, h_e_3, h⟩ := h; replace h := bse h; obtain ⟨t_1, h_t_1, h⟩ := h; replace h := Option.some.inj h; replace h := Prod.mk.inj h; obtain ⟨h1, h⟩ := h; subst h1; subst h; exact (tofe_u (eop_go (callr_u (γ := [AV.r true false pot_3, AV.d net, AV.d names, AV.d way, .un, AV.n false false found_2, AV.d crossing, AV.d name, AV.d key]) (acons_go rfl (acons_go rfl rfl)) rfl (nodup_ix (is := [0]) rfl (by decide)) (uR1_eq h_e_2) (put1_u (i := 0) rfl rfl rfl rfl rfl rfl)) rfl rfl rfl h_e_3) rfl h_t_1)) h_t_2) hb ?_
        replace h := bse h; obtain ⟨e_4, h_e_4, h⟩ := h
        replace h := bse h; obtain ⟨t_3, h_t_3, h⟩ := h
        replace h := bse h; obtain ⟨t_5, h_t_5, h⟩ := h
        replace h := csp h; rcases h with ⟨hb, h⟩ | ⟨hb, h⟩
        · refine wif_t (mand_b (tofe_u (eop_go rfl rfl rfl rfl h_e_4) rfl h_t_3) (fun _ x h => by replace h := bse h; obtain ⟨e_5, h_e_5, h⟩ := h; replace h := bse h; obtain ⟨e_6, h_e_6, h⟩ := h; replace h := bse h; obtain ⟨t_4, h_t_4, h⟩ := h; replace h := Option.some.inj h; subst h; exact (tofe_u (eop_go (lenN_u rfl rfl rfl h_e_5) rfl rfl rfl h_e_6) rfl h_t_4)) h_t_5) hb ?_
          replace h := bse h; obtain ⟨e_7, h_e_7, h⟩ := h
          replace h := bse h; obtain ⟨⟨e_8, pot_5⟩, h_e_8, h⟩ := h
          dsimp only at h
          replace h := bse h; obtain ⟨found_3, h_found_3, h⟩ := h
          replace h := Option.some.inj h; subst h
          exact wlast (popU_u (ε := [AV.r true false pot_5, AV.d net, AV.d names, AV.d way, .un, AV.n false false found_3, AV.d crossing, AV.d name, AV.d key]) rfl rfl rfl (callU_u (β := [AV.r true false pot_4, AV.d net, AV.d names, AV.d way, .un, .un, AV.d crossing, AV.d name, AV.d key]) (γ := [AV.r true false pot_5, AV.d net, AV.d names, AV.d way, .un, .un, AV.d crossing, AV.d name, AV.d key]) (δ := [AV.r true false pot_5, AV.d net, AV.d names, AV.d way, .un, AV.n false false found_2, AV.d crossing, AV.d name, AV.d key]) (acons_go rfl (acons_go (lenN_u rfl rfl rfl h_e_7) rfl)) rfl rfl rfl rfl (nodup_ix (is := [0]) rfl (by decide)) (uR1_eq h_e_8) (put1_u (i := 0) rfl rfl rfl rfl rfl rfl) rfl) h_found_3 rfl) ⟨((some name), (some key)), Or.inl rfl⟩
        · refine wif_f (mand_b (tofe_u (eop_go rfl rfl rfl rfl h_e_4) rfl h_t_3) (fun _ x h => by replace h := bse h; obtain ⟨e_5, h_e_5, h⟩ := h; replace h := bse h; obtain ⟨e_6, h_e_6, h⟩ := h; replace h := bse h; obtain ⟨t_4, h_t_4, h⟩ := h; replace h := Option.some.inj h; subst h; exact (tofe_u (eop_go (lenN_u rfl rfl rfl h_e_5) rfl rfl rfl h_e_6) rfl h_t_4)) h_t_5) hb ?_
          replace h := bse h; obtain ⟨e_9, h_e_9, h⟩ := h
          replace h := bse h; obtain ⟨t_6, h_t_6, h⟩ := h
          replace h := bse h; obtain ⟨t_8, h_t_8, h⟩ := h
          replace h := csp h; rcases h with ⟨hb, h⟩ | ⟨hb, h⟩
          · refine wif_t (mand_b (tofe_u (eop_go rfl rfl rfl rfl h_e_9) rfl h_t_6) (fun _ x h => by replace h := bse h; obtain ⟨e_10, h_e_10, h⟩ := h; replace h := bse h; obtain ⟨e_11, h_e_11, h⟩ := h; replace h := bse h; obtain ⟨t_7, h_t_7, h⟩ := h; replace h := Option.some.inj h; subst h; exact (tofe_u (eop_go (lenN_u rfl rfl rfl h_e_10) rfl rfl rfl h_e_11) rfl h_t_7)) h_t_8) hb ?_
            replace h := bse h; obtain ⟨e_12, h_e_12, h⟩ := h
            replace h := bse h; obtain ⟨⟨e_13, pot_6⟩, h_e_13, h⟩ := h
            dsimp only at h
            replace h := bse h; obtain ⟨e_14, h_e_14, h⟩ := h
            replace h := bse h; obtain ⟨ys, h_ys, h⟩ := h
            replace h := bse h; obtain ⟨found_4, h_found_4, h⟩ := h
            replace h := Option.some.inj h; subst h
            exact wlast (nput_u (γ := [AV.r true false pot_6, AV.d net, AV.d names, AV.d way, .un, AV.n false false found_4, AV.d crossing, AV.d name, AV.d key]) (fsortSet_u (catU_u rfl rfl rfl (callU_u (β := [AV.r true false pot_4, AV.d net, AV.d names, AV.d way, .un, .un, AV.d crossing, AV.d name, AV.d key]) (γ := [AV.r true false pot_6, AV.d net, AV.d names, AV.d way, .un, .un, AV.d crossing, AV.d name, AV.d key]) (δ := [AV.r true false pot_6, AV.d net, AV.d names, AV.d way, .un, AV.n false false found_2, AV.d crossing, AV.d name, AV.d key]) (acons_go rfl (acons_go (eop_go rfl rfl rfl rfl h_e_12) rfl)) rfl rfl rfl rfl (nodup_ix (is := [0]) rfl (by decide)) (uR1_eq h_e_13) (put1_u (i := 0) rfl rfl rfl rfl rfl rfl) rfl) h_e_14) rfl h_ys) rfl rfl rfl h_found_4 rfl) ⟨((some name), (some key)), Or.inl rfl⟩
          · refine wif_f (mand_b (tofe_u (eop_go rfl rfl rfl rfl h_e_9) rfl h_t_6) (fun _ x h => by replace h := bse h; obtain ⟨e_10, h_e_10, h⟩ := h; replace h := bse h; obtain ⟨e_11, h_e_11, h⟩ := h; replace h := bse h; obtain ⟨t_7, h_t_7, h⟩ := h; replace h := Option.some.inj h; subst h; exact (tofe_u (eop_go (lenN_u rfl rfl rfl h_e_10) rfl rfl rfl h_e_11) rfl h_t_7)) h_t_8) hb ?_
            replace h := bse h; obtain ⟨e_15, h_e_15, h⟩ := h
            replace h := bse h; obtain ⟨t_9, h_t_9, h⟩ := h
            replace h := csp h; rcases h with ⟨hb, h⟩ | ⟨hb, h⟩
            · refine wif_t (tofe_u (eop_go rfl rfl rfl rfl h_e_15) rfl h_t_9) hb ?_
              replace h := bse h; obtain ⟨found_5, h_found_5, h⟩ := h
              replace h := Option.some.inj h; subst h
              exact wlast (npop_u (γ := [AV.r true false pot_4, AV.d net, AV.d names, AV.d way, .un, AV.n false false found_5, AV.d crossing, AV.d name, AV.d key]) rfl rfl rfl h_found_5 rfl) ⟨((some name), (some key)), Or.inl rfl⟩
            · refine wif_f (tofe_u (eop_go rfl rfl rfl rfl h_e_15) rfl h_t_9) hb ?_
              replace h := Option.some.inj h; subst h
              exact wlast rfl ⟨((some name), (some key)), Or.inl rfl⟩
      · refine wif_f (mand_s (S := (fun s : Da => [AV.r true false s, AV.d net, AV.d names, AV.d way, .un, AV.n false false found_2, AV.d crossing, AV.d name, AV.d key])) (inN_u rfl rfl rfl h_t) rfl (fun _ x s h => by replace h := bse h; obtain ⟨⟨e_2, pot_3⟩, h_e_2, h⟩ := h; dsimp only at h; replace h := bse h; obtain ⟨e_3, h_e_3, h⟩ := h; replace h := bse h; obtain ⟨t_1, h_t_1, h⟩ := h; replace h := Option.some.inj h; replace h := Prod.mk.inj h; obtain ⟨h1, h⟩ := h; subst h1; subst h; exact (tofe_u (eop_go (callr_u (γ := [AV.r true false pot_3, AV.d net, AV.d names, AV.d way, .un, AV.n false false found_2, AV.d crossing, AV.d name, AV.d key]) (acons_go rfl (acons_go rfl rfl)) rfl (nodup_ix (is := [0]) rfl (by decide)) (uR1_eq h_e_2) (put1_u (i := 0) rfl rfl rfl rfl rfl rfl)) rfl rfl rfl h_e_3) rfl h_t_1)) h_t_2) hb ?_
        replace h := bse h; obtain ⟨t_10, h_t_10, h⟩ := h
        replace h := bse h; obtain ⟨⟨t_14, pot_9⟩, h_t_14, h⟩ := h
        dsimp only at h
        replace h := csp h; rcases h with ⟨hb, h⟩ | ⟨hb, h⟩
        · refine wif_t (mand_s (S := (fun s : Da => [AV.r true false s, AV.d net, AV.d names, AV.d way, .un, AV.n false false found_2, AV.d crossing, AV.d name, AV.d key])) (inN_u rfl rfl rfl h_t_10) rfl (fun _ x s h => by replace h := bse h; obtain ⟨e_16, h_e_16, h⟩ := h; replace h := bse h; obtain ⟨t_11, h_t_11, h⟩ := h; replace h := bse h; obtain ⟨⟨t_13, pot_8⟩, h_t_13, h⟩ := h; dsimp only at h; replace h := Option.some.inj h; replace h := Prod.mk.inj h; obtain ⟨h1, h⟩ := h; subst h1; subst h; exact (mand_s (S := (fun s : Da => [AV.r true false s, AV.d net, AV.d names, AV.d way, .un, AV.n false false found_2, AV.d crossing, AV.d name, AV.d key])) (tofe_u (eop_go rfl rfl rfl rfl h_e_16) rfl h_t_11) rfl (fun _ x s h => by replace h := bse h; obtain ⟨⟨e_17, pot_7⟩, h_e_17, h⟩ := h; dsimp only at h; replace h := bse h; obtain ⟨e_18, h_e_18, h⟩ := h; replace h := bse h; obtain ⟨t_12, h_t_12, h⟩ := h; replace h := Option.some.inj h; replace h := Prod.mk.inj h; obtain ⟨h1, h⟩ := h; subst h1; subst h; exact (tofe_u (eop_go (callr_u (γ := [AV.r true false pot_7, AV.d net, AV.d names, AV.d way, .un, AV.n false false found_2, AV.d crossing, AV.d name, AV.d key]) (acons_go rfl (acons_go rfl rfl)) rfl (nodup_ix (is := [0]) rfl (by decide)) (uR1_eq h_e_17) (put1_u (i := 0) rfl rfl rfl rfl rfl rfl)) rfl rfl rfl h_e_18) rfl h_t_12)) h_t_13)) h_t_14) hb ?_
          replace h := bse h; obtain ⟨e_19, h_e_19, h⟩ := h
          replace h := bse h; obtain ⟨⟨e_20, pot_10⟩, h_e_20, h⟩ := h
          dsimp only at h
          replace h := bse h; obtain ⟨found_6, h_found_6, h⟩ := h
          replace h := Option.some.inj h; subst h
          exact wlast (nput_u (γ := [AV.r true false pot_10, AV.d net, AV.d names, AV.d way, .un, AV.n false false found_6, AV.d crossing, AV.d name, AV.d key]) (flst_u (acons_go (callr_u (γ := [AV.r true false pot_10, AV.d net, AV.d names, AV.d way, .un, AV.n false false found_2, AV.d crossing, AV.d name, AV.d key]) (acons_go rfl (acons_go (eop_go rfl rfl rfl rfl h_e_19) rfl)) rfl (nodup_ix (is := [0]) rfl (by decide)) (uR1_eq h_e_20) (put1_u (i := 0) rfl rfl rfl rfl rfl rfl)) rfl) (oc rfl rfl) (Nat.le_of_ble_eq_true rfl)) rfl rfl rfl h_found_6 rfl) ⟨((some name), (some key)), Or.inl rfl⟩
        · refine wif_f (mand_s (S := (fun s : Da => [AV.r true false s, AV.d net, AV.d names, AV.d way, .un, AV.n false false found_2, AV.d crossing, AV.d name, AV.d key])) (inN_u rfl rfl rfl h_t_10) rfl (fun _ x s h => by replace h := bse h; obtain ⟨e_16, h_e_16, h⟩ := h; replace h := bse h; obtain ⟨t_11, h_t_11, h⟩ := h; replace h := bse h; obtain ⟨⟨t_13, pot_8⟩, h_t_13, h⟩ := h; dsimp only at h; replace h := Option.some.inj h; replace h := Prod.mk.inj h; obtain ⟨h1, h⟩ := h; subst h1; subst h; exact (mand_s (S := (fun s : Da => [AV.r true false s, AV.d net, AV.d names, AV.d way, .un, AV.n false false found_2, AV.d crossing, AV.d name, AV.d key])) (tofe_u (eop_go rfl rfl rfl rfl h_e_16) rfl h_t_11) rfl (fun _ x s h => by replace h := bse h; obtain ⟨⟨e_17, pot_7⟩, h_e_17, h⟩ := h; dsimp only at h; replace h := bse h; obtain ⟨e_18, h_e_18, h⟩ := h; replace h := bse h; obtain ⟨t_12, h_t_12, h⟩ := h; replace h := Option.some.inj h; replace h := Prod.mk.inj h; obtain ⟨h1, h⟩ := h; subst h1; subst h; exact (tofe_u (eop_go (callr_u (γ := [AV.r true false pot_7, AV.d net, AV.d names, AV.d way, .un, AV.n false false found_2, AV.d crossing, AV.d name, AV.d key]) (acons_go rfl (acons_go rfl rfl)) rfl (nodup_ix (is := [0]) rfl (by decide)) (uR1_eq h_e_17) (put1_u (i := 0) rfl rfl rfl rfl rfl rfl)) rfl rfl rfl h_e_18) rfl h_t_12)) h_t_13)) h_t_14) hb ?_
          replace h := Option.some.inj h; subst h
          exact wlast rfl ⟨((some name), (some key)), Or.inl rfl⟩
    · rintro _ ⟨_, rfl, ⟨i__5, i__6⟩, rfl⟩
      replace h := Option.some.inj h; subst h
      exact ⟨((some crossing), i__5, i__6), Or.inl rfl⟩
  · rintro _ ⟨⟨i__7, i__8, i__9⟩, rfl⟩
    show Wp ((_ : MS) [AV.r true false pot_12, AV.d net, AV.d names, AV.d way, .un, AV.n false false found_8, sl i__7, sl i__8, sl i__9]) _
    refine wfrz_n rfl ?_
    show Wp ((_ : MS) [AV.r true false pot_12, AV.d net, AV.d names, AV.d way, .un, AV.d found_8, sl i__7, sl i__8, sl i__9]) _
    replace h := bse h; obtain ⟨e_21, h_e_21, h⟩ := h
    replace h := bse h; obtain ⟨xs_3, h_xs_3, h⟩ := h
    replace h := bse h; obtain ⟨ys_1, h_ys_1, h⟩ := h
    replace h := bse h; obtain ⟨ys_2, h_ys_2, h⟩ := h
    replace h := bse h; obtain ⟨ys_3, h_ys_3, h⟩ := h
    replace h := bse h; obtain ⟨e_25, h_e_25, h⟩ := h
    replace h := Option.some.inj h; replace h := Prod.mk.inj h; obtain ⟨h1, h⟩ := h; subst h1; subst h
    exact wret (tupN_go (acons_go (eop_go rfl rfl rfl rfl h_e_21) (acons_go (cb_u (acons_go (ef_u (fsortM_u (acons_go (ef_u (flc_u (cm_u (W := [AV.r true false pot_12, AV.d net, AV.d names, AV.d way, .un, AV.d found_8, sl i__7, sl i__8, .un]) (iany_u rfl rfl h_xs_3) (nr_cons rfl (sl_root _) nr_nil) rfl (fun key_1 y h => by (replace h := bse h; obtain ⟨e_22, h_e_22, h⟩ := h; replace h := bse h; obtain ⟨e_23, h_e_23, h⟩ := h; replace h := bse h; obtain ⟨e_24, h_e_24, h⟩ := h; replace h := Option.some.inj h; subst h; exact ⟨_, true, (setD_go rfl rfl), rfl, fun _ => (mlc_u (eop_go rfl (tupN_go (acons_go (cb_u (acons_go (eop_go rfl rfl rfl rfl h_e_22) rfl) (rc rfl rfl) h_e_23) rfl) (oc rfl rfl) (Nat.le_of_ble_eq_true rfl)) rfl rfl h_e_24) rfl), fun z => Bool.noConfusion z, rfl⟩)) h_ys_1) h_ys_2)) rfl) (rc rfl rfl) h_ys_3)) rfl) (rc rfl rfl) h_e_25) rfl)) (oc rfl (oc rfl rfl)) (Nat.le_of_ble_eq_true rfl)) (qr_one rfl rfl)
noncomputable def u_law_right (pot : Da) : Option (Da × Da) :=
 (uR1 F_law_take [AV.r true false pot, AV.d (Da.int 3)] 0).bind fun (e, pot_1) =>
 (fAdd (Da.int 1) e).bind fun e_1 =>
 (uR1 F_law_names [AV.r true false pot_1, AV.d e_1] 0).bind fun (names, pot_2) =>
 (uR1 F_law_take [AV.r true false pot_2, AV.d (Da.int 7)] 0).bind fun (e_3, pot_3) =>
 (uR1 F_law_web [AV.r true false pot_3, AV.d e_3, AV.d names, AV.d (Da.int 4)] 0).bind fun (net, pot_4) =>
 (rg1U (Da.int 4)).bind fun xs =>
 (flatS (fun way_1 pot_6 =>
 (uR1 F_law_changed [AV.r true false pot_6, AV.d net, AV.d names, AV.d way_1] 0).bind fun (e_6, pot_7) =>
 some ([e_6], pot_7)) xs pot_4).bind fun (ys, pot_8) =>
 (limU ys).bind fun ys_1 =>
 (fAdd (Da.list [net]) (Da.list ys_1)).bind fun some_ =>
 (fSubs some_ (Da.int 1)).bind fun e_8 =>
 (uR1 F_law_changed [AV.r true false pot_8, AV.d e_8, AV.d names, AV.d (Da.int 1)] 0).bind fun (e_9, pot_9) =>
 (fSubs net (Da.int 0)).bind fun e_10 =>
 (uR1 F_law_web [AV.r true false pot_9, AV.d e_10, AV.d names, AV.d (Da.int 4)] 0).bind fun (e_11, pot_10) =>
 (fSubs net (Da.int 0)).bind fun e_12 =>
 (fAdd some_ (Da.list [e_9, e_11, (Da.tuple [e_12, (Da.tuple [])])])).bind fun some__1 =>
 (enuL some__1).bind fun xs_1 =>
 (forE (ρ := Da × Da) (fun q (table_1 : Da) =>
 (un2 q).bind fun (at_, here) =>
 (enuL some__1).bind fun xs_2 =>
 (forE (ρ := Da × Da) (fun q_1 (table_2 : Da) =>
 (un2 q_1).bind fun (to, there) =>
 (fRepr [(Da.tuple [here, there])]).bind fun kept =>
 (uC F_law_due [AV.d here, AV.d there]).bind fun due =>
 (uC F_knows_more [AV.d here, AV.d there]).bind fun e_16 =>
 (uC F_knows_more [AV.d here, AV.d there]).bind fun e_17 =>
 (fRepr [(Da.list [e_16, e_17])]).bind fun e_18 =>
 (fRepr [(Da.list [due, due])]).bind fun e_19 =>
 (fNeS e_18 e_19).bind fun e_20 =>
 (asB e_20).bind fun t =>
 cond t (some (.rt ((Da.bool false), pot_10))) ((cond (truD due) ((uC F_law_due [AV.d there, AV.d here]).bind fun e_21 =>
 (cond (truD e_21) ((fNeS here there).bind fun e_22 =>
 (asB e_22).bind fun t_1 =>
 some t_1) (some false)).bind fun t_2 =>
 some t_2) (some false)).bind fun t_3 =>
 (cond t_3 (some true) ((fRepr [(Da.tuple [here, there])]).bind fun e_23 =>
 (fNeS e_23 kept).bind fun e_24 =>
 (asB e_24).bind fun t_4 =>
 some t_4)).bind fun t_5 =>
 cond t_5 (some (.rt ((Da.bool false), pot_10))) ((setDa table_2 (Da.tuple [at_, to]) due).bind fun table_3 =>
 some (.nx table_3)))) xs_2 table_1).bind fun o_ =>
lpL o_ fun (table_4 : Da) =>
 some (.nx table_4)) xs_1 (Da.dt [])).bind fun o__1 =>
 lpK o__1 fun (table_5 : Da) =>
 (fLenB [some__1]).bind fun e_25 =>
 (rg1U e_25).bind fun xs_3 =>
 (forE (ρ := Da × Da) (fun at__1 (_ : Unit) =>
 (fLenB [some__1]).bind fun e_26 =>
 (rg1U e_26).bind fun xs_4 =>
 (forE (ρ := Da × Da) (fun to_1 (_ : Unit) =>
 (fLenB [some__1]).bind fun e_27 =>
 (rg1U e_27).bind fun xs_5 =>
 (flatU (fun last =>
 (fSubs table_5 (Da.tuple [to_1, last])).bind fun e_28 =>
 cond (truD e_28) (some [last]) (some [])) xs_5).bind fun ys_2 =>
 (limU ys_2).bind fun ys_3 =>
 (some (Da.list ys_3)).bind fun later =>
 (fSubs table_5 (Da.tuple [at__1, to_1])).bind fun e_29 =>
 (cond (truD e_29) ((iterU later).bind fun xs_6 =>
 (flatU (fun last_1 =>
 (fSubs table_5 (Da.tuple [at__1, last_1])).bind fun e_30 =>
 some [e_30]) xs_6).bind fun ys_4 =>
 (limU ys_4).bind fun ys_5 =>
 (fAll [(Da.list ys_5)]).bind fun e_31 =>
 some (!(truD e_31))) (some false)).bind fun t_6 =>
 cond t_6 (some (.rt ((Da.bool false), pot_10))) (some (.nx ()))) xs_4 ()).bind fun o__2 =>
lpL o__2 fun (_ : Unit) =>
 some (.nx ())) xs_3 ()).bind fun o__3 =>
 lpK o__3 fun (_ : Unit) =>
 (fLenB [some__1]).bind fun e_32 =>
 (rg1U e_32).bind fun xs_7 =>
 (flatU (fun at__2 =>
 (fSubs table_5 (Da.tuple [at__2, at__2])).bind fun e_33 =>
 some [e_33]) xs_7).bind fun ys_6 =>
 (limU ys_6).bind fun ys_7 =>
 (fAll [(Da.list ys_7)]).bind fun e_34 =>
 (asB e_34).bind fun t_7 =>
 (cond t_7 ((fSubs table_5 (Da.tuple [(Da.int 1), (Da.int 0)])).bind fun e_35 =>
 (asB e_35).bind fun t_8 =>
 (cond t_8 ((fSubs table_5 (Da.tuple [(Da.int 2), (Da.int 0)])).bind fun e_36 =>
 (asB e_36).bind fun t_9 =>
 (cond t_9 ((fSubs table_5 (Da.tuple [(Da.int 0), (Da.int 3)])).bind fun e_37 =>
 some e_37) (some (Da.bool false))).bind fun e_38 =>
 some e_38) (some (Da.bool false))).bind fun e_39 =>
 some e_39) (some (Da.bool false))).bind fun e_40 =>
 some (e_40, pot_10)
theorem tx_law_right {fx : Bool} {pot r r0 : Da} (h : u_law_right pot = some (r, r0)) : F_law_right [AV.r fx false pot] = some (.one (.d r), [AV.r fx false r0]) := by
  unfold u_law_right at h
  refine def_u rfl ?_
  show Wp (m_law_right [AV.r true false pot, .un, .un, .un, .un, .un, .un, .un, .un, .un, .un, .un, .un, .un]) _
  unfold m_law_right
  replace h := bse h; obtain ⟨⟨e, pot_1⟩, h_e, h⟩ := h
  dsimp only at h
  replace h := bse h; obtain ⟨e_1, h_e_1, h⟩ := h
  replace h := bse h; obtain ⟨⟨names, pot_2⟩, h_names, h⟩ := h
  dsimp only at h
  refine wseq (asg_u (callr_u (γ := [AV.r true false pot_2, .un, .un, .un, .un, .un, .un, .un, .un, .un, .un, .un, .un, .un]) (acons_go rfl (acons_go (eop_go rfl (callr_u (γ := [AV.r true false pot_1, .un, .un, .un, .un, .un, .un, .un, .un, .un, .un, .un, .un, .un]) (acons_go rfl (acons_go rfl rfl)) rfl (nodup_ix (is := [0]) rfl (by decide)) (uR1_eq h_e) (put1_u (i := 0) rfl rfl rfl rfl rfl rfl)) rfl rfl h_e_1) rfl)) rfl (nodup_ix (is := [0]) rfl (by decide)) (uR1_eq h_names) (put1_u (i := 0) rfl rfl rfl rfl rfl rfl)) rfl (setD_go rfl rfl)) ?_
  show Wp ((_ : MS) [AV.r true false pot_2, AV.d names, .un, .un, .un, .un, .un, .un, .un, .un, .un, .un, .un, .un]) _
  replace h := bse h; obtain ⟨⟨e_3, pot_3⟩, h_e_3, h⟩ := h
  dsimp only at h
  replace h := bse h; obtain ⟨⟨net, pot_4⟩, h_net, h⟩ := h
  dsimp only at h
  refine wseq (asg_u (callr_u (γ := [AV.r true false pot_4, AV.d names, .un, .un, .un, .un, .un, .un, .un, .un, .un, .un, .un, .un]) (acons_go rfl (acons_go (callr_u (γ := [AV.r true false pot_3, AV.d names, .un, .un, .un, .un, .un, .un, .un, .un, .un, .un, .un, .un]) (acons_go rfl (acons_go rfl rfl)) rfl (nodup_ix (is := [0]) rfl (by decide)) (uR1_eq h_e_3) (put1_u (i := 0) rfl rfl rfl rfl rfl rfl)) (acons_go rfl (acons_go rfl rfl)))) rfl (nodup_ix (is := [0]) rfl (by decide)) (uR1_eq h_net) (put1_u (i := 0) rfl rfl rfl rfl rfl rfl)) rfl (setD_go rfl rfl)) ?_
  show Wp ((_ : MS) [AV.r true false pot_4, AV.d names, AV.d net, .un, .un, .un, .un, .un, .un, .un, .un, .un, .un, .un]) _
  replace h := bse h; obtain ⟨xs, h_xs, h⟩ := h
  replace h := bse h; obtain ⟨⟨ys, pot_8⟩, h_ys, h⟩ := h
  try dsimp only at h
  replace h := bse h; obtain ⟨ys_1, h_ys_1, h⟩ := h
  replace h := bse h; obtain ⟨some_, h_some_, h⟩ := h
  refine wseq (asg_u (eop_go (ef_u (flst_u (acons_go rfl rfl) (oc rfl rfl) (Nat.le_of_ble_eq_true rfl))) (ef_u (flc_u (cm_s2 (γ := [AV.r true false pot_8, AV.d names, AV.d net, .un, .un, .un, .un, .un, .un, .un, .un, .un, .un, .un]) (fun pot_6 : Da => [AV.r true false pot_6, AV.d names, AV.d net, .un, .un, .un, .un, .un, .un, .un, .un, .un, .un, .un]) (irg1_u (acons_go rfl rfl) (rc rfl rfl) h_xs) (nr_cons rfl rfl nr_nil) rfl (fun way_1 => by (intro pot_6 y s' h; replace h := bse h; obtain ⟨⟨e_6, pot_7⟩, h_e_6, h⟩ := h; dsimp only at h; replace h := Option.some.inj h; replace h := Prod.mk.inj h; obtain ⟨h1, h⟩ := h; subst h1; subst h; exact ⟨_, true, _, (setD_go rfl rfl), rfl, fun _ => ⟨_, (mlc_u (callr_u (γ := [AV.r true false pot_7, AV.d names, AV.d net, AV.d way_1, .un, .un, .un, .un, .un, .un, .un, .un, .un, .un]) (acons_go rfl (acons_go rfl (acons_go rfl (acons_go rfl rfl)))) rfl (nodup_ix (is := [0]) rfl (by decide)) (uR1_eq h_e_6) (put1_u (i := 0) rfl rfl rfl rfl rfl rfl)) rfl), rfl⟩, fun z => Bool.noConfusion z⟩)) h_ys rfl) h_ys_1)) rfl rfl h_some_) rfl (setD_go rfl rfl)) ?_
  show Wp ((_ : MS) [AV.r true false pot_8, AV.d names, AV.d net, .un, AV.d some_, .un, .un, .un, .un, .un, .un, .un, .un, .un]) _
  replace h := bse h; obtain ⟨e_8, h_e_8, h⟩ := h
  replace h := bse h; obtain ⟨⟨e_9, pot_9⟩, h_e_9, h⟩ := h
  dsimp only at h
  replace h := bse h; obtain ⟨e_10, h_e_10, h⟩ := h
  replace h := bse h; obtain ⟨⟨e_11, pot_10⟩, h_e_11, h⟩ := h
  dsimp only at h
  replace h := bse h; obtain ⟨e_12, h_e_12, h⟩ := h
  replace h := bse h; obtain ⟨some__1, h_some__1, h⟩ := h
  refine wseq (asg_u (eop_go rfl (ef_u (flst_u (acons_go (callr_u (γ := [AV.r true false pot_9, AV.d names, AV.d net, .un, AV.d some_, .un, .un, .un, .un, .un, .un, .un, .un, .un]) (acons_go rfl (acons_go (eop_go rfl rfl rfl rfl h_e_8) (acons_go rfl (acons_go rfl rfl)))) rfl (nodup_ix (is := [0]) rfl (by decide)) (uR1_eq h_e_9) (put1_u (i := 0) rfl rfl rfl rfl rfl rfl)) (acons_go (callr_u (γ := [AV.r true false pot_10, AV.d names, AV.d net, .un, AV.d some_, .un, .un, .un, .un, .un, .un, .un, .un, .un]) (acons_go rfl (acons_go (eop_go rfl rfl rfl rfl h_e_10) (acons_go rfl (acons_go rfl rfl)))) rfl (nodup_ix (is := [0]) rfl (by decide)) (uR1_eq h_e_11) (put1_u (i := 0) rfl rfl rfl rfl rfl rfl)) (acons_go (tupN_go (acons_go (eop_go rfl rfl rfl rfl h_e_12) (acons_go (tupN_go rfl rfl (Nat.le_of_ble_eq_true rfl)) rfl)) (oc rfl (oc rfl rfl)) (Nat.le_of_ble_eq_true rfl)) rfl))) (oc rfl (oc rfl (oc rfl rfl))) (Nat.le_of_ble_eq_true rfl))) rfl rfl h_some__1) rfl (setD_go rfl rfl)) ?_
  show Wp ((_ : MS) [AV.r true false pot_10, AV.d names, AV.d net, .un, AV.d some__1, .un, .un, .un, .un, .un, .un, .un, .un, .un]) _
  refine wseq (asgR_u rfl rfl rfl) ?_
  show Wp ((_ : MS) [AV.r true false pot_10, AV.d names, AV.d net, .un, AV.d some__1, AV.r false false (Da.dt []), .un, .un, .un, .un, .un, .un, .un, .un]) _
  replace h := bse h; obtain ⟨xs_1, h_xs_1, h⟩ := h
  replace h := bse h; obtain ⟨o__1, hS, h⟩ := h
  refine seq_for_e (fun (s : Da) (i : Option Da × Option Da × Option Da × Option Da × Option Da × Option Da) => [AV.r true false pot_10, AV.d names, AV.d net, .un, AV.d some__1, AV.r false false s, sl i.1, sl i.2.1, sl i.2.2.1, sl i.2.2.2.1, sl i.2.2.2.2.1, sl i.2.2.2.2.2, .un, .un]) (fun r o => Qr (.one (.d r.1)) [AV.r fx false pot] [AV.r fx false r.2] o) (none, none, none, none, none, none) (ienl_u (acons_go rfl rfl) (oc rfl rfl) h_xs_1) rfl hS ?_ ?_ ?_
  · clear h hS
    intro q table_1 i o' h
    obtain ⟨i_, i__1, i__2, i__3, i__4, i__5⟩ := i
    try dsimp only at h
    replace h := bse h; obtain ⟨⟨at_, here⟩, h_u, h⟩ := h
    try dsimp only at h
    refine wg (gt2_u h_u (gs_c (setD_go rfl (sl_fix _)) (gs_c (setD_go rfl (sl_fix _)) gs_n))) ?_
    show Wp ((_ : MS) [AV.r true false pot_10, AV.d names, AV.d net, .un, AV.d some__1, AV.r false false table_1, AV.d at_, AV.d here, sl i__2, sl i__3, sl i__4, sl i__5, .un, .un]) _
    replace h := bse h; obtain ⟨xs_2, h_xs_2, h⟩ := h
    replace h := bse h; obtain ⟨o_, hS, h⟩ := h
    refine last_for_e (fun (s : Da) (i : Option Da × Option Da × Option Da × Option Da) => [AV.r true false pot_10, AV.d names, AV.d net, .un, AV.d some__1, AV.r false false s, AV.d at_, AV.d here, sl i.1, sl i.2.1, sl i.2.2.1, sl i.2.2.2, .un, .un]) (fun r o => Qr (.one (.d r.1)) [AV.r fx false pot] [AV.r fx false r.2] o) (i__2, i__3, i__4, i__5) (ienl_u (acons_go rfl rfl) (oc rfl rfl) h_xs_2) rfl hS ?_ ?_ ?_
    · clear h hS
      intro q_1 table_2 i o' h
      obtain ⟨i__6, i__7, i__8, i__9⟩ := i
      try dsimp only at h
      replace h := bse h; obtain ⟨⟨to, there⟩, h_u_1, h⟩ := h
      try dsimp only at h
      refine wg (gt2_u h_u_1 (gs_c (setD_go rfl (sl_fix _)) (gs_c (setD_go rfl (sl_fix _)) gs_n))) ?_
      show Wp ((_ : MS) [AV.r true false pot_10, AV.d names, AV.d net, .un, AV.d some__1, AV.r false false table_2, AV.d at_, AV.d here, AV.d to, AV.d there, sl i__8, sl i__9, .un, .un]) _
      replace h := bse h; obtain ⟨kept, h_kept, h⟩ := h
      replace h := bse h; obtain ⟨due, h_due, h⟩ := h
      refine wseq (par_u (acons_go (cb_u (acons_go (tupN_go (acons_go rfl (acons_go rfl rfl)) (oc rfl (oc rfl rfl)) (Nat.le_of_ble_eq_true rfl)) rfl) (rc rfl rfl) h_kept) (acons_go (call_u (asv := [AV.d here, AV.d there]) (acons_go rfl (acons_go rfl rfl)) rfl rfl h_due) rfl)) (oc rfl (oc rfl rfl)) (sds_c (setD_go rfl (sl_fix _)) (sds_c (setD_go rfl (sl_fix _)) sds_n))) ?_
      show Wp ((_ : MS) [AV.r true false pot_10, AV.d names, AV.d net, .un, AV.d some__1, AV.r false false table_2, AV.d at_, AV.d here, AV.d to, AV.d there, AV.d kept, AV.d due, .un, .un]) _
      replace h := bse h; obtain ⟨e_16, h_e_16, h⟩ := h
      replace h := bse h; obtain ⟨e_17, h_e_17, h⟩ := h
      replace h := bse h; obtain ⟨e_18, h_e_18, h⟩ := h
      replace h := bse h; obtain ⟨e_19, h_e_19, h⟩ := h
      replace h := bse h; obtain ⟨e_20, h_e_20, h⟩ := h
      replace h := bse h; obtain ⟨t, h_t, h⟩ := h
      replace h := csp h; rcases h with ⟨hb, h⟩ | ⟨hb, h⟩
      · refine wsif_t (tofe_u (eop_go (cb_u (acons_go (ef_u (flst_u (acons_go (call_u (asv := [AV.d here, AV.d there]) (acons_go rfl (acons_go rfl rfl)) rfl rfl h_e_16) (acons_go (callnp_u rfl (acons_go rfl (acons_go rfl rfl)) ⟨rfl, rfl⟩ rfl rfl h_e_17) rfl)) (oc rfl (oc rfl rfl)) (Nat.le_of_ble_eq_true rfl))) rfl) (rc rfl rfl) h_e_18) (cb_u (acons_go (ef_u (flst_u (acons_go rfl (acons_go rfl rfl)) (oc rfl (oc rfl rfl)) (Nat.le_of_ble_eq_true rfl))) rfl) (rc rfl rfl) h_e_19) rfl rfl h_e_20) rfl h_t) hb (wseq_x ?_)
        replace h := Option.some.inj h; subst h
        exact wret rfl ⟨(fun _ z => by cases z), ⟨⟨_, _, rfl⟩, qr_one rfl rfl⟩⟩
      · refine wsif_f (tofe_u (eop_go (cb_u (acons_go (ef_u (flst_u (acons_go (call_u (asv := [AV.d here, AV.d there]) (acons_go rfl (acons_go rfl rfl)) rfl rfl h_e_16) (acons_go (callnp_u rfl (acons_go rfl (acons_go rfl rfl)) ⟨rfl, rfl⟩ rfl rfl h_e_17) rfl)) (oc rfl (oc rfl rfl)) (Nat.le_of_ble_eq_true rfl))) rfl) (rc rfl rfl) h_e_18) (cb_u (acons_go (ef_u (flst_u (acons_go rfl (acons_go rfl rfl)) (oc rfl (oc rfl rfl)) (Nat.le_of_ble_eq_true rfl))) rfl) (rc rfl rfl) h_e_19) rfl rfl h_e_20) rfl h_t) hb ?_
        refine wseq_next ?_
        replace h := bse h; obtain ⟨t_3, h_t_3, h⟩ := h
        replace h := bse h; obtain ⟨t_5, h_t_5, h⟩ := h
        replace h := csp h; rcases h with ⟨hb, h⟩ | ⟨hb, h⟩
        · refine wsif_t (mor_b (mand_b (tru_u rfl rfl) (fun _ x h => by replace h := bse h; obtain ⟨e_21, h_e_21, h⟩ := h; replace h := bse h; obtain ⟨t_2, h_t_2, h⟩ := h; replace h := Option.some.inj h; subst h; exact (mand_b (tru_u (call_u (asv := [AV.d there, AV.d here]) (acons_go rfl (acons_go rfl rfl)) rfl rfl h_e_21) rfl) (fun _ x h => by replace h := bse h; obtain ⟨e_22, h_e_22, h⟩ := h; replace h := bse h; obtain ⟨t_1, h_t_1, h⟩ := h; replace h := Option.some.inj h; subst h; exact (tofe_u (eop_go rfl rfl rfl rfl h_e_22) rfl h_t_1)) h_t_2)) h_t_3) (fun _ x h => by replace h := bse h; obtain ⟨e_23, h_e_23, h⟩ := h; replace h := bse h; obtain ⟨e_24, h_e_24, h⟩ := h; replace h := bse h; obtain ⟨t_4, h_t_4, h⟩ := h; replace h := Option.some.inj h; subst h; exact (tofe_u (eop_go (cb_u (acons_go (tupN_go (acons_go rfl (acons_go rfl rfl)) (oc rfl (oc rfl rfl)) (Nat.le_of_ble_eq_true rfl)) rfl) (rc rfl rfl) h_e_23) rfl rfl rfl h_e_24) rfl h_t_4)) h_t_5) hb (wseq_x ?_)
          replace h := Option.some.inj h; subst h
          exact wret rfl ⟨(fun _ z => by cases z), ⟨⟨_, _, rfl⟩, qr_one rfl rfl⟩⟩
        · refine wsif_f (mor_b (mand_b (tru_u rfl rfl) (fun _ x h => by replace h := bse h; obtain ⟨e_21, h_e_21, h⟩ := h; replace h := bse h; obtain ⟨t_2, h_t_2, h⟩ := h; replace h := Option.some.inj h; subst h; exact (mand_b (tru_u (call_u (asv := [AV.d there, AV.d here]) (acons_go rfl (acons_go rfl rfl)) rfl rfl h_e_21) rfl) (fun _ x h => by replace h := bse h; obtain ⟨e_22, h_e_22, h⟩ := h; replace h := bse h; obtain ⟨t_1, h_t_1, h⟩ := h; replace h := Option.some.inj h; subst h; exact (tofe_u (eop_go rfl rfl rfl rfl h_e_22) rfl h_t_1)) h_t_2)) h_t_3) (fun _ x h => by replace h := bse h; obtain ⟨e_23, h_e_23, h⟩ := h; replace h := bse h; obtain ⟨e_24, h_e_24, h⟩ := h; replace h := bse h; obtain ⟨t_4, h_t_4, h⟩ := h; replace h := Option.some.inj h; subst h; exact (tofe_u (eop_go (cb_u (acons_go (tupN_go (acons_go rfl (acons_go rfl rfl)) (oc rfl (oc rfl rfl)) (Nat.le_of_ble_eq_true rfl)) rfl) (rc rfl rfl) h_e_23) rfl rfl rfl h_e_24) rfl h_t_4)) h_t_5) hb ?_
          refine wseq_next ?_
          replace h := bse h; obtain ⟨table_3, h_table_3, h⟩ := h
          replace h := Option.some.inj h; subst h
          exact wlast (setI_u rfl rfl (tupN_go (acons_go rfl (acons_go rfl rfl)) (oc rfl (oc rfl rfl)) (Nat.le_of_ble_eq_true rfl)) rfl rfl rfl h_table_3) ⟨((some to), (some there), (some kept), (some due)), Or.inl rfl⟩
    · intro s hk i
      replace h := lpL_go hk h
      generalize s = table_4 at *
      obtain ⟨i__10, i__11, i__12, i__13⟩ := i
      try dsimp only at h
      replace h := Option.some.inj h; subst h
      exact ⟨((some at_), (some here), i__10, i__11, i__12, i__13), Or.inl rfl⟩
    · intro r hk o ho hq
      subst hk
      change some _ = some _ at h
      replace h := Option.some.inj h; subst h
      exact ⟨ho, hq⟩
  · intro s hk i
    replace h := lpK_go hk h
    generalize s = table_5 at *
    obtain ⟨i__14, i__15, i__16, i__17, i__18, i__19⟩ := i
    try dsimp only at h
    show Wp ((_ : MS) [AV.r true false pot_10, AV.d names, AV.d net, .un, AV.d some__1, AV.r false false table_5, sl i__14, sl i__15, sl i__16, sl i__17, sl i__18, sl i__19, .un, .un]) _
    replace h := bse h; obtain ⟨e_25, h_e_25, h⟩ := h
    replace h := bse h; obtain ⟨xs_3, h_xs_3, h⟩ := h
    replace h := bse h; obtain ⟨o__3, hS, h⟩ := h
    refine seq_for_e (fun (s : Unit) (i : Option Da × Option Da × Option Da) => [AV.r true false pot_10, AV.d names, AV.d net, .un, AV.d some__1, AV.r false false table_5, sl i.1, sl i__15, sl i.2.1, sl i__17, sl i__18, sl i__19, .un, sl i.2.2]) (fun r o => Qr (.one (.d r.1)) [AV.r fx false pot] [AV.r fx false r.2] o) (i__14, i__16, none) (irg1_u (acons_go (cb_u (acons_go rfl rfl) (rc rfl rfl) h_e_25) rfl) (rc rfl rfl) h_xs_3) rfl hS ?_ ?_ ?_
    · clear h hS
      intro at__1 s i o' h
      obtain ⟨⟩ := s
      obtain ⟨i__20, i__21, i__22⟩ := i
      try dsimp only at h
      refine wg (setD_go rfl (sl_fix _)) ?_
      show Wp ((_ : MS) [AV.r true false pot_10, AV.d names, AV.d net, .un, AV.d some__1, AV.r false false table_5, AV.d at__1, sl i__15, sl i__21, sl i__17, sl i__18, sl i__19, .un, sl i__22]) _
      replace h := bse h; obtain ⟨e_26, h_e_26, h⟩ := h
      replace h := bse h; obtain ⟨xs_4, h_xs_4, h⟩ := h
      replace h := bse h; obtain ⟨o__2, hS, h⟩ := h
      refine last_for_e (fun (s : Unit) (i : Option Da × Option Da) => [AV.r true false pot_10, AV.d names, AV.d net, .un, AV.d some__1, AV.r false false table_5, AV.d at__1, sl i__15, sl i.1, sl i__17, sl i__18, sl i__19, .un, sl i.2]) (fun r o => Qr (.one (.d r.1)) [AV.r fx false pot] [AV.r fx false r.2] o) (i__21, i__22) (irg1_u (acons_go (cb_u (acons_go rfl rfl) (rc rfl rfl) h_e_26) rfl) (rc rfl rfl) h_xs_4) rfl hS ?_ ?_ ?_
      · clear h hS
        intro to_1 s i o' h
        obtain ⟨⟩ := s
        obtain ⟨i__23, i__24⟩ := i
        try dsimp only at h
        refine wg (setD_go rfl (sl_fix _)) ?_
        show Wp ((_ : MS) [AV.r true false pot_10, AV.d names, AV.d net, .un, AV.d some__1, AV.r false false table_5, AV.d at__1, sl i__15, AV.d to_1, sl i__17, sl i__18, sl i__19, .un, sl i__24]) _
        replace h := bse h; obtain ⟨e_27, h_e_27, h⟩ := h
        replace h := bse h; obtain ⟨xs_5, h_xs_5, h⟩ := h
        replace h := bse h; obtain ⟨ys_2, h_ys_2, h⟩ := h
        replace h := bse h; obtain ⟨ys_3, h_ys_3, h⟩ := h
        replace h := bse h; obtain ⟨later, h_later, h⟩ := h
        replace h_later := Option.some.inj h_later
        refine wseq (asg_u2 h_later (ef_u (flc_u (cm_u (W := [AV.r true false pot_10, AV.d names, AV.d net, .un, AV.d some__1, AV.r false false table_5, AV.d at__1, sl i__15, AV.d to_1, sl i__17, sl i__18, sl i__19, .un, sl i__24]) (irg1_u (acons_go (cb_u (acons_go rfl rfl) (rc rfl rfl) h_e_27) rfl) (rc rfl rfl) h_xs_5) (nr_cons rfl rfl nr_nil) rfl (fun last y h => by (replace h := bse h; obtain ⟨e_28, h_e_28, h⟩ := h; replace h := csp h; rcases h with ⟨hb, h⟩ | ⟨hb, h⟩; (replace h := Option.some.inj h; subst h; exact ⟨_, _, (setD_go rfl rfl), (tru_u (eop_go rfl (tupN_go (acons_go rfl (acons_go rfl rfl)) (oc rfl (oc rfl rfl)) (Nat.le_of_ble_eq_true rfl)) rfl rfl h_e_28) rfl), fun _ => (mlc_u rfl rfl), fun z => Bool.noConfusion (hb.symm.trans z), rfl⟩); (replace h := Option.some.inj h; subst h; exact ⟨_, _, (setD_go rfl rfl), (tru_u (eop_go rfl (tupN_go (acons_go rfl (acons_go rfl rfl)) (oc rfl (oc rfl rfl)) (Nat.le_of_ble_eq_true rfl)) rfl rfl h_e_28) rfl), fun z => Bool.noConfusion (hb.symm.trans z), fun _ => rfl, rfl⟩))) h_ys_2) h_ys_3)) rfl (setD_go rfl (sl_fix _))) ?_
        show Wp ((_ : MS) [AV.r true false pot_10, AV.d names, AV.d net, .un, AV.d some__1, AV.r false false table_5, AV.d at__1, sl i__15, AV.d to_1, sl i__17, sl i__18, sl i__19, .un, AV.d later]) _
        replace h := bse h; obtain ⟨e_29, h_e_29, h⟩ := h
        replace h := bse h; obtain ⟨t_6, h_t_6, h⟩ := h
        replace h := csp h; rcases h with ⟨hb, h⟩ | ⟨hb, h⟩
        · refine wif_t (mand_b (tru_u (eop_go rfl (tupN_go (acons_go rfl (acons_go rfl rfl)) (oc rfl (oc rfl rfl)) (Nat.le_of_ble_eq_true rfl)) rfl rfl h_e_29) rfl) (fun _ x h => by replace h := bse h; obtain ⟨xs_6, h_xs_6, h⟩ := h; replace h := bse h; obtain ⟨ys_4, h_ys_4, h⟩ := h; replace h := bse h; obtain ⟨ys_5, h_ys_5, h⟩ := h; replace h := bse h; obtain ⟨e_31, h_e_31, h⟩ := h; replace h := Option.some.inj h; subst h; exact (mnot_go (tru_u (cb_u (acons_go (ef_u (flc_u (cm_u (W := [AV.r true false pot_10, AV.d names, AV.d net, .un, AV.d some__1, AV.r false false table_5, AV.d at__1, sl i__15, AV.d to_1, sl i__17, sl i__18, sl i__19, .un, AV.d later]) (iany_u rfl rfl h_xs_6) (nr_cons rfl rfl nr_nil) rfl (fun last_1 y h => by (replace h := bse h; obtain ⟨e_30, h_e_30, h⟩ := h; replace h := Option.some.inj h; subst h; exact ⟨_, true, (setD_go rfl rfl), rfl, fun _ => (mlc_u (eop_go rfl (tupN_go (acons_go rfl (acons_go rfl rfl)) (oc rfl (oc rfl rfl)) (Nat.le_of_ble_eq_true rfl)) rfl rfl h_e_30) rfl), fun z => Bool.noConfusion z, rfl⟩)) h_ys_4) h_ys_5)) rfl) (rc rfl rfl) h_e_31) rfl))) h_t_6) hb ?_
          replace h := Option.some.inj h; subst h
          exact wret rfl ⟨⟨_, _, rfl⟩, qr_one rfl rfl⟩
        · refine wif_f (mand_b (tru_u (eop_go rfl (tupN_go (acons_go rfl (acons_go rfl rfl)) (oc rfl (oc rfl rfl)) (Nat.le_of_ble_eq_true rfl)) rfl rfl h_e_29) rfl) (fun _ x h => by replace h := bse h; obtain ⟨xs_6, h_xs_6, h⟩ := h; replace h := bse h; obtain ⟨ys_4, h_ys_4, h⟩ := h; replace h := bse h; obtain ⟨ys_5, h_ys_5, h⟩ := h; replace h := bse h; obtain ⟨e_31, h_e_31, h⟩ := h; replace h := Option.some.inj h; subst h; exact (mnot_go (tru_u (cb_u (acons_go (ef_u (flc_u (cm_u (W := [AV.r true false pot_10, AV.d names, AV.d net, .un, AV.d some__1, AV.r false false table_5, AV.d at__1, sl i__15, AV.d to_1, sl i__17, sl i__18, sl i__19, .un, AV.d later]) (iany_u rfl rfl h_xs_6) (nr_cons rfl rfl nr_nil) rfl (fun last_1 y h => by (replace h := bse h; obtain ⟨e_30, h_e_30, h⟩ := h; replace h := Option.some.inj h; subst h; exact ⟨_, true, (setD_go rfl rfl), rfl, fun _ => (mlc_u (eop_go rfl (tupN_go (acons_go rfl (acons_go rfl rfl)) (oc rfl (oc rfl rfl)) (Nat.le_of_ble_eq_true rfl)) rfl rfl h_e_30) rfl), fun z => Bool.noConfusion z, rfl⟩)) h_ys_4) h_ys_5)) rfl) (rc rfl rfl) h_e_31) rfl))) h_t_6) hb ?_
          replace h := Option.some.inj h; subst h
          exact wlast rfl ⟨((some to_1), (some later)), Or.inl rfl⟩
      · intro s hk i
        replace h := lpL_go hk h
        obtain ⟨⟩ := s
        obtain ⟨i__25, i__26⟩ := i
        try dsimp only at h
        replace h := Option.some.inj h; subst h
        exact ⟨((some at__1), i__25, i__26), Or.inl rfl⟩
      · intro r hk o ho hq
        subst hk
        change some _ = some _ at h
        replace h := Option.some.inj h; subst h
        exact ⟨ho, hq⟩
    · intro s hk i
      replace h := lpK_go hk h
      obtain ⟨⟩ := s
      obtain ⟨i__27, i__28, i__29⟩ := i
      try dsimp only at h
      show Wp ((_ : MS) [AV.r true false pot_10, AV.d names, AV.d net, .un, AV.d some__1, AV.r false false table_5, sl i__27, sl i__15, sl i__28, sl i__17, sl i__18, sl i__19, .un, sl i__29]) _
      replace h := bse h; obtain ⟨e_32, h_e_32, h⟩ := h
      replace h := bse h; obtain ⟨xs_7, h_xs_7, h⟩ := h
      replace h := bse h; obtain ⟨ys_6, h_ys_6, h⟩ := h
      replace h := bse h; obtain ⟨ys_7, h_ys_7, h⟩ := h
      replace h := bse h; obtain ⟨e_34, h_e_34, h⟩ := h
      replace h := bse h; obtain ⟨t_7, h_t_7, h⟩ := h
      replace h := bse h; obtain ⟨e_40, h_e_40, h⟩ := h
      replace h := Option.some.inj h; replace h := Prod.mk.inj h; obtain ⟨h1, h⟩ := h; subst h1; subst h
      exact wret_v (and_b (tofe_u (cb_u (acons_go (ef_u (flc_u (cm_u (W := [AV.r true false pot_10, AV.d names, AV.d net, .un, AV.d some__1, AV.r false false table_5, .un, sl i__15, sl i__28, sl i__17, sl i__18, sl i__19, .un, sl i__29]) (irg1_u (acons_go (cb_u (acons_go rfl rfl) (rc rfl rfl) h_e_32) rfl) (rc rfl rfl) h_xs_7) (nr_cons rfl (sl_root _) nr_nil) rfl (fun at__2 y h => by (replace h := bse h; obtain ⟨e_33, h_e_33, h⟩ := h; replace h := Option.some.inj h; subst h; exact ⟨_, true, (setD_go rfl rfl), rfl, fun _ => (mlc_u (eop_go rfl (tupN_go (acons_go rfl (acons_go rfl rfl)) (oc rfl (oc rfl rfl)) (Nat.le_of_ble_eq_true rfl)) rfl rfl h_e_33) rfl), fun z => Bool.noConfusion z, rfl⟩)) h_ys_6) h_ys_7)) rfl) (rc rfl rfl) h_e_34) rfl h_t_7) (fun _ x h => by replace h := bse h; obtain ⟨e_35, h_e_35, h⟩ := h; replace h := bse h; obtain ⟨t_8, h_t_8, h⟩ := h; replace h := bse h; obtain ⟨e_39, h_e_39, h⟩ := h; replace h := Option.some.inj h; subst h; exact (and_b (tofe_u (eop_go rfl (tupN_go (acons_go rfl (acons_go rfl rfl)) (oc rfl (oc rfl rfl)) (Nat.le_of_ble_eq_true rfl)) rfl rfl h_e_35) rfl h_t_8) (fun _ x h => by replace h := bse h; obtain ⟨e_36, h_e_36, h⟩ := h; replace h := bse h; obtain ⟨t_9, h_t_9, h⟩ := h; replace h := bse h; obtain ⟨e_38, h_e_38, h⟩ := h; replace h := Option.some.inj h; subst h; exact (and_b (tofe_u (eop_go rfl (tupN_go (acons_go rfl (acons_go rfl rfl)) (oc rfl (oc rfl rfl)) (Nat.le_of_ble_eq_true rfl)) rfl rfl h_e_36) rfl h_t_9) (fun _ x h => by replace h := bse h; obtain ⟨e_37, h_e_37, h⟩ := h; replace h := Option.some.inj h; subst h; exact ⟨_, (eop_go rfl (tupN_go (acons_go rfl (acons_go rfl rfl)) (oc rfl (oc rfl rfl)) (Nat.le_of_ble_eq_true rfl)) rfl rfl h_e_37), rfl⟩) h_e_38)) h_e_39)) h_e_40) (fun l o => qr_one o rfl)
    · intro r hk o ho hq
      subst hk
      change some _ = some _ at h
      replace h := Option.some.inj h; subst h
      exact hq
  · intro r hk o ho hq
    subst hk
    change some _ = some _ at h
    replace h := Option.some.inj h; subst h
    exact hq
noncomputable def u_law (script : List Int) : Option (Da) :=
 (fMin [(Da.int 4), (Da.int (script.length : Int))]).bind fun e =>
 (fMax [(Da.int 1), e]).bind fun e_1 =>
 (rg1U e_1).bind fun xs =>
 (flatU (fun k =>
 (uW F_law_pot [AV.sc script, AV.d k]).bind fun e_2 =>
 (uC F_law_right [AV.r false false e_2]).bind fun e_3 =>
 some [e_3]) xs).bind fun ys =>
 (limU ys).bind fun ys_1 =>
 (fAll [(Da.list ys_1)]).bind fun e_4 =>
 some e_4
theorem tx_law {script : List Int} {r : Da} (h : u_law script = some r) : F_law [AV.sc script] = some (.one (.d r), [AV.sc script]) := by
  unfold u_law at h
  refine def_u rfl ?_
  show Wp (m_law [AV.sc script, .un]) _
  unfold m_law
  replace h := bse h; obtain ⟨e, h_e, h⟩ := h
  replace h := bse h; obtain ⟨e_1, h_e_1, h⟩ := h
  replace h := bse h; obtain ⟨xs, h_xs, h⟩ := h
  replace h := bse h; obtain ⟨ys, h_ys, h⟩ := h
  replace h := bse h; obtain ⟨ys_1, h_ys_1, h⟩ := h
  replace h := bse h; obtain ⟨e_4, h_e_4, h⟩ := h
  replace h := Option.some.inj h; subst h
  exact wret (cb_u (acons_go (ef_u (flc_u (cm_u (W := [AV.sc script, .un]) (irg1_u (acons_go (cb_u (acons_go rfl (acons_go (cb_u (acons_go rfl (acons_go rfl rfl)) (rc rfl (rc rfl rfl)) h_e) rfl)) (rc rfl (rc rfl rfl)) h_e_1) rfl) (rc rfl rfl) h_xs) (nr_cons rfl rfl nr_nil) rfl (fun k y h => by (replace h := bse h; obtain ⟨e_2, h_e_2, h⟩ := h; replace h := bse h; obtain ⟨e_3, h_e_3, h⟩ := h; replace h := Option.some.inj h; subst h; exact ⟨_, true, (setD_go rfl rfl), rfl, fun _ => (mlc_u (callO_u (fcall_u (asv := [AV.sc script, AV.d k]) (acons_go rfl (acons_go rfl rfl)) rfl rfl h_e_2) h_e_3) rfl), fun z => Bool.noConfusion z, rfl⟩)) h_ys) h_ys_1)) rfl) (rc rfl rfl) h_e_4) (qr_one rfl rfl)
end K67
namespace Wo
open PySem PySem.Spec PyProof.Rows L2 Gk Vm Mth
def sixS : Str := "abcxyz"
def Sx (z : Str) : Prop := ∀ d ∈ z.cps.toList, d ∈ sixS.cps.toList
def qqS : Str := Str.ofString "qq"
def Nm2 (z : Str) : Prop := Nm z ∧ z ≠ qqS
theorem join_six {ys : List Str} (h : ∀ y ∈ ys, ∃ c, y = ⟨#[c]⟩ ∧ c ∈ sixS.cps.toList) :
    (Txt.join "" ys).length = ys.length ∧ ∀ c ∈ (Txt.join "" ys).cps.toList, c ∈ sixS.cps.toList := by
  rw [TL.join_eq]
  induction ys with
  | nil => exact ⟨rfl, fun c hc => absurd hc List.not_mem_nil⟩
  | cons y r ih =>
    obtain ⟨c, rfl, hc⟩ := h y (List.mem_cons_self ..)
    have ih := ih fun z hz => h z (List.mem_cons_of_mem _ hz)
    cases r with
    | nil => exact ⟨rfl, fun e he => by
        have : e = c := by simpa [Str.join] using he
        rw [this]; exact hc⟩
    | cons z r =>
      have e : Str.join "" (⟨#[c]⟩ :: z :: r) = (⟨#[c]⟩ ++ "" ++ Str.join "" (z :: r) : Str) := rfl
      rw [e]
      refine ⟨?_, fun e he => ?_⟩
      · rw [strLen_append, strLen_append, ih.1]
        show 1 + 0 + (r.length + 1) = r.length + 1 + 1
        omega
      · have q : ((⟨#[c]⟩ : Str) ++ "" ++ Str.join "" (z :: r)).cps.toList = c :: (Str.join "" (z :: r)).cps.toList := by
          show ((#[c] ++ #[]) ++ (Str.join "" (z :: r)).cps).toList = _
          simp
        rw [q] at he
        rcases List.mem_cons.mp he with z' | z'
        · rw [z']; exact hc
        · exact ih.2 e z'
theorem names1b {g r k : Int} (h : PotOk g r) : Wp (sAsg (eJoin (eC (.str (Str.ofString ""))) (eF (fLc (cmI (iRg1 (aCons (eCall F_law_take [] (aCons (eV 0) (aCons (eC (.int 6)) aNil))) aNil)) [7] (setD 7) tYesM (mLc (eCall F_law_of [] (aCons (eV 0) (aCons (eF (fListM (aCons (eC (.str (Str.ofString "abcxyz"))) aNil))) aNil)))))))) (setD 2) (pot true g r :: .d (.int k) :: un7))
    fun o => ∃ (z : Str) (g r : Int), o = .nx (pot true g r :: .d (.int k) :: .d (.str z) :: un6) ∧ PotOk g r ∧ (Ls 5 z ∧ Sx z) := by
  rw [wp_asg, wp_join, wp_eF]
  refine (stem_ok h).mono ?_
  rintro _ ⟨xs, g1, r1, rfl, p1, hl, hx⟩
  obtain ⟨ys, rfl, hy⟩ := signs_str (zs := (Str.ofString "abcxyz").cps.toList) hx
  have hy' : ∀ y ∈ ys, ∃ c, y = ⟨#[c]⟩ ∧ c ∈ lettersS.cps.toList := fun y m => let ⟨c, e, mc⟩ := hy y m; ⟨c, e, six_in c mc⟩
  obtain ⟨j1, j2⟩ := join_one hy'
  rw [List.length_map] at hl
  have hs := sum_ones hy'
  have e0 : ("" : Str).length = 0 := rfl
  have hc : (ys.map (·.length)).sum + ys.length * (Str.ofString "").length ≤ SLIM ∧ (Txt.join (Str.ofString "") ys).length ≤ SLIM := by
    rw [hs, show (Str.ofString "").length = 0 from rfl, show Txt.join (Str.ofString "") ys = Txt.join "" ys from rfl, j1]
    have : SLIM = 16000000 := rfl
    omega
  rw [show res (Prod.snd (Lc.d (Nw.da (Nw.r (Da.list (ys.map Da.str)))), pot true g1 r1 :: AV.d (Da.int k) :: un7)) (Lc.d (Nw.da (Nw.r (Da.list (ys.map Da.str))))) = some (Da.list (ys.map Da.str)) from rfl, wp_some]
  unfold fJoin
  simp only [itemsD, Option.bind_some, strsD_map]
  rw [if_pos hc, wp_some]
  (simp [↓wp_tag, ↓bind_tag, wpD_some, wpD_none, wpD_bind, bindD_some, bindD_none, mDef, startA, AV.fixd, sSeq, sIf, tOfE, eOp, eUn, eCB, aNil, aCons, eV, eC, eF, eTup, ownA, resA, res, AV.see, fSubs, Da.isDict, fIx, atI, ixN, fIB, fGt, fLt, fGe, fLe, fI, fAdd, fSub, fMul, fNeg, sAsg, sSetI, sAsgR, setR, Nw.av, Nw.da, rootAt, AV.asR, own, AV.get, fMod, fDiv, setD, setDa, sRet, sRetF, resRL, resL1, backP, AV.isRoot, AV.isFix, AV.flag, eCall, callM, argsOf, argOf, rootIx, putBack, isS, R1.da, Rv.da, fLen, fLenB, fLst, eScLen, eScIx, fLtA, fAbs, fInt, eBig, fPow, sNext, List.filterMap_cons, List.findIdx?_cons] <;> try simp only [wpD_back, bindD_back])
  exact ⟨_, _, _, ⟨⟨rfl, rfl⟩, rfl⟩, p1, ⟨by rw [show Txt.join (Str.ofString "") ys = Txt.join "" ys from rfl, j1]; exact hl, j2⟩, (join_six hy).2⟩
theorem q_six : ¬ (113 ∈ sixS.cps.toList) := by decide +kernel
theorem qq_cps : qqS.cps.toList = [113, 113] := by decide +kernel
theorem nm_mid2 {z : Str} {a : Int} {c : Nat} (hz : Ls 5 z) (hx : Sx z) (ha : 0 ≤ a) (hc : c ∈ lettersS.cps.toList) : Nm2 (cutS z none (some a) ++ ⟨#[c]⟩ ++ cutS z (some a) none) := by
  refine ⟨nm_mid hz ha hc, fun e => ?_⟩
  have q : (cutS z none (some a) ++ (⟨#[c]⟩ : Str) ++ cutS z (some a) none).cps.toList = (cutS z none (some a)).cps.toList ++ c :: (cutS z (some a) none).cps.toList := by
    show ((cutS z none (some a)).cps ++ #[c] ++ (cutS z (some a) none).cps).toList = _
    simp
  have h1 : ∀ d ∈ (cutS z none (some a)).cps.toList, d ∈ sixS.cps.toList := fun d m => hx d (List.mem_of_mem_drop (List.mem_of_mem_take m))
  have h2 : ∀ d ∈ (cutS z (some a) none).cps.toList, d ∈ sixS.cps.toList := fun d m => hx d (List.mem_of_mem_drop (List.mem_of_mem_take m))
  rw [e, qq_cps] at q
  generalize (cutS z none (some a)).cps.toList = pre at *
  generalize (cutS z (some a) none).cps.toList = post at *
  cases pre with
  | nil =>
    rw [List.nil_append] at q
    injection q with q1 q2
    exact q_six (h2 113 (by rw [← q2]; exact List.mem_singleton.mpr rfl))
  | cons x pre =>
    rw [List.cons_append] at q
    injection q with q1 q2
    exact q_six (h1 113 (by rw [q1]; exact List.mem_cons_self ..))
end Wo
namespace Wo
open PySem PySem.Spec PyProof.Rows L2 Gk Vm Mth
end Wo
namespace Wo
open PySem PySem.Spec PyProof.Rows L2 Gk Vm Mth
abbrev Kp := Nat × Str
def postP (p : PostS) : PyData := .tuple [.int (p.c : Int), .str p.nm, .tuple (p.arms.map fun b : Nat => PyData.int (b : Int))]
theorem toPy_post (p : PostS) : toPy (postT p) = some (postP p) := by
  unfold postT postP
  have h := toPys_nats p.arms
  simp only [toPy, toPys, natsT, h]
  rfl
theorem toPys_post : ∀ L : List PostS, toPys (L.map postT) = some (L.map postP)
  | [] => rfl
  | x :: L => by
    rw [List.map_cons]
    unfold toPys
    rw [toPys_post L, toPy_post]
    rfl
theorem alike_ns : ∀ as bs : List Nat, PySem.W.alikeAll (as.map fun b : Nat => PyData.int (b : Int)) (bs.map fun b : Nat => PyData.int (b : Int)) = true
  | [], _ => by simp [PySem.W.alikeAll]
  | _ :: _, [] => by simp [PySem.W.alikeAll]
  | a :: as, b :: bs => by
    rw [List.map_cons, List.map_cons]
    unfold PySem.W.alikeAll
    rw [alike_ns as bs, Bool.and_true]
    simp [PySem.W.alike]
theorem alike_post (p q : PostS) : PySem.W.alike (postP p) (postP q) = true := by
  unfold postP
  simp [PySem.W.alike, PySem.W.alikeAll, alike_ns]
def keyP (p : PostS) : Kp := (p.c, p.nm)
/-- every post is there too, with no arm that it had not -/
def Kno (posts posts' : List PostS) : Prop := ∀ p ∈ posts, ∃ q ∈ posts', q.c = p.c ∧ q.nm = p.nm ∧ ∀ d ∈ q.arms, d ∈ p.arms
end Wo
namespace Wo
open PySem PySem.Spec PyProof.Rows L2 Gk Vm Mth
end Wo
namespace Wo
open PySem PySem.Spec PyProof.Rows L2 Gk Vm Mth
mutual
/-- no dict stands in it, its texts are sound -/
def layD : Da → Bool
  | .none => true
  | .bool _ => true
  | .int _ => true
  | .str s => PyData.strOk s
  | .list xs => layA xs
  | .tuple xs => layA xs
  | .dk _ => false
  | .dt _ => false
def layA : List Da → Bool
  | [] => true
  | x :: xs => layD x && layA xs
end
mutual
/-- no truth stands in it -/
def nbD : Da → Bool
  | .bool _ => false
  | .list xs => nbA xs
  | .tuple xs => nbA xs
  | _ => true
def nbA : List Da → Bool
  | [] => true
  | x :: xs => nbD x && nbA xs
end
mutual
def pyD : Da → PyData
  | .none => .none
  | .bool b => .bool b
  | .int i => .int i
  | .str s => .str s
  | .list xs => .list (pyA xs)
  | .tuple xs => .tuple (pyA xs)
  | .dk _ => .none
  | .dt _ => .none
def pyA : List Da → List PyData
  | [] => []
  | x :: xs => pyD x :: pyA xs
end
mutual
theorem toPy_lay : ∀ {x : Da}, layD x = true → toPy x = some (pyD x) ∧ (pyD x).canLay0 = true
  | .none, _ => ⟨rfl, rfl⟩
  | .bool _, _ => ⟨rfl, rfl⟩
  | .int _, _ => ⟨rfl, rfl⟩
  | .str s, h => ⟨rfl, h⟩
  | .list xs, h => by
    obtain ⟨h1, h2⟩ := toPys_lay (xs := xs) h
    exact ⟨by simp only [toPy]; rw [h1]; rfl, h2⟩
  | .tuple xs, h => by
    obtain ⟨h1, h2⟩ := toPys_lay (xs := xs) h
    exact ⟨by simp only [toPy]; rw [h1]; rfl, h2⟩
  | .dk _, h => by cases h
  | .dt _, h => by cases h
theorem toPys_lay : ∀ {xs : List Da}, layA xs = true → toPys xs = some (pyA xs) ∧ PyData.canLayAll0 (pyA xs) = true
  | [], _ => ⟨rfl, rfl⟩
  | x :: xs, h => by
    simp only [layA, Bool.and_eq_true] at h
    obtain ⟨h1, h2⟩ := toPy_lay h.1
    obtain ⟨h3, h4⟩ := toPys_lay h.2
    refine ⟨by simp only [toPys]; rw [h1, Option.bind_some, h3]; rfl, ?_⟩
    simp only [pyA, PyData.canLayAll0]
    rw [h2, h4]
    rfl
end
mutual
theorem eqv_lay : ∀ {x y : Da}, layD x = true → layD y = true → nbD x = true → nbD y = true → (PyData.eqv (pyD x) (pyD y) = true ↔ x = y)
  | .none, y, _, hy, _, ny => by cases y <;> first | (simp [pyD, PyData.eqv]; done) | (simp [nbD] at ny; done) | (simp [layD] at hy; done)
  | .bool _, y, _, _, h, _ => by cases h
  | .int i, y, _, hy, _, ny => by cases y <;> first | (simp [pyD, PyData.eqv]; done) | (simp [nbD] at ny; done) | (simp [layD] at hy; done)
  | .str s, y, _, hy, _, ny => by cases y <;> first | (simp [pyD, PyData.eqv]; done) | (simp [nbD] at ny; done) | (simp [layD] at hy; done)
  | .list xs, y, hx, hy, nx, ny => by
    cases y with
    | list ys =>
      have := eqvA_lay (xs := xs) (ys := ys) hx hy nx ny
      simp only [pyD, PyData.eqv]
      rw [this]
      exact ⟨fun h => by rw [h], fun h => by cases h; rfl⟩
    | _ => first | (simp [pyD, PyData.eqv]; done) | (simp [nbD] at ny; done) | (simp [layD] at hy; done)
  | .tuple xs, y, hx, hy, nx, ny => by
    cases y with
    | tuple ys =>
      have := eqvA_lay (xs := xs) (ys := ys) hx hy nx ny
      simp only [pyD, PyData.eqv]
      rw [this]
      exact ⟨fun h => by rw [h], fun h => by cases h; rfl⟩
    | _ => first | (simp [pyD, PyData.eqv]; done) | (simp [nbD] at ny; done) | (simp [layD] at hy; done)
  | .dk _, y, h, _, _, _ => by cases h
  | .dt _, y, h, _, _, _ => by cases h
theorem eqvA_lay : ∀ {xs ys : List Da}, layA xs = true → layA ys = true → nbA xs = true → nbA ys = true → (PyData.eqvAll (pyA xs) (pyA ys) = true ↔ xs = ys)
  | [], [], _, _, _, _ => by simp [pyA, PyData.eqvAll]
  | [], _ :: _, _, _, _, _ => by simp [pyA, PyData.eqvAll]
  | _ :: _, [], _, _, _, _ => by simp [pyA, PyData.eqvAll]
  | x :: xs, y :: ys, hx, hy, nx, ny => by
    simp only [layA, nbA, Bool.and_eq_true] at hx hy nx ny
    have h1 := eqv_lay hx.1 hy.1 nx.1 ny.1
    have h2 := eqvA_lay hx.2 hy.2 nx.2 ny.2
    simp only [pyA, PyData.eqvAll, Bool.and_eq_true]
    rw [h1, h2]
    exact ⟨fun h => by rw [h.1, h.2], fun h => by cases h; exact ⟨rfl, rfl⟩⟩
end
/-- may be compared -/
structure LayD (x : Da) (k : Nat) : Prop where
  ok : layD x = true
  dp : (pyD x).depth ≤ k
theorem layA_of : ∀ {xs : List Da}, (∀ x ∈ xs, layD x = true) → layA xs = true
  | [], _ => rfl
  | x :: xs, h => by
    simp only [layA]
    rw [h x (List.mem_cons_self ..), layA_of fun y m => h y (List.mem_cons_of_mem _ m)]
    rfl
theorem nbA_of : ∀ {xs : List Da}, (∀ x ∈ xs, nbD x = true) → nbA xs = true
  | [], _ => rfl
  | x :: xs, h => by
    simp only [nbA]
    rw [h x (List.mem_cons_self ..), nbA_of fun y m => h y (List.mem_cons_of_mem _ m)]
    rfl
theorem depA_of {k : Nat} : ∀ {xs : List Da}, (∀ x ∈ xs, (pyD x).depth ≤ k) → PyData.depthAll (pyA xs) ≤ k
  | [], _ => Nat.zero_le _
  | x :: xs, h => by
    have h1 := h x (List.mem_cons_self ..)
    have h2 := depA_of (xs := xs) fun y m => h y (List.mem_cons_of_mem _ m)
    simp only [pyA, PyData.depthAll]
    omega
theorem lay_tup {xs : List Da} {k : Nat} (h : ∀ x ∈ xs, LayD x k) : LayD (.tuple xs) (k + 1) := ⟨layA_of fun x m => (h x m).ok, by
  have := depA_of fun x m => (h x m).dp
  simp only [pyD, PyData.depth]
  omega⟩
theorem lay_list {xs : List Da} {k : Nat} (h : ∀ x ∈ xs, LayD x k) : LayD (.list xs) (k + 1) := ⟨layA_of fun x m => (h x m).ok, by
  have := depA_of fun x m => (h x m).dp
  simp only [pyD, PyData.depth]
  omega⟩
theorem LayD.mono {x : Da} {k m : Nat} (h : LayD x k) (hk : k ≤ m) : LayD x m := ⟨h.ok, Nat.le_trans h.dp hk⟩
theorem lay_int (i : Int) : LayD (.int i) 0 := ⟨rfl, Nat.le_refl _⟩
theorem lay_str {s : Str} (h : PyData.strOk s = true) : LayD (.str s) 0 := ⟨h, Nat.le_refl _⟩
theorem lay_natsT (L : List Nat) : LayD (natsT L) 1 := lay_tup fun x m => by
  obtain ⟨b, _, rfl⟩ := List.mem_map.mp m
  exact lay_int _
theorem nb_natsT (L : List Nat) : nbD (natsT L) = true := nbA_of fun x m => by
  obtain ⟨b, _, rfl⟩ := List.mem_map.mp m
  rfl
theorem LayD.sh {x : Da} {k : Nat} (h : LayD x k) (hk : k ≤ 64) : toPy x = some (pyD x) ∧ SeqAt.shaped (pyD x) = true := by
  obtain ⟨h1, h2⟩ := toPy_lay h.ok
  refine ⟨h1, ?_⟩
  unfold SeqAt.shaped
  rw [h2, decide_eq_true (Nat.le_trans h.dp hk)]
  rfl
open Classical in
theorem eqP_lay {x y : Da} {k m : Nat} (hx : LayD x k) (hy : LayD y m) (hk : k ≤ 64) (hm : m ≤ 64) (nx : nbD x = true) (ny : nbD y = true) : fEqP x y = some (decide (x = y)) := by
  have e : PyData.eqv (pyD x) (pyD y) = decide (x = y) := by
    rw [Bool.eq_iff_iff, eqv_lay hx.ok hy.ok nx ny, decide_eq_true_iff]
  unfold fEqP
  cases hs : strs2 x y with
  | some b =>
    obtain ⟨p, q, rfl, rfl, rfl⟩ := strs2_some hs
    have e : (p == q) = decide (Da.str p = Da.str q) := by
      rw [Bool.eq_iff_iff, beq_iff_eq, decide_eq_true_iff]
      exact ⟨fun h => by rw [h], fun h => by cases h; rfl⟩
    rw [Option.some_or, e]
  | none => rw [Option.none_or, (hx.sh hk).1, Option.bind_some, (hy.sh hm).1, Option.bind_some, if_pos ⟨(hx.sh hk).2, (hy.sh hm).2⟩, e]
open Classical in
theorem eq_lay {x y : Da} {k m : Nat} (hx : LayD x k) (hy : LayD y m) (hk : k ≤ 64) (hm : m ≤ 64) (nx : nbD x = true) (ny : nbD y = true) : fEqS x y = some (.bool (decide (x = y))) := by
  unfold fEqS
  rw [eqP_lay hx hy hk hm nx ny]
  rfl
theorem selfP {x : Da} {k : Nat} (hx : LayD x k) (hk : k ≤ 64) : fEqP x x = some true := by
  unfold fEqP
  cases hs : strs2 x x with
  | some b =>
    obtain ⟨p, q, rfl, e, rfl⟩ := strs2_some hs
    cases e
    rw [Option.some_or, beq_self_eq_true]
  | none => rw [Option.none_or, (hx.sh hk).1, Option.bind_some, Option.bind_some, if_pos ⟨(hx.sh hk).2, (hx.sh hk).2⟩, SeqAt.eqv_refl _ (toPy_lay hx.ok).2]
theorem self_eq {x : Da} {k : Nat} (hx : LayD x k) (hk : k ≤ 64) : fEqS x x = some (.bool true) := by
  unfold fEqS
  rw [selfP hx hk]
  rfl
theorem self_ne {x : Da} {k : Nat} (hx : LayD x k) (hk : k ≤ 64) : fNeS x x = some (.bool false) := by
  unfold fNeS
  rw [selfP hx hk]
  rfl
end Wo
namespace Wo
open PySem PySem.Spec PyProof.Rows L2 Gk Vm Mth
structure ShT (d : PyData) (k n : Nat) : Prop where
  ok : d.showable = true
  deep : d.depth ≤ k
  size : d.shown.length ≤ n
def ShY (x : Da) (k n : Nat) : Prop := ∃ d, toPyY x = some d ∧ ShT d k n
theorem ShY.mono {x : Da} {k n k' n' : Nat} (h : ShY x k n) (hk : k ≤ k') (hn : n ≤ n') : ShY x k' n' := let ⟨d, e, s⟩ := h; ⟨d, e, s.ok, Nat.le_trans s.deep hk, Nat.le_trans s.size hn⟩
end Wo
namespace Wo
open PySem PySem.Spec PyProof.Rows L2 Gk Vm Mth
end Wo
namespace Wo
open PySem PySem.Spec PyProof.Rows L2 Gk Vm
end Wo
namespace Wo
open PySem PySem.Spec PyProof.Rows L2 Gk Vm Mth
structure AskOk (m : Nat) (ways : List Way) (goods : List Nat) (rows : List (Str × List Nat)) : Prop where
  m16 : m ≤ 16
  wnd : ways.Nodup
  wl : ways.length ≤ 60
  wb : ∀ x ∈ ways, x.1 < m ∧ x.2.2 < m
  gd : goods.Nodup ∧ ∀ g ∈ goods, g < m
  rn : (rows.map (·.1)).Nodup
  rf : (rows.flatMap (·.2)).Nodup
  rb : ∀ r ∈ rows, ∀ t ∈ r.2, t < m
  rl : rows.length ≤ 100
  cov : ∀ x ∈ ways, ∃ ts, (x.2.1, ts) ∈ rows ∧ x.2.2 ∈ ts
section
variable {n m : Nat} {posts : List PostS} {ways : List Way} {goods ends : List Nat} {rows : List (Str × List Nat)} {w : List Nat} {o : Option (List Nat)}
theorem row_in : ∀ {rows : List (Str × List Nat)}, (rows.flatMap (·.2)).Nodup → ∀ {r q : Str × List Nat} {t : Nat}, r ∈ rows → q ∈ rows → t ∈ r.2 → t ∈ q.2 → r = q
  | [], _, r, q, t, mr, _, _, _ => (List.not_mem_nil mr).elim
  | a :: rows, nd, r, q, t, mr, mq, tr, tq => by
    rw [List.flatMap_cons, List.nodup_append] at nd
    obtain ⟨_, n2, n3⟩ := nd
    rcases List.mem_cons.mp mr with e1 | mr2
    · rcases List.mem_cons.mp mq with e2 | mq2
      · rw [e1, e2]
      · exact (n3 t (e1 ▸ tr) t (List.mem_flatMap.mpr ⟨q, mq2, tq⟩) rfl).elim
    · rcases List.mem_cons.mp mq with e2 | mq2
      · exact (n3 t (e2 ▸ tq) t (List.mem_flatMap.mpr ⟨r, mr2, tr⟩) rfl).elim
      · exact row_in n2 mr2 mq2 tr tq
theorem AskOk.one (a : AskOk m ways goods rows) : ∀ w ∈ ways, ∀ v ∈ ways, w.1 = v.1 → w.2.2 = v.2.2 → w = v := by
  rintro ⟨s, R, t⟩ mw ⟨s', R', t'⟩ mv e1 e2
  dsimp only at e1 e2
  subst e1 e2
  obtain ⟨ts, m1, h1⟩ := a.cov _ mw
  obtain ⟨us, m2, h2⟩ := a.cov _ mv
  have := row_in a.rf m1 m2 h1 h2
  injection this with e3 _
  dsimp only at e3
  rw [e3]
def ArmA (ways : List Way) (M : List Pl) (p : PostS) (d : Nat) : Prop := d ∈ p.arms ∧ ∀ s t, (s, p.nm, t) ∈ ways → (d, t) ∈ M → (p.c, s) ∈ M
/-- the worst world, post by post -/
def WorstA (ways : List Way) (M : List Pl) : List PostS → List Nat → Prop
  | [], [] => True
  | p :: ps, d :: w => ArmA ways M p d ∧ WorstA ways M ps w
  | _, _ => False
theorem WorstA.zip {M : List Pl} : ∀ {posts : List PostS} {w : List Nat}, WorstA ways M posts w → ∀ x ∈ posts.zip w, ArmA ways M x.1 x.2
  | [], _, _, x, m => by simp at m
  | _ :: _, [], h, _, _ => h.elim
  | p :: ps, d :: w, h, x, m => by
    rw [List.zip_cons_cons] at m
    rcases List.mem_cons.mp m with rfl | m
    · exact h.1
    · exact WorstA.zip h.2 x m
end
end Wo
namespace Wo
open PySem PySem.Spec PyProof.Rows L2 Gk Vm Mth
section
variable {n n2 k : Nat} {posts posts2 : List PostS} {w : List Nat} {word : List Str} {names : List Str}
theorem add_ll {xs ys : List Da} (h : xs.length + ys.length ≤ LIM) : fAdd (.list xs) (.list ys) = some (.list (xs ++ ys)) := if_pos h
theorem intsD_app {a b : List Nat} : intsD (a ++ b) = intsD a ++ intsD b := List.map_append ..
theorem nodup_of {τ υ : Type} {f : τ → υ} : ∀ {L : List τ}, (L.map f).Nodup → L.Nodup
  | [], _ => .nil
  | x :: L, h => by
    rw [List.map_cons, List.nodup_cons] at h
    exact List.nodup_cons.mpr ⟨fun m => h.1 (List.mem_map_of_mem m), nodup_of h.2⟩
theorem range_at : ∀ {done rest : List Nat} {c k : Nat}, done ++ c :: rest = List.range k → c = done.length ∧ c < k := by
  intro done rest c k h
  have h1 : (List.range k)[done.length]? = some c := by
    rw [← h, List.getElem?_append_right (Nat.le_refl _), Nat.sub_self]
    rfl
  have h2 : done.length < k := by
    have := congrArg List.length h
    rw [List.length_append, List.length_cons, List.length_range] at this
    omega
  rw [List.getElem?_range h2] at h1
  cases h1
  exact ⟨rfl, h2⟩
theorem keysA_n : ∀ zs : List Nat, keysA (intsD zs) = some (zs.map kN)
  | [] => rfl
  | z :: zs => by
    show keysA (Da.int (z : Int) :: intsD zs) = _
    unfold keysA
    rw [show keyD (.int (z : Int)) = some (kN z) from rfl, Option.bind_some, keysA_n zs]
    rfl
theorem key_len {F : List PostS} (nd : (F.map keyP).Nodup) (h : ∀ q ∈ F, q.c < k ∧ q.nm ∈ names) : F.length ≤ k * names.length := by
  have := nodup_le (m := (List.range k).flatMap fun c => names.map fun z => (c, z)) nd fun x mx => by
    obtain ⟨q, mq, rfl⟩ := List.mem_map.mp mx
    exact List.mem_flatMap.mpr ⟨q.c, List.mem_range.mpr (h q mq).1, List.mem_map.mpr ⟨q.nm, (h q mq).2, rfl⟩⟩
  rw [List.length_map] at this
  refine Nat.le_trans this (Nat.le_of_eq ?_)
  have : ∀ L : List Nat, (L.flatMap fun c => names.map fun z => (c, z)).length = L.length * names.length := by
    intro L
    induction L with
    | nil => simp
    | cons x L ih => rw [List.flatMap_cons, List.length_append, List.length_map, ih, List.length_cons, Nat.add_mul]; omega
  rw [this, List.length_range]
end
end Wo
namespace Wo
open PySem PySem.Spec PyProof.Rows L2 Gk Vm Mth
abbrev PA := PostS × Nat
theorem ne_il (A : List Nat) : fNeS (.list (intsD A)) (.list []) = some (.bool (!A.isEmpty)) := by
  unfold fNeS fEqP intsD
  have h1 : toPy (.list (A.map fun b : Nat => Da.int (b : Int))) = some (.list (A.map fun g : Nat => PyData.int (g : Int))) := by
    unfold toPy
    rw [toPys_nats]
    rfl
  have h2 : SeqAt.shaped (.list (A.map fun g : Nat => PyData.int (g : Int))) = true := by
    simp [SeqAt.shaped, PyData.canLay0, lay_nats, PyData.depth, dep_nats]
  rw [show strs2 (.list (A.map fun b : Nat => Da.int (b : Int))) (.list []) = none from rfl, Option.none_or, h1, Option.bind_some, show toPy (.list []) = some (.list []) from rfl, Option.bind_some, if_pos ⟨h2, rfl⟩]
  cases A <;> rfl
end Wo
namespace Wo
open PySem PySem.Spec PyProof.Rows L2 Gk Vm Mth
def sLe (a b : Str) : Prop := leD PyData.str a b = true
def sLt (a b : Str) : Prop := itemLt (.inr a.cps.toList) (.inr b.cps.toList) = true
theorem sort_strs_pw (zs : List Str) : Wp (sortD (zs.map Da.str)) fun ys => ∃ ws : List Str, ys = ws.map Da.str ∧ ws.Perm zs ∧ ws.Pairwise sLe := by
  have hc : PySem.W.AllAlike (zs.map PyData.str) ∧ PySem.W.Sortable (zs.map PyData.str) ∧ ∀ d ∈ zs.map PyData.str, d.depth ≤ 64 := by
    refine ⟨PySem.W.AllAlike.of fun b b' => rfl, PySem.W.Sortable.others fun b => ⟨fun z => PyData.noConfusion z, fun xs z => PyData.noConfusion z⟩, fun d hd => ?_⟩
    obtain ⟨z, _, rfl⟩ := List.mem_map.mp hd
    exact Nat.zero_le _
  have e : (zs.map Da.str).zip (zs.map PyData.str) = zs.map fun z => (Da.str z, PyData.str z) := by
    clear hc
    induction zs with
    | nil => rfl
    | cons z zs ih => rw [List.map_cons, List.map_cons, List.zip_cons_cons, ih, List.map_cons]
  refine ⟨_, ?_, sortBy PyData.str zs, rfl, sortBy_perm .., sortBy_pw ..⟩
  unfold sortD
  rw [toPys_strs, Option.bind_some, if_pos hc, e, merge_map, List.map_map]
  rfl
theorem sLt_of {a b : Str} (h : sLe a b) (n : a ≠ b) : sLt a b := by
  unfold sLe leD PySem.W.dataLe PySem.W.sortLe at h
  simp only [cond_false, Bool.not_eq_true'] at h
  have h' : PyProof.Rows.lexLt itemOrd [.inr b.cps.toList] [.inr a.cps.toList] = false := h
  have h1 := (lex_false.mp h').1
  unfold sLt
  cases h2 : itemLt (.inr a.cps.toList) (.inr b.cps.toList) with
  | true => rfl
  | false =>
    have := itemOrd.total _ _ h2 h1
    injection this with this
    exact (n (by
      cases a
      cases b
      congr 1
      exact Array.toList_inj.mp this)).elim
theorem sLt_pw : ∀ {zs : List Str}, zs.Pairwise sLe → zs.Nodup → zs.Pairwise sLt
  | [], _, _ => .nil
  | z :: zs, h, n => by
    rw [List.pairwise_cons] at h
    rw [List.nodup_cons] at n
    exact .cons (fun y m => sLt_of (h.1 y m) fun e => n.1 (e ▸ m)) (sLt_pw h.2 n.2)
theorem names4s {g r a b c : Int} {k : Nat} {z : Str} {ys : List Nat} (hz : Ls 5 z) (hx : Sx z) (ha : 0 ≤ a) (hk : ys.length ≤ 26) (hy : ∀ c ∈ ys, c ∈ lettersS.cps.toList) :
    Wp (sRet (eF (fSortM (aCons (eF (fLc (cmI (iAny (eV 6)) [8] (setD 8) tYesM (mLc (eOp fAdd (eOp fAdd (eSl (eV 2) oNone (oSome (eV 3))) (eV 8)) (eSl (eV 2) (oSome (eV 3)) oNone)))))) aNil))) [pot true g r, .d (.int (k : Int)), .d (.str z), .d (.int a), .d (.int b), .d (.int c), .d (.list (ys.map fun c => .str ⟨#[c]⟩)), .un, .un])
      fun o => ∃ (zs : List Str) (α : AS), o = .rt (.one (.d (.list (zs.map Da.str)))) (pot true g r :: α) ∧ zs.length = ys.length ∧ (∀ z ∈ zs, Nm2 z) ∧ (ys.Nodup → zs.Nodup) ∧ zs.Pairwise sLe := by
  rw [wp_ret, wp_eF, wp_sort, wp_aCons, wp_eF]
  refine lc_go (St := fun _ : Unit => [pot true g r, .d (.int (k : Int)), .d (.str z), .d (.int a), .d (.int b), .d (.int c), .d (.list (ys.map fun c => .str ⟨#[c]⟩)), .un, .un]) (OK := fun _ => True) (P := fun x y => ∃ w, x = .str w ∧ y = .str (cutS z none (some a) ++ w ++ cutS z (some a) none) ∧ Nm2 (cutS z none (some a) ++ w ++ cutS z (some a) none)) (s := ()) (list_go (i := 6) rfl) trivial (noRoots_of rfl) rfl (by rw [List.length_map]; have : LIM = 1000000 := rfl; omega) ?_ ?_
  · intro y m _ _
    obtain ⟨d, md, rfl⟩ := List.mem_map.mp m
    have nm := nm_mid2 hz hx ha (hy d md)
    have l1 := (hz.cut none (some a)).1
    have l2 := (hz.cut (some a) none).1
    have s1 : (cutS z none (some a)).length ≤ SLIM := Nat.le_trans l1 (by decide)
    have s2 : (cutS z (some a) none).length ≤ SLIM := Nat.le_trans l2 (by decide)
    have o1 : (⟨#[d]⟩ : Str).length = 1 := rfl
    have s3 : (cutS z none (some a) ++ (⟨#[d]⟩ : Str)).length ≤ SLIM ∧ (cutS z none (some a)).length + (⟨#[d]⟩ : Str).length ≤ SLIM := by
      rw [strLen_append, o1]
      have : SLIM = 16000000 := rfl
      omega
    have s4 : (cutS z none (some a) ++ (⟨#[d]⟩ : Str) ++ cutS z (some a) none).length ≤ SLIM ∧ (cutS z none (some a) ++ (⟨#[d]⟩ : Str)).length + (cutS z (some a) none).length ≤ SLIM := by
      rw [strLen_append, strLen_append, o1]
      have : SLIM = 16000000 := rfl
      omega
    generalize hw : (⟨#[d]⟩ : Str) = w at *
    (simp [↓wp_tag, ↓bind_tag, wpD_some, wpD_none, wpD_bind, bindD_some, bindD_none, mDef, startA, AV.fixd, sSeq, sIf, tOfE, eOp, eUn, eCB, aNil, aCons, eV, eC, eF, eTup, ownA, resA, res, AV.see, fSubs, Da.isDict, fIx, atI, ixN, fIB, fGt, fLt, fGe, fLe, fI, fAdd, fSub, fMul, fNeg, sAsg, sSetI, sAsgR, setR, Nw.av, Nw.da, rootAt, AV.asR, own, AV.get, fMod, fDiv, setD, setDa, sRet, sRetF, resRL, resL1, backP, AV.isRoot, AV.isFix, AV.flag, eCall, callM, argsOf, argOf, rootIx, putBack, isS, R1.da, Rv.da, fLen, fLenB, fLst, eScLen, eScIx, fLtA, fAbs, fInt, eBig, fPow, sNext, List.filterMap_cons, List.findIdx?_cons, eSl, oNone, oSome, fSl, s1, s2, s3, s4, wipeA] <;> try simp only [wpD_back, bindD_back])
    exact nm
  · rintro ws _ _ pr
    have h2 := paired_len pr
    rw [List.length_map] at h2
    obtain ⟨rfl, h3⟩ : ws = (ys.map fun d => cutS z none (some a) ++ (⟨#[d]⟩ : Str) ++ cutS z (some a) none).map Da.str ∧ ∀ x ∈ ys.map (fun d => cutS z none (some a) ++ (⟨#[d]⟩ : Str) ++ cutS z (some a) none), Nm2 x := by
      clear h2 hy hk
      induction ys generalizing ws with
      | nil => cases pr; exact ⟨rfl, fun c m => (List.not_mem_nil m).elim⟩
      | cons y ys ih =>
        rw [List.map_cons] at pr
        cases pr with
        | cons h t =>
          obtain ⟨w, e1, e2, e3⟩ := h
          injection e1 with e1
          subst e1
          obtain ⟨h4, h5⟩ := ih _ t
          refine ⟨by rw [List.map_cons, List.map_cons, e2, h4], fun d m => ?_⟩
          rw [List.map_cons] at m
          rcases List.mem_cons.mp m with rfl | m
          · exact e3
          · exact h5 d m
    rw [List.length_map] at h2
    rw [wp_aNil]
    refine ⟨_, rfl, ?_⟩
    refine (sort_strs_pw _).mono ?_
    rintro _ ⟨us, rfl, pm, pw⟩
    refine ⟨us, _, rfl, ?_, fun u m => h3 u (pm.mem_iff.mp m), fun nd => pm.nodup_iff.mpr ?_, pw⟩
    · rw [pm.length_eq]
      exact h2.symm
    · refine List.Pairwise.map _ (fun d e hde heq => hde ?_) nd
      have q : ∀ d : Nat, (cutS z none (some a) ++ (⟨#[d]⟩ : Str) ++ cutS z (some a) none).cps.toList = (cutS z none (some a)).cps.toList ++ d :: (cutS z (some a) none).cps.toList := fun d => by
        show ((cutS z none (some a)).cps ++ #[d] ++ (cutS z (some a) none).cps).toList = _
        simp
      have h4 := congrArg (fun x : Str => x.cps.toList) heq
      have h4' : (cutS z none (some a) ++ (⟨#[d]⟩ : Str) ++ cutS z (some a) none).cps.toList = (cutS z none (some a) ++ (⟨#[e]⟩ : Str) ++ cutS z (some a) none).cps.toList := h4
      rw [q, q] at h4'
      have h5 := List.append_cancel_left h4'
      injection h5
theorem names_oks {fx : Bool} {g r : Int} {k : Nat} (h : PotOk g r) (hk : k ≤ 26) : Wp (F_law_names [pot fx g r, .d (.int (k : Int))]) fun y => ∃ (zs : List Str) (g r : Int), y = (.one (.d (.list (zs.map Da.str))), [pot fx g r, .d (.int (k : Int))]) ∧ PotOk g r ∧ zs.length = k ∧ (∀ z ∈ zs, Nm2 z) ∧ zs.Nodup ∧ zs.Pairwise sLe := by
  have key : Wp (m_law_names (pot true g r :: .d (.int (k : Int)) :: un7)) fun o => ∃ (zs : List Str) (g r : Int) (α : AS), o = .rt (.one (.d (.list (zs.map Da.str)))) (pot true g r :: α) ∧ PotOk g r ∧ zs.length = k ∧ (∀ z ∈ zs, Nm2 z) ∧ zs.Nodup ∧ zs.Pairwise sLe := by
    unfold m_law_names
    rw [wp_seq]
    refine (names1b h).mono ?_
    rintro _ ⟨z, g1, r1, rfl, p1, hz, hx6⟩
    dsimp only
    rw [wp_seq]
    refine (names2 p1 hz).mono ?_
    rintro _ ⟨a, b, c, g2, r2, rfl, p2, a0, b0, b1, c0, c1, codd⟩
    dsimp only
    rw [wp_seq]
    refine (names3 hk c0 c1 codd).mono ?_
    rintro _ ⟨ys, rfl, hl, hy, hyn⟩
    dsimp only
    refine (names4s (k := k) hz hx6 a0 (by omega) hy).mono ?_
    rintro _ ⟨zs, α, rfl, h1, h2, h2n, h2p⟩
    exact ⟨zs, g2, r2, α, rfl, p2, h1.trans hl, h2, h2n hyn, h2p⟩
  obtain ⟨o, e, zs, g1, r1, α, rfl, p, h1, h2⟩ := key
  refine ⟨_, ?_, zs, g1, r1, rfl, p, h1, h2⟩
  (simp [↓wp_tag, ↓bind_tag, wpD_some, wpD_none, wpD_bind, bindD_some, bindD_none, mDef, startA, AV.fixd, sSeq, sIf, tOfE, eOp, eUn, eCB, aNil, aCons, eV, eC, eF, eTup, ownA, resA, res, AV.see, fSubs, Da.isDict, fIx, atI, ixN, fIB, fGt, fLt, fGe, fLe, fI, fAdd, fSub, fMul, fNeg, sAsg, sSetI, sAsgR, setR, Nw.av, Nw.da, rootAt, AV.asR, own, AV.get, fMod, fDiv, setD, setDa, sRet, sRetF, resRL, resL1, backP, AV.isRoot, AV.isFix, AV.flag, eCall, callM, argsOf, argOf, rootIx, putBack, isS, R1.da, Rv.da, fLen, fLenB, fLst, eScLen, eScIx, fLtA, fAbs, fInt, eBig, fPow, sNext, List.filterMap_cons, List.findIdx?_cons, F_law_names, e] <;> try simp only [wpD_back, bindD_back])
theorem names_us {fx : Bool} {p : Da} {k : Nat} (h : PotU p) (hk : k ≤ 26) : ∃ (zs : List Str) (p' : Da), uR1 F_law_names [pA fx p, .d (.int (k : Int))] 0 = some (.list (zs.map Da.str), p') ∧ PotU p' ∧ zs.length = k ∧ (∀ z ∈ zs, Nm z ∧ z ≠ qqS) ∧ zs.Nodup ∧ zs.Pairwise sLe := by
  obtain ⟨g, r, rfl, ho⟩ := h
  obtain ⟨y, e, zs, g', r', rfl, h1, h2, h3, h4⟩ := names_oks (fx := fx) ho hk
  exact ⟨zs, _, draw e rfl, ⟨g', r', rfl, h1⟩, h2, h3, h4⟩
section
variable {n : Nat} {names : List Str} {most : Nat}
abbrev wbT (n : Nat) (names : List Str) (most : Nat) (s : Int × Int × List PostS × Option Da × Option Da × AV × Option Da) : AS :=
  [pot true s.1 s.2.1, .d (.int (n : Int)), .d (.list (names.map Da.str)), .d (.int (most : Int)), .r false false (.list (s.2.2.1.map postT)), sl s.2.2.2.1, sl s.2.2.2.2.1, s.2.2.2.2.2.1, sl s.2.2.2.2.2.2]
theorem wt_post {g r : Int} {posts : List PostS} {c : Nat} {z : Str} {a8 : Option Da} {A7 : AV} (h : PotOk g r) (hn : 0 < n) (hn2 : n ≤ 100) (hm : most ≤ 100) (f7 : A7.isFix = false) (hp : posts.length ≤ 10000) :
    Wp (sSeq (sAsgR 7 (fDK false))
      (sSeq (sForD (iRg1 (aCons (eCall F_law_take [] (aCons (eV 0) (aCons (eOp fAdd (eV 3) (eC (.int 1))) aNil))) aNil)) (setD 8) (sSetI 7 (eC (.bool true)) (eCall F_law_take [] (aCons (eV 0) (aCons (eV 1) aNil)))))
      (sIf (tOfE (eEmp true (eV 7))) (sAppend 4 (aCons (eTup (aCons (eV 5) (aCons (eV 6) (aCons (eCB fTuple (aCons (eF (fSortDK (aCons (eV 7) aNil))) aNil)) aNil)))) aNil)) sNext)) (wbT n names most (g, r, posts, some (.int (c : Int)), some (.str z), A7, a8)))
      fun o => ∃ g' r' posts' B7 b8, o = .nx (wbT n names most (g', r', posts', some (.int (c : Int)), some (.str z), B7, b8)) ∧ PotOk g' r' ∧ B7.isFix = false ∧ (posts' = posts ∨ ∃ bs, posts' = posts ++ [⟨c, z, bs⟩] ∧ ArmsOk n most bs ∧ bs ≠ [] ∧ bs.Pairwise (· ≤ ·)) := by
  have lim : LIM = 1000000 := rfl
  rw [wp_seq, wp_asgR]
  refine ⟨_, rfl, _, setR_go (i := 7) (q := A7) rfl f7, ?_⟩
  dsimp only
  have s1 : (wbT n names most (g, r, posts, some (.int (c : Int)), some (.str z), A7, a8)).set 7 (Nw.r (.dk [])).av = wbT n names most (g, r, posts, some (.int (c : Int)), some (.str z), .r false false (.dk (armD [])), a8) := rfl
  rw [show (if false = true then Nw.n (.dk []) else Nw.r (.dk [])) = Nw.r (.dk []) from rfl, s1, wp_seq]
  obtain ⟨⟨l0, α0⟩, ec0, x, g1, r1, e0, x0, x1, h1⟩ := take_run (fx := true) h (m := (most : Int) + 1) (rest := (wbT n names most (g, r, posts, some (.int (c : Int)), some (.str z), .r false false (.dk (armD [])), a8)).tail) (mm := eOp fAdd (eV 3) (eC (.int 1))) (α := wbT n names most (g, r, posts, some (.int (c : Int)), some (.str z), .r false false (.dk (armD [])), a8)) (l := .d (.int ((most : Int) + 1))) (by omega) (by omega) (acons_go (evd (i := 0) rfl) (acons_go (eop_go (a := .int (most : Int)) (b := .int 1) (evd (i := 3) (q := .d (.int (most : Int))) rfl) rfl rfl rfl rfl) rfl)) rfl rfl
  injection e0 with e0 e0'
  subst e0 e0'
  obtain ⟨k, rfl⟩ := Int.eq_ofNat_of_zero_le x0
  have hk : k ≤ most := by omega
  refine for_map (xs := List.range k) (f := fun k : Nat => Da.int (k : Int)) (fun s : Int × Int × List Nat × Option Da => wbT n names most (s.1, s.2.1, posts, some (.int (c : Int)), some (.str z), .r false false (.dk (armD s.2.2.1)), s.2.2.2))
    (fun done s => PotOk s.1 s.2.1 ∧ s.2.2.1.Nodup ∧ (∀ b ∈ s.2.2.1, b < n) ∧ s.2.2.1.length ≤ done.length) (g1, r1, [], a8) (rg1_go (k := k) (acons_go ec0 rfl) rfl (by omega)) rfl ⟨h1, .nil, fun b m => (List.not_mem_nil m).elim, Nat.le_refl _⟩ ?_ ?_
  · rintro done q rest ⟨g2, r2, bs, b8⟩ ed ⟨h2, nd, lt, ln⟩
    dsimp only at h2 nd lt ln
    have dl : done.length ≤ 100 := by
      have := congrArg List.length ed
      rw [List.length_append, List.length_cons, List.length_range] at this
      omega
    rw [setD_sl (o := b8) rfl, wp_some]
    obtain ⟨⟨l, α'⟩, ec, x, g3, r3, e3, y0, y1, h3⟩ := take_run (fx := true) h2 (m := (n : Int)) (rest := (wbT n names most (g2, r2, posts, some (.int (c : Int)), some (.str z), .r false false (.dk (armD bs)), some (.int (q : Int)))).tail) (mm := eV 1) (α := wbT n names most (g2, r2, posts, some (.int (c : Int)), some (.str z), .r false false (.dk (armD bs)), some (.int (q : Int)))) (l := .s 1) (by omega) (by omega) rfl rfl rfl
    injection e3 with e3 e4
    subst e3 e4
    obtain ⟨b, rfl⟩ := Int.eq_ofNat_of_zero_le y0
    have sg := setK_go (i := 7) (me := eC (.bool true)) (mk := eCall F_law_take [] (aCons (eV 0) (aCons (eV 1) aNil))) (α := wbT n names most (g2, r2, posts, some (.int (c : Int)), some (.str z), .r false false (.dk (armD bs)), some (.int (q : Int)))) (k := .inl (b : Int)) (v := .bool true) (kvs := armD bs) (fx := false) rfl rfl ec rfl rfl rfl rfl (by rw [arm_len]; omega)
    rw [put_arm] at sg
    refine ⟨_, sg, (g3, r3, addN bs b, some (.int (q : Int))), rfl, h3, ?_, fun d md => ?_, ?_⟩
    · dsimp only
      unfold addN
      split
      · exact nd
      · rename_i nb
        rw [List.nodup_append]
        exact ⟨nd, by simp, fun u hu v hv e => nb (by rw [List.mem_singleton.mp hv] at e; rw [← e]; exact hu)⟩
    · dsimp only at md
      unfold addN at md
      split at md
      · exact lt d md
      · rcases List.mem_append.mp md with md | md
        · exact lt d md
        · rw [List.mem_singleton.mp md]; omega
    · dsimp only
      unfold addN
      split
      · rw [List.length_append]; omega
      · rw [List.length_append, List.length_append]; simp; omega
  · rintro ⟨g2, r2, bs, b8⟩ ⟨h2, nd, lt, ln⟩
    dsimp only at h2 nd lt ln
    rw [List.length_range] at ln
    dsimp only
    have te : tOfE (eEmp true (eV 7)) (wbT n names most (g2, r2, posts, some (.int (c : Int)), some (.str z), .r false false (.dk (armD bs)), b8)) = some (decide ((armD bs).length ≠ 0), wbT n names most (g2, r2, posts, some (.int (c : Int)), some (.str z), .r false false (.dk (armD bs)), b8)) := rfl
    by_cases hb : bs = []
    · subst hb
      refine sif_false te ?_
      rw [wp_next]
      exact ⟨g2, r2, posts, _, b8, rfl, h2, rfl, .inl rfl⟩
    · have e1 : decide ((armD bs).length ≠ 0) = true := decide_eq_true (by rw [arm_len]; exact fun z => hb (List.eq_nil_of_length_eq_zero z))
      rw [e1] at te
      refine sif_true te ?_
      obtain ⟨cs, e2, pm, le⟩ := sortDK_go (m := eV 7) (α := wbT n names most (g2, r2, posts, some (.int (c : Int)), some (.str z), .r false false (.dk (armD bs)), b8)) (l := .s 7) (T := bs) rfl rfl
      have et : eTup (aCons (eV 5) (aCons (eV 6) (aCons (eCB fTuple (aCons (eF (fSortDK (aCons (eV 7) aNil))) aNil)) aNil))) (wbT n names most (g2, r2, posts, some (.int (c : Int)), some (.str z), .r false false (.dk (armD bs)), b8)) = some (.d (postT ⟨c, z, cs⟩), wbT n names most (g2, r2, posts, some (.int (c : Int)), some (.str z), .r false false (.dk (armD bs)), b8)) :=
        tup3_go (evd (i := 5) (q := .d (.int (c : Int))) rfl) (evd (i := 6) (q := .d (.str z)) rfl) (tuple_one e2) rfl rfl rfl
      refine ⟨_, append_go (i := 4) (l := .d (postT ⟨c, z, cs⟩)) (y := postT ⟨c, z, cs⟩) (f := false) (f0 := false) (xs := posts.map postT) (ys := posts.map postT) rfl (acons_go et rfl) rfl rfl (by rw [List.length_map]; omega), ?_⟩
      have s2 : (wbT n names most (g2, r2, posts, some (.int (c : Int)), some (.str z), .r false false (.dk (armD bs)), b8)).set 4 (.r false false (.list (posts.map postT ++ [postT ⟨c, z, cs⟩]))) = wbT n names most (g2, r2, posts ++ [⟨c, z, cs⟩], some (.int (c : Int)), some (.str z), .r false false (.dk (armD bs)), b8) := by
        have : posts.map postT ++ [postT ⟨c, z, cs⟩] = (posts ++ [(⟨c, z, cs⟩ : PostS)]).map postT := by rw [List.map_append]; rfl
        rw [this]
        rfl
      rw [s2]
      exact ⟨g2, r2, posts ++ [⟨c, z, cs⟩], _, b8, rfl, h2, rfl, .inr ⟨cs, rfl, ⟨pm.nodup_iff.mpr nd, fun b mb => lt b (pm.mem_iff.mp mb), by rw [pm.length_eq]; omega⟩, fun e => hb (by rw [e] at pm; exact pm.symm.eq_nil), le⟩⟩
def postLt (a b : PostS) : Prop := a.c < b.c ∨ (a.c = b.c ∧ sLt a.nm b.nm)
structure FwT (n : Nat) (names : List Str) (most : Nat) (done : List Nat) (c : Nat) (donN : List Str) (posts : List PostS) : Prop where
  ok : ∀ p ∈ posts, ArmsOk n most p.arms ∧ p.arms ≠ [] ∧ p.c < n ∧ p.nm ∈ names ∧ (p.c ∈ done ∨ (p.c = c ∧ p.nm ∈ donN))
  nd : (posts.map fun p => (p.c, p.nm)).Nodup
  len : posts.length ≤ done.length * names.length + donN.length
  arr : ∀ p ∈ posts, p.arms.Pairwise (· ≤ ·)
  pw : posts.Pairwise postLt
theorem web_okT {fx : Bool} {g r : Int} (h : PotOk g r) (hn2 : n ≤ 50) (hm : most ≤ 100) (hl : names.length ≤ 26) (hnd : names.Nodup) (hs : names.Pairwise sLt) :
    Wp (F_law_web [pot fx g r, .d (.int (n : Int)), .d (.list (names.map Da.str)), .d (.int (most : Int))]) fun y => ∃ (posts : List PostS) (g r : Int),
      y = (.one (.d (webT n posts)), [pot fx g r, .d (.int (n : Int)), .d (.list (names.map Da.str)), .d (.int (most : Int))]) ∧ PotOk g r ∧ PostsOk n posts ∧ (∀ p ∈ posts, p.nm ∈ names ∧ p.arms.length ≤ most) ∧ posts.length ≤ n * names.length ∧ (∀ p ∈ posts, p.arms.Pairwise (· ≤ ·)) ∧ posts.Pairwise postLt := by
  have lim : LIM = 1000000 := rfl
  have key : Wp (m_law_web [pot true g r, .d (.int (n : Int)), .d (.list (names.map Da.str)), .d (.int (most : Int)), .un, .un, .un, .un, .un]) fun o => ∃ (posts : List PostS) (g r : Int) (α : AS),
      o = .rt (.one (.d (webT n posts))) (pot true g r :: α) ∧ PotOk g r ∧ FwT n names most (List.range n) n [] posts := by
    unfold m_law_web
    rw [wp_seq]
    refine ⟨.nx (wbT n names most (g, r, [], none, none, .un, none)), rfl, ?_⟩
    dsimp only
    rw [wp_seq]
    refine for_map (xs := List.range n) (f := fun k : Nat => Da.int (k : Int)) (wbT n names most) (fun done s => PotOk s.1 s.2.1 ∧ s.2.2.2.2.2.1.isFix = false ∧ FwT n names most done n [] s.2.2.1) (g, r, [], none, none, .un, none) (rg1_go (ls := [.s 1]) (k := n) rfl rfl (by omega)) rfl ⟨h, rfl, fun p m => (List.not_mem_nil m).elim, .nil, Nat.zero_le _, fun p m => (List.not_mem_nil m).elim, .nil⟩ ?_ ?_
    · rintro done c rest ⟨g1, r1, posts, a5, a6, A7, a8⟩ ed ⟨h1, f7, J⟩
      dsimp only at h1 f7 J
      have cn : c < n := List.mem_range.mp (by rw [← ed]; simp)
      have dl : done.length < n := by
        have := congrArg List.length ed
        rw [List.length_append, List.length_cons, List.length_range] at this
        omega
      have cd : c ∉ done := fun z => by
        have := List.nodup_range (n := n)
        rw [← ed, List.nodup_append] at this
        exact this.2.2 c z c (List.mem_cons_self ..) rfl
      have b1 : done.length * names.length ≤ 50 * 26 := Nat.mul_le_mul (by omega) hl
      rw [setD_sl (o := a5) rfl, wp_some]
      refine for_map (xs := names) (f := Da.str) (wbT n names most) (fun donN s => PotOk s.1 s.2.1 ∧ s.2.2.2.1 = some (.int (c : Int)) ∧ s.2.2.2.2.2.1.isFix = false ∧ FwT n names most done c donN s.2.2.1) (g1, r1, posts, some (.int (c : Int)), a6, A7, a8) (list_go (i := 2) rfl) rfl ⟨h1, rfl, f7, fun p mp => ?_, J.nd, J.len, J.arr, J.pw⟩ ?_ ?_
      · obtain ⟨q1, q2, q3, q4, q5⟩ := J.ok p mp
        exact ⟨q1, q2, q3, q4, .inl (q5.elim id fun z => (by omega : False).elim)⟩
      · rintro donN z rstN ⟨g2, r2, posts2, b5, b6, B7, b8⟩ edN ⟨h2, e5, f7', J2⟩
        dsimp only at h2 e5 f7' J2
        subst e5
        have mz : z ∈ names := by rw [← edN]; simp
        have zd : z ∉ donN := fun q => by
          rw [← edN, List.nodup_append] at hnd
          exact hnd.2.2 z q z (List.mem_cons_self ..) rfl
        have lN : donN.length ≤ 26 := by
          have := congrArg List.length edN
          rw [List.length_append, List.length_cons] at this
          omega
        rw [setD_sl (o := b6) rfl, wp_some]
        have pl := J2.len
        refine (wt_post (posts := posts2) (c := c) (z := z) (A7 := B7) (a8 := b8) h2 (by omega) (by omega) hm f7' (by omega)).mono ?_
        rintro _ ⟨g3, r3, posts3, C7, c8, rfl, h3, f3, hp⟩
        refine ⟨(g3, r3, posts3, some (.int (c : Int)), some (.str z), C7, c8), rfl, h3, rfl, f3, ?_⟩
        have up : ∀ p : PostS, (p.c ∈ done ∨ (p.c = c ∧ p.nm ∈ donN)) → (p.c ∈ done ∨ (p.c = c ∧ p.nm ∈ donN ++ [z])) := fun p q => q.imp id fun ⟨u, v⟩ => ⟨u, List.mem_append_left _ v⟩
        rcases hp with rfl | ⟨bs, rfl, ab, nb, sb⟩
        · exact ⟨fun p mp => by obtain ⟨q1, q2, q3, q4, q5⟩ := J2.ok p mp; exact ⟨q1, q2, q3, q4, up p q5⟩, J2.nd, by show posts3.length ≤ _; rw [List.length_append]; have := J2.len; omega, J2.arr, J2.pw⟩
        · refine ⟨fun p mp => ?_, ?_, by rw [List.length_append, List.length_append]; have := J2.len; simp; omega, fun p mp => ?_, ?_⟩
          · rcases List.mem_append.mp mp with mp | mp
            · obtain ⟨q1, q2, q3, q4, q5⟩ := J2.ok p mp
              exact ⟨q1, q2, q3, q4, up p q5⟩
            · rw [List.mem_singleton.mp mp]
              exact ⟨ab, nb, cn, mz, .inr ⟨rfl, by simp⟩⟩
          · rw [List.map_append, List.nodup_append]
            refine ⟨J2.nd, by simp, fun x hx y hy e => ?_⟩
            have ey : y = (c, z) := List.mem_singleton.mp hy
            obtain ⟨p, mp, rfl⟩ := List.mem_map.mp hx
            rw [ey] at e
            injection e with e1 e2
            obtain ⟨_, _, _, _, q5⟩ := J2.ok p mp
            rcases q5 with q | ⟨_, q⟩
            · rw [e1] at q; exact cd q
            · rw [e2] at q; exact zd q
          · rcases List.mem_append.mp mp with mp | mp
            · exact J2.arr p mp
            · rw [List.mem_singleton.mp mp]
              exact sb
          · rw [List.pairwise_append]
            refine ⟨J2.pw, List.pairwise_singleton .., fun p mp q mq => ?_⟩
            rw [List.mem_singleton.mp mq]
            obtain ⟨_, _, _, _, q5⟩ := J2.ok p mp
            rcases q5 with q5 | ⟨q5, q6⟩
            · refine .inl ?_
              have pr := List.pairwise_lt_range (n := n)
              rw [← ed, List.pairwise_append] at pr
              exact pr.2.2 p.c q5 c (List.mem_cons_self ..)
            · refine .inr ⟨q5, ?_⟩
              have pr := hs
              rw [← edN, List.pairwise_append] at pr
              exact pr.2.2 p.nm q6 z (List.mem_cons_self ..)
      · rintro ⟨g2, r2, posts2, b5, b6, B7, b8⟩ ⟨h2, e5, f7', J2⟩
        dsimp only at h2 e5 f7' J2
        refine ⟨_, rfl, h2, f7', fun p mp => ?_, J2.nd, ?_, J2.arr, J2.pw⟩
        · obtain ⟨q1, q2, q3, q4, q5⟩ := J2.ok p mp
          refine ⟨q1, q2, q3, q4, .inl ?_⟩
          rcases q5 with q | ⟨q, _⟩
          · exact List.mem_append_left _ q
          · rw [q]; exact List.mem_append_right _ (by simp)
        · have := J2.len
          rw [List.length_append, List.length_singleton, Nat.add_mul, Nat.one_mul]
          exact this
    · rintro ⟨g2, r2, posts2, b5, b6, B7, b8⟩ ⟨h2, f7', J2⟩
      dsimp only at h2 f7' J2
      dsimp only
      rw [wp_ret]
      have et : eCB fTuple (aCons (eV 4) aNil) (wbT n names most (g2, r2, posts2, b5, b6, B7, b8)) = some (.d (.tuple (posts2.map postT)), wbT n names most (g2, r2, posts2, b5, b6, B7, b8)) := rfl
      exact ⟨_, tup2_go (evd (i := 1) (q := .d (.int (n : Int))) rfl) et rfl rfl, posts2, g2, r2, _, rfl, h2, J2⟩
  obtain ⟨_, e, posts, g1, r1, α, rfl, p, J⟩ := key
  have jl := J.len
  rw [List.length_range] at jl
  refine ⟨_, def_go (as' := [pot fx g1 r1, .d (.int (n : Int)), .d (.list (names.map Da.str)), .d (.int (most : Int))]) rfl e rfl rfl, posts, g1, r1, rfl, p, ⟨fun q mq => ?_, J.nd⟩, fun q mq => ?_, by simpa using jl, J.arr, J.pw⟩
  · obtain ⟨q1, q2, q3, q4, q5⟩ := J.ok q mq
    exact ⟨q1.1, q2, q1.2.1, q3⟩
  · obtain ⟨q1, q2, q3, q4, q5⟩ := J.ok q mq
    exact ⟨q4, q1.2.2⟩
end
theorem web_us {fx : Bool} {p : Da} {n : Nat} {names : List Str} {most : Int} (h : PotU p) (hn : n ≤ 50) (h0 : 0 ≤ most) (hm : most ≤ 100) (hl : names.length ≤ 26) (hnd : names.Nodup) (hs : names.Pairwise sLt) :
    ∃ (posts : List PostS) (p' : Da), uR1 F_law_web [pA fx p, .d (.int (n : Int)), .d (.list (names.map Da.str)), .d (.int most)] 0 = some (webT n posts, p') ∧ PotU p' ∧ PostsOk n posts ∧ (∀ q ∈ posts, q.nm ∈ names ∧ (q.arms.length : Int) ≤ most) ∧ posts.length ≤ n * names.length ∧ (∀ p ∈ posts, p.arms.Pairwise (· ≤ ·)) ∧ posts.Pairwise postLt := by
  obtain ⟨g, r, rfl, ho⟩ := h
  obtain ⟨m, rfl⟩ := Int.eq_ofNat_of_zero_le h0
  obtain ⟨y, e, posts, g', r', rfl, h1, h2, h3, h4, h5⟩ := web_okT (fx := fx) (most := m) ho hn (by omega) hl hnd hs
  exact ⟨posts, _, draw e rfl, ⟨g', r', rfl, h1⟩, h2, fun q m => ⟨(h3 q m).1, by have := (h3 q m).2; omega⟩, h4, h5⟩
end Wo
namespace K67
open PySem PySem.Spec PyProof.Rows L2 Gk Vm Wo Mth
def kq (c : Nat) (z : Str) : List Key := [.inl (c : Int), .inr z]
def Ds (fs : List PostS) : List (List Key × Da) := fs.map fun q => (kq q.c q.nm, Da.list (intsD q.arms))
def fnd (fs : List PostS) (c : Nat) (z : Str) : Option PostS := fs.find? fun q => decide (q.c = c ∧ q.nm = z)
theorem kq_inj {c d : Nat} {y z : Str} : kq c y = kq d z ↔ c = d ∧ y = z := by
  unfold kq
  constructor
  · intro h
    injection h with h1 h
    injection h with h2 _
    injection h1 with h1
    injection h2 with h2
    exact ⟨Int.ofNat_inj.mp h1, h2⟩
  · rintro ⟨rfl, rfl⟩; rfl
theorem keyT_kq {c : Nat} {z : Str} : keyT (.tuple [.int (c : Int), .str z]) = some (kq c z) := rfl
theorem val_Ds {c : Nat} {z : Str} : ∀ fs : List PostS, valA (Ds fs) (kq c z) = (fnd fs c z).map fun q => Da.list (intsD q.arms)
  | [] => rfl
  | q :: fs => by
    have ih := val_Ds (c := c) (z := z) fs
    unfold valA Ds fnd at ih ⊢
    rw [List.map_cons, List.find?_cons, List.find?_cons]
    by_cases h : q.c = c ∧ q.nm = z
    · rw [decide_eq_true (kq_inj.mpr h), decide_eq_true h]; rfl
    · rw [decide_eq_false (fun e => h (kq_inj.mp e)), decide_eq_false h]; exact ih
theorem fnd_some {fs : List PostS} {c : Nat} {z : Str} {q : PostS} (h : fnd fs c z = some q) : q ∈ fs ∧ q.c = c ∧ q.nm = z := by
  have e := List.find?_some h
  exact ⟨List.mem_of_find?_eq_some h, of_decide_eq_true e⟩
theorem fnd_none {fs : List PostS} {c : Nat} {z : Str} (h : fnd fs c z = none) : ∀ q ∈ fs, ¬ (q.c = c ∧ q.nm = z) := fun q m e => by
  have := List.find?_eq_none.mp h q m
  exact this (decide_eq_true e)
def setP (c : Nat) (z : Str) (A : List Nat) : List PostS → List PostS
  | [] => [⟨c, z, A⟩]
  | q :: r => if q.c = c ∧ q.nm = z then ⟨c, z, A⟩ :: r else q :: setP c z A r
theorem put_Ds {c : Nat} {z : Str} {A : List Nat} : ∀ fs   : List PostS, Vm.putF (Ds fs) (kq c z) (.list (intsD A)) = Ds (setP c z A fs)
  | [] => rfl
  | q :: fs => by
    unfold setP Ds
    rw [List.map_cons]
    unfold Vm.putF
    by_cases h : q.c = c ∧ q.nm = z
    · rw [if_pos (kq_inj.mpr h), if_pos h, h.1, h.2]; rfl
    · rw [if_neg (fun e => h (kq_inj.mp e)), if_neg h, List.map_cons]; exact congrArg _ (put_Ds fs)
theorem setP_keys {c : Nat} {z : Str} {A : List Nat} : ∀ {fs : List PostS} {q : PostS}, fnd fs c z = some q → (setP c z A fs).map keyP = fs.map keyP
  | [], _, h => by cases h
  | q :: fs, r, h => by
    unfold setP
    by_cases e : q.c = c ∧ q.nm = z
    · rw [if_pos e, List.map_cons, List.map_cons]; unfold keyP; rw [e.1, e.2]
    · rw [if_neg e, List.map_cons, List.map_cons, setP_keys (fs := fs) (q := r)]
      unfold fnd at h ⊢
      rwa [List.find?_cons, decide_eq_false e] at h
theorem setP_mem {c : Nat} {z : Str} {A : List Nat} : ∀ {fs : List PostS}, (fs.map keyP).Nodup → ∀ x, x ∈ setP c z A fs → x = ⟨c, z, A⟩ ∨ (x ∈ fs ∧ ¬ (x.c = c ∧ x.nm = z))
  | [], _, x, h => .inl (List.mem_singleton.mp h)
  | q :: fs, nd, x, h => by
    obtain ⟨n1, n2⟩ := List.nodup_cons.mp nd
    unfold setP at h
    by_cases e : q.c = c ∧ q.nm = z
    · rw [if_pos e] at h
      rcases List.mem_cons.mp h with rfl | h
      · exact .inl rfl
      · exact .inr ⟨List.mem_cons_of_mem _ h, fun w => n1 (List.mem_map.mpr ⟨x, h, by unfold keyP; rw [w.1, w.2, e.1, e.2]⟩)⟩
    · rw [if_neg e] at h
      rcases List.mem_cons.mp h with rfl | h
      · exact .inr ⟨List.mem_cons_self .., e⟩
      · exact (setP_mem n2 x h).imp id fun w => ⟨List.mem_cons_of_mem _ w.1, w.2⟩
theorem setP_new {c : Nat} {z : Str} {A : List Nat} : ∀ {fs : List PostS}, (⟨c, z, A⟩ : PostS) ∈ setP c z A fs
  | [] => List.mem_singleton.mpr rfl
  | q :: fs => by
    unfold setP
    split
    · exact List.mem_cons_self ..
    · exact List.mem_cons_of_mem _ setP_new
theorem setP_old {c : Nat} {z : Str} {A : List Nat} : ∀ {fs : List PostS} {x : PostS}, x ∈ fs → ¬ (x.c = c ∧ x.nm = z) → x ∈ setP c z A fs
  | q :: fs, x, m, n => by
    unfold setP
    by_cases e : q.c = c ∧ q.nm = z
    · rw [if_pos e]
      rcases List.mem_cons.mp m with rfl | m
      · exact (n e).elim
      · exact List.mem_cons_of_mem _ m
    · rw [if_neg e]
      rcases List.mem_cons.mp m with rfl | m
      · exact List.mem_cons_self ..
      · exact List.mem_cons_of_mem _ (setP_old m n)
theorem Ds_nd {fs : List PostS} (h : (fs.map keyP).Nodup) : ((Ds fs).map (·.1)).Nodup := by
  unfold Ds
  rw [List.map_map]
  rw [List.nodup_iff_pairwise_ne, List.pairwise_map] at h ⊢
  exact h.imp fun {a b} n e => n (by have := kq_inj.mp e; unfold keyP; rw [this.1, this.2])
theorem Ds_len {fs : List PostS} : (Ds fs).length = fs.length := List.length_map ..
theorem int_all (A : List Nat) : (intsD A).all isI = true := List.all_eq_true.mpr fun x m => by
  obtain ⟨b, _, rfl⟩ := List.mem_map.mp m
  rfl
theorem pair_post (q : PostS) : pairN (postT q) = some (kq q.c q.nm, Da.list (intsD q.arms)) := by
  show (if (intsD q.arms).all isI = true then some _ else none) = _
  rw [if_pos (int_all _)]
  rfl
theorem mapM_post : ∀ fs : List PostS, (fs.map postT).mapM pairN = some (Ds fs)
  | [] => rfl
  | q :: fs => by rw [List.map_cons, List.mapM_cons, pair_post, mapM_post fs]; rfl
theorem dict_post {fs : List PostS} (h : (fs.map keyP).Nodup) (hl : fs.length ≤ LIM) : dictN (fs.map postT) = some (Ds fs) := by
  unfold dictN
  rw [mapM_post, Option.bind_some, if_pos ⟨by rw [Ds_len]; exact hl, Ds_nd h⟩]
structure Gd (n : Nat) (zs : List Str) (fs : List PostS) : Prop where
  nd : (fs.map keyP).Nodup
  ok : ∀ q ∈ fs, q.c < n ∧ q.nm ∈ zs ∧ q.arms.Pairwise (· < ·) ∧ q.arms ≠ [] ∧ ∀ d ∈ q.arms, d < n
theorem arms_le {n : Nat} {A : List Nat} (h : A.Pairwise (· < ·)) (hb : ∀ d ∈ A, d < n) : A.length ≤ n := by
  have := nodup_le (m := List.range n) (h.imp fun {a b} h => Nat.ne_of_lt h) fun g mg => List.mem_range.mpr (hb g mg)
  rwa [List.length_range] at this
section
variable {n : Nat} {zs : List Str} {fs base : List PostS} {c : Nat} {z : Str} {A : List Nat} {q : PostS}
theorem Gd.len (h : Gd n zs fs) : fs.length ≤ n * zs.length := key_len h.nd fun q m => ⟨(h.ok q m).1, (h.ok q m).2.1⟩
theorem Gd.one (h : Gd n zs fs) {x y : PostS} (hx : x ∈ fs) (hy : y ∈ fs) (e : x.c = y.c ∧ x.nm = y.nm) : x = y := by
  have nd := h.nd
  rw [List.nodup_iff_pairwise_ne, List.pairwise_map] at nd
  by_cases hab : x = y
  · exact hab
  · exact (List.Pairwise.forall_of_forall_of_flip (R := fun x y => x ∈ fs → y ∈ fs → x ≠ y → keyP x ≠ keyP y) (l := fs) (fun x _ _ _ h => (h rfl).elim) (nd.imp fun h _ _ _ => h) (nd.imp fun h _ _ _ z => h z.symm) hx hy hx hy hab (Prod.ext e.1 e.2)).elim
theorem Gd.set (h : Gd n zs fs) (hf : fnd fs c z = some q) (ha : A.Pairwise (· < ·)) (hne : A ≠ []) (hb : ∀ d ∈ A, d < n) : Gd n zs (setP c z A fs) := by
  obtain ⟨m, e1, e2⟩ := fnd_some hf
  refine ⟨by rw [setP_keys hf]; exact h.nd, fun x mx => ?_⟩
  rcases setP_mem h.nd x mx with rfl | ⟨w, _⟩
  · have := h.ok q m
    exact ⟨e1 ▸ this.1, e2 ▸ this.2.1, ha, hne, hb⟩
  · exact h.ok x w
theorem Gd.add (h : Gd n zs fs) (hf : fnd fs c z = none) (hc : c < n) (hz : z ∈ zs) (ha : A.Pairwise (· < ·)) (hne : A ≠ []) (hb : ∀ d ∈ A, d < n) : Gd n zs (fs ++ [⟨c, z, A⟩]) := by
  refine ⟨?_, fun x mx => ?_⟩
  · rw [List.map_append, List.nodup_append]
    refine ⟨h.nd, by simp, fun a ma b mb e => ?_⟩
    rw [List.map_cons, List.map_nil, List.mem_singleton] at mb
    obtain ⟨x, mx, rfl⟩ := List.mem_map.mp ma
    rw [mb] at e
    have e : (x.c, x.nm) = (c, z) := e
    injection e with e1 e2
    exact fnd_none hf x mx ⟨e1, e2⟩
  · rcases List.mem_append.mp mx with w | w
    · exact h.ok x w
    · rw [List.mem_singleton.mp w]
      exact ⟨hc, hz, ha, hne, hb⟩
theorem Gd.drop (h : Gd n zs fs) (p : PostS → Bool) : Gd n zs (fs.filter p) := ⟨h.nd.sublist (List.filter_sublist.map _), fun x m => h.ok x (List.mem_filter.mp m).1⟩
/-- how it stands to what was -/
def Rl (way : Nat) (base fs : List PostS) : Prop := (way = 0 ∨ way = 1 → Kno base fs) ∧ (way = 2 → Kno fs base)
theorem kno_refl (fs : List PostS) : Kno fs fs := fun p m => ⟨p, m, rfl, rfl, fun d m => m⟩
theorem Rl.set0 (h : Gd n zs fs) (r : Rl 0 base fs) (hf : fnd fs c z = some q) (hA : ∀ d ∈ A, d ∈ q.arms) : Rl 0 base (setP c z A fs) := by
  obtain ⟨m, e1, e2⟩ := fnd_some hf
  refine ⟨fun _ p mp => ?_, fun e => by omega⟩
  obtain ⟨x, mx, x1, x2, x3⟩ := r.1 (.inl rfl) p mp
  by_cases e : x.c = c ∧ x.nm = z
  · have : x = q := h.one mx m ⟨e.1.trans e1.symm, e.2.trans e2.symm⟩
    subst this
    exact ⟨⟨c, z, A⟩, setP_new, e.1.symm.trans x1, e.2.symm.trans x2, fun d md => x3 d (hA d md)⟩
  · exact ⟨x, setP_old mx e, x1, x2, x3⟩
theorem Rl.set2 (h : Gd n zs fs) (r : Rl 2 base fs) (hf : fnd fs c z = some q) (hA : ∀ d ∈ q.arms, d ∈ A) : Rl 2 base (setP c z A fs) := by
  obtain ⟨m, e1, e2⟩ := fnd_some hf
  refine ⟨fun e => by omega, fun _ p mp => ?_⟩
  rcases setP_mem h.nd p mp with rfl | ⟨w, _⟩
  · obtain ⟨x, mx, x1, x2, x3⟩ := r.2 rfl q m
    exact ⟨x, mx, x1.trans e1, x2.trans e2, fun d md => hA d (x3 d md)⟩
  · exact r.2 rfl p w
theorem Rl.add1 (r : Rl 1 base fs) (x : PostS) : Rl 1 base (fs ++ [x]) := ⟨fun _ p mp => by
  obtain ⟨y, my, h⟩ := r.1 (.inr rfl) p mp
  exact ⟨y, List.mem_append_left _ my, h⟩, fun e => by omega⟩
theorem Rl.other {way : Nat} (h : 3 ≤ way) : Rl way base fs := ⟨fun e => by omega, fun e => by omega⟩
end
end K67
namespace K67
open PySem PySem.Spec PyProof.Rows L2 Gk Vm Wo Mth
section
variable {n : Nat} {zs : List Str} {fs base : List PostS} {c : Nat} {z : Str} {A : List Nat} {q : PostS} {neg : Bool}
abbrev kd (c : Nat) (z : Str) : Da := .tuple [.int (c : Int), .str z]
theorem in_Ds : inNU neg (.dt (Ds fs)) (kd c z) = some ((fnd fs c z).isSome != neg) := by
  show ((keyT (kd c z)).bind fun k => some ((valA (Ds fs) k).isSome != neg)) = _
  rw [keyT_kq, Option.bind_some, val_Ds, Option.isSome_map]
theorem len_Ds (h : fnd fs c z = some q) : lenNU (.dt (Ds fs)) (kd c z) = some (.int (q.arms.length : Int)) := by
  show ((keyT (kd c z)).bind fun k => match valA (Ds fs) k with | some (.list xs) => some (Da.int ((xs.length : Nat) : Int)) | _ => none) = _
  rw [keyT_kq, Option.bind_some, val_Ds, h]
  show some (Da.int (((intsD q.arms).length : Nat) : Int)) = _
  unfold intsD
  rw [List.length_map]
theorem erase_ints : ∀ (A : List Nat) (k : Nat), (intsD A).eraseIdx k = intsD (A.eraseIdx k)
  | [], _ => by simp [intsD]
  | a :: A, 0 => rfl
  | a :: A, k + 1 => by
    show Da.int (a : Int) :: (intsD A).eraseIdx k = _
    rw [erase_ints A k]
    rfl
theorem popAt_Ds {k : Nat} (h : fnd fs c z = some q) (hk : k < q.arms.length) : popAtN (.dt (Ds fs)) (kd c z) (.int (k : Int)) = some (.dt (Ds (setP c z (q.arms.eraseIdx k) fs))) := by
  show ((keyT (kd c z)).bind fun k' => match valA (Ds fs) k', (Da.int (k : Int)) with | some (.list xs), .int n => if 0 ≤ n ∧ n.toNat < xs.length then some (Da.dt (Vm.putF (Ds fs) k' (.list (xs.eraseIdx n.toNat)))) else none | _, _ => none) = _
  rw [keyT_kq, Option.bind_some, val_Ds, h]
  show (if 0 ≤ (k : Int) ∧ (k : Int).toNat < (intsD q.arms).length then some (Da.dt (Vm.putF (Ds fs) (kq c z) (.list ((intsD q.arms).eraseIdx (k : Int).toNat)))) else none) = _
  rw [if_pos ⟨by omega, by unfold intsD; rw [List.length_map]; omega⟩, Int.toNat_natCast, erase_ints, put_Ds]
theorem cat_Ds {k : Nat} (h : fnd fs c z = some q) (hl : q.arms.length ≤ 1000) : catNU (.dt (Ds fs)) (kd c z) (.int (k : Int)) = some (.list (intsD (q.arms ++ [k]))) := by
  show ((keyT (kd c z)).bind fun k' => match valA (Ds fs) k' with | some (.list xs) => fAdd (.list xs) (.list [Da.int (k : Int)]) | _ => none) = _
  rw [keyT_kq, Option.bind_some, val_Ds, h]
  show fAdd (.list (intsD q.arms)) (.list (intsD [k])) = _
  have lim : LIM = 1000000 := rfl
  rw [show fAdd (.list (intsD q.arms)) (.list (intsD [k])) = some (.list (intsD q.arms ++ intsD [k])) from if_pos (by unfold intsD; rw [List.length_map, List.length_map]; simp; omega), intsD_app]
theorem put_old (h : Gd n zs fs) (hf : fnd fs c z = some q) (hl : fs.length < LIM) : putNU (.dt (Ds fs)) (kd c z) (.list (intsD A)) = some (.dt (Ds (setP c z A fs))) := by
  show ((keyT (kd c z)).bind fun k => (putN (Ds fs) k (.list (intsD A))).map Da.dt) = _
  rw [keyT_kq, Option.bind_some]
  unfold putN
  rw [val_Ds, hf]
  show Option.map Da.dt (if ((Ds fs).map (·.1)).Nodup ∧ (Ds fs).length < LIM then some _ else none) = _
  rw [if_pos ⟨Ds_nd h.nd, by rw [Ds_len]; exact hl⟩, put_Ds]
  rfl
theorem put_new (hf : fnd fs c z = none) (hl : fs.length < LIM) : putNU (.dt (Ds fs)) (kd c z) (.list (intsD A)) = some (.dt (Ds (fs ++ [⟨c, z, A⟩]))) := by
  show ((keyT (kd c z)).bind fun k => (putN (Ds fs) k (.list (intsD A))).map Da.dt) = _
  rw [keyT_kq, Option.bind_some]
  unfold putN
  rw [val_Ds, hf]
  show Option.map Da.dt (if (Ds fs).length < LIM then some _ else none) = _
  rw [if_pos (by rw [Ds_len]; exact hl)]
  unfold Ds
  rw [List.map_append]
  rfl
theorem pop_Ds (hf : fnd fs c z = some q) : popNU (.dt (Ds fs)) (kd c z) = some (.dt (Ds (fs.filter fun x => !decide (x.c = c ∧ x.nm = z)))) := by
  show ((keyT (kd c z)).bind fun k => (popN (Ds fs) k).map Da.dt) = _
  rw [keyT_kq, Option.bind_some]
  unfold popN
  rw [val_Ds, hf]
  show some (Da.dt ((Ds fs).filter _)) = _
  congr 2
  unfold Ds
  rw [List.filter_map]
  congr 1
  refine List.filter_congr fun x _ => ?_
  show decide (kq x.c x.nm ≠ kq c z) = _
  by_cases h : x.c = c ∧ x.nm = z
  · rw [decide_eq_true h, decide_eq_false (by rw [Ne, kq_inj]; exact fun w => w h)]; rfl
  · rw [decide_eq_false h, decide_eq_true (by rw [Ne, kq_inj]; exact h)]; rfl
theorem set_ints (zs : List Nat) (hl : zs.length ≤ 1000) : ∃ cs : List Nat, uSortSet (.list (intsD zs)) = some (intsD cs) ∧ cs.Pairwise (· < ·) ∧ ∀ z, z ∈ cs ↔ z ∈ zs := by
  have fold : ∀ (L S : List Nat), (L.map kN).foldl addP (S.map kN) = (L.foldl addP S).map kN := by
    intro L
    induction L with
    | nil => intro S; rfl
    | cons z L ih =>
      intro S
      rw [List.map_cons, List.foldl_cons, List.foldl_cons]
      have e : addP (S.map kN) (kN z) = (addP S z).map kN := by
        unfold addP
        by_cases h : z ∈ S
        · rw [if_pos h, if_pos (List.mem_map_of_mem h)]
        · rw [if_neg h, if_neg (fun m => by
            obtain ⟨y, my, e⟩ := List.mem_map.mp m
            exact h (kN_inj _ _ e ▸ my)), List.map_append]
          rfl
      rw [e, ih]
  have dd : ddK (zs.map kN) = (zs.foldl addP []).map kN := fold zs []
  obtain ⟨u1, u2⟩ := uniq_facts zs [] .nil
  obtain ⟨cs, e, h1, h2⟩ := sortK_nats (zs.foldl addP [])
  refine ⟨cs, ?_, (h2.and (h1.nodup_iff.mpr u1)).imp fun ⟨x, y⟩ => Nat.lt_of_le_of_ne x y, fun z => by rw [h1.mem_iff, u2 z]; simp⟩
  unfold uSortSet
  rw [show unSeq (.list (intsD zs)) = some (intsD zs) from rfl, Option.bind_some, keysA_n, Option.bind_some, dd, if_pos ⟨by rw [List.length_map]; have := uniq_len zs []; rw [List.length_nil] at this; omega, kPy_ints _⟩, e, List.map_map]
  rfl
theorem zip_post : ∀ L : List PostS, (L.map postT).zip (L.map postP) = L.map fun x => (postT x, postP x)
  | [] => rfl
  | x :: L => by rw [List.map_cons, List.map_cons, List.zip_cons_cons, zip_post L, List.map_cons]
theorem sort_posts (L : List PostS) : ∃ M : List PostS, uSortM [.list (L.map postT)] = some (M.map postT) ∧ M.Perm L ∧ M.Pairwise (fun a b => leD postP a b = true) := by
  refine ⟨sortBy postP L, ?_, sortBy_perm .., sortBy_pw ..⟩
  show sortD _ = _
  unfold sortD
  rw [toPys_post, Option.bind_some, if_pos ⟨PySem.W.AllAlike.of fun x y => alike_post x y, PySem.W.Sortable.tuples fun x => ⟨_, _, rfl⟩, fun d hd => by
    obtain ⟨x, _, rfl⟩ := List.mem_map.mp hd
    unfold postP
    have h : PyData.depthAll (x.arms.map fun b : Nat => PyData.int (b : Int)) = 0 := depthAll_ns x.arms
    simp [PyData.depth, PyData.depthAll, h]⟩, zip_post L, merge_map, List.map_map]
  rfl
end
end K67
namespace K67
open PySem PySem.Spec PyProof.Rows L2 Gk Vm Wo Mth
section
variable {n : Nat} {zs : List Str} {fs base : List PostS} {c : Nat} {z : Str} {A : List Nat} {q : PostS} {neg : Bool}
theorem keys_Ds (fs : List PostS) : iterU (.dt (Ds fs)) = some (fs.map fun q => kd q.c q.nm) := by
  show some ((Ds fs).map fun kv => Da.tuple (kv.1.map kD)) = _
  unfold Ds
  rw [List.map_map]
  rfl
theorem fnd_mem (h : Gd n zs fs) (m : q ∈ fs) : fnd fs q.c q.nm = some q := by
  cases e : fnd fs q.c q.nm with
  | none => exact (fnd_none e q m ⟨rfl, rfl⟩).elim
  | some x =>
    obtain ⟨mx, e1, e2⟩ := fnd_some e
    rw [h.one mx m ⟨e1, e2⟩]
theorem at_Ds (h : Gd n zs fs) (m : q ∈ fs) : fSubs (.dt (Ds fs)) (kd q.c q.nm) = some (.list (intsD q.arms)) := by
  show ((lookD (.dt (Ds fs)) (kd q.c q.nm)).bind id) = _
  show (((keyT (kd q.c q.nm)).bind fun k => some (valA (Ds fs) k)).bind id) = _
  rw [keyT_kq, Option.bind_some, val_Ds, fnd_mem h m]
  rfl
abbrev Jn (n : Nat) (zs : List Str) (way : Nat) (base : List PostS) (s : Da × Da) : Prop := PotU s.1 ∧ ∃ fs, s.2 = .dt (Ds fs) ∧ Gd n zs fs ∧ Rl way base fs
theorem changed_w {p : Da} {way : Nat} (h : PotU p) (hn : n ≤ 50) (hz : zs.length ≤ 26) (hg : Gd n zs base) (hw : way < 4) :
    Wp (u_law_changed p (webT n base) (.list (zs.map Da.str)) (.int (way : Int))) fun r => ∃ posts, r.1 = webT n posts ∧ PotU r.2 ∧ Gd n zs posts ∧ posts.Pairwise (fun a b => leD postP a b = true) ∧ Rl way base posts := by
  have lim : LIM = 1000000 := rfl
  have bd : ∀ {fs : List PostS}, Gd n zs fs → fs.length ≤ 1300 := fun g => Nat.le_trans g.len (Nat.mul_le_mul hn hz)
  unfold u_law_changed
  rw [sub_web, Option.bind_some, it_t, Option.bind_some, dict_post hg.nd (by have := bd hg; omega), Option.bind_some, sub_web0, Option.bind_some, rg1_n (by omega), Option.bind_some]
  refine wpb_forU (List.range n) (fun k : Nat => Da.int (k : Int)) (fun _ s => Jn n zs way base s) ⟨h, base, rfl, hg, fun _ => kno_refl _, fun _ => kno_refl _⟩ ?_ ?_
  · rintro done c rest ⟨pot, found⟩ ed J
    obtain ⟨_, hc⟩ := range_at ed
    dsimp only
    rw [it_l, Option.bind_some]
    refine wpb_forU zs Da.str (fun _ s => Jn n zs way base s) J ?_ ?_
    · rintro doneN z restN ⟨pot, found⟩ edN ⟨hp, fs, rfl, g, r⟩
      dsimp only at hp ⊢
      have mz : z ∈ zs := by rw [← edN]; simp
      have fl := bd g
      rw [Option.bind_some, in_Ds, Option.bind_some]
      cases e : fnd fs c z with
      | none =>
        rw [show ((none : Option PostS).isSome != false) = false from rfl, cond_false, Option.bind_some]
        dsimp only
        rw [cond_false, in_Ds, e, Option.bind_some, show ((none : Option PostS).isSome != true) = true from rfl, cond_true, eqn_1, Option.bind_some, asB_b, Option.bind_some]
        by_cases w1 : way = 1
        · subst w1
          rw [show ((1 : Nat) == 1) = true from rfl, cond_true]
          obtain ⟨k1, p1, e1, b1, h1⟩ := take_u (fx := true) hp (m := 2) (by decide) (by decide)
          rw [e1, Option.bind_some]
          dsimp only
          rw [eqn_0, Option.bind_some, asB_b, Option.bind_some, Option.bind_some]
          dsimp only
          rw [Option.bind_some]
          dsimp only
          cases (k1 == 0) with
          | false => exact ⟨_, rfl, h1, fs, rfl, g, r⟩
          | true =>
            rw [cond_true, Option.bind_some]
            obtain ⟨k2, p2, e2, b2, h2⟩ := take_u (fx := true) h1 (m := (n : Int)) (by omega) (by omega)
            rw [e2, Option.bind_some]
            dsimp only
            rw [show Da.list [Da.int (k2 : Int)] = .list (intsD [k2]) from rfl, put_new e (by omega), Option.bind_some]
            exact ⟨_, rfl, h2, _, rfl, g.add e hc mz (List.pairwise_singleton ..) (by simp) (fun d md => by rw [List.mem_singleton.mp md]; omega), r.add1 _⟩
        · rw [beq_eq_false_iff_ne.mpr w1, cond_false, Option.bind_some]
          dsimp only
          rw [Option.bind_some]
          dsimp only
          rw [cond_false]
          exact ⟨_, rfl, hp, fs, rfl, g, r⟩
      | some q =>
        have ok := g.ok q (fnd_some e).1
        have al := arms_le ok.2.2.1 ok.2.2.2.2
        have a0 : 0 < q.arms.length := List.length_pos_iff.mpr ok.2.2.2.1
        rw [show ((some q : Option PostS).isSome != false) = true from rfl, cond_true]
        obtain ⟨k1, p1, e1, b1, h1⟩ := take_u (fx := true) hp (m := 3) (by decide) (by decide)
        rw [e1, Option.bind_some]
        dsimp only
        rw [eqn_0, Option.bind_some, asB_b, Option.bind_some, Option.bind_some]
        dsimp only
        cases (k1 == 0) with
        | false =>
          rw [cond_false, in_Ds, e, Option.bind_some, show ((some q : Option PostS).isSome != true) = false from rfl, cond_false, Option.bind_some]
          dsimp only
          rw [cond_false]
          exact ⟨_, rfl, h1, fs, rfl, g, r⟩
        | true =>
          rw [cond_true, eqn_0, Option.bind_some, asB_b, Option.bind_some]
          have last : Wp ((fEqS (Da.int (way : Int)) (Da.int 3)).bind fun e_15 => (asB e_15).bind fun t_9 => cond t_9 ((popNU (.dt (Ds fs)) (kd c z)).bind fun found_5 => some (p1, found_5)) (some (p1, Da.dt (Ds fs)))) (Jn n zs way base) := by
            rw [eqn_3, Option.bind_some, asB_b, Option.bind_some]
            by_cases w3 : way = 3
            · subst w3
              rw [show ((3 : Nat) == 3) = true from rfl, cond_true, pop_Ds e, Option.bind_some]
              exact ⟨_, rfl, h1, _, rfl, g.drop _, Rl.other (by omega)⟩
            · rw [beq_eq_false_iff_ne.mpr w3, cond_false]
              exact ⟨_, rfl, h1, fs, rfl, g, r⟩
          by_cases w0 : way = 0
          · subst w0
            rw [show ((0 : Nat) == 0) = true from rfl, cond_true, len_Ds e, Option.bind_some, gt_1, Option.bind_some, asB_b, Option.bind_some, Option.bind_some]
            cases hl : decide (1 < q.arms.length) with
            | true =>
              have hl := of_decide_eq_true hl
              rw [cond_true, Option.bind_some]
              obtain ⟨k2, p2, e2, b2, h2⟩ := take_u (fx := true) h1 (m := (q.arms.length : Int)) (by omega) (by omega)
              rw [e2, Option.bind_some]
              dsimp only
              have sub : (q.arms.eraseIdx k2).Sublist q.arms := List.eraseIdx_sublist ..
              rw [popAt_Ds e (by omega), Option.bind_some]
              refine ⟨_, rfl, h2, _, rfl, g.set e (ok.2.2.1.sublist sub) (fun w => ?_) (fun d md => ok.2.2.2.2 d (sub.subset md)), r.set0 g e fun d md => sub.subset md⟩
              have := congrArg List.length w
              rw [List.length_eraseIdx, List.length_nil] at this
              split at this <;> omega
            | false =>
              rw [cond_false, eqn_2, Option.bind_some, asB_b, Option.bind_some, show ((0 : Nat) == 2) = false from rfl, cond_false, Option.bind_some, cond_false]
              exact last
          · rw [beq_eq_false_iff_ne.mpr w0, cond_false, Option.bind_some, cond_false, eqn_2, Option.bind_some, asB_b, Option.bind_some]
            by_cases w2 : way = 2
            · subst w2
              rw [show ((2 : Nat) == 2) = true from rfl, cond_true, len_Ds e, Option.bind_some, show fLtA (Da.int (q.arms.length : Int)) (Da.int 8) = some (.bool (decide (q.arms.length < 8))) from ltA_n (j := 8), Option.bind_some, asB_b, Option.bind_some, Option.bind_some]
              cases hl : decide (q.arms.length < 8) with
              | true =>
                rw [cond_true, Option.bind_some]
                obtain ⟨k2, p2, e2, b2, h2⟩ := take_u (fx := true) h1 (m := (n : Int)) (by omega) (by omega)
                rw [e2, Option.bind_some]
                dsimp only
                rw [cat_Ds e (by omega), Option.bind_some]
                obtain ⟨cs, es, sp, sm⟩ := set_ints (q.arms ++ [k2]) (by rw [List.length_append, List.length_singleton]; omega)
                rw [es, Option.bind_some, put_old g e (by omega), Option.bind_some]
                refine ⟨_, rfl, h2, _, rfl, g.set e sp (fun w => ?_) (fun d md => ?_), r.set2 g e fun d md => (sm d).mpr (List.mem_append_left _ md)⟩
                · have := (sm k2).mpr (by simp)
                  rw [w] at this
                  exact List.not_mem_nil this
                · rcases List.mem_append.mp ((sm d).mp md) with w | w
                  · exact ok.2.2.2.2 d w
                  · rw [List.mem_singleton.mp w]; omega
              | false =>
                rw [cond_false]
                exact last
            · rw [beq_eq_false_iff_ne.mpr w2, cond_false, Option.bind_some, cond_false]
              exact last
    · rintro ⟨pot, found⟩ J
      exact ⟨_, rfl, J⟩
  · rintro ⟨pot, found⟩ ⟨hp, fs, ef, g, r⟩
    dsimp only at hp ef ⊢
    subst ef
    have fl := bd g
    rw [Option.bind_some, keys_Ds, Option.bind_some, flatU_1 (e := fun q : PostS => kd q.c q.nm) (g := postT) (fun q mq => by
      rw [at_Ds g mq, Option.bind_some, tup_l, Option.bind_some]
      rfl), Option.bind_some, limU_ok (by rw [List.length_map]; omega), Option.bind_some]
    obtain ⟨M, eM, pM, sM⟩ := sort_posts fs
    rw [eM, Option.bind_some, tup_l, Option.bind_some]
    have gM : Gd n zs M := ⟨(pM.map keyP).nodup_iff.mpr g.nd, fun q mq => g.ok q (pM.mem_iff.mp mq)⟩
    refine ⟨_, rfl, M, rfl, hp, gM, sM, fun w p mp => ?_, fun w p mp => ?_⟩
    · obtain ⟨x, mx, hx⟩ := r.1 w p mp
      exact ⟨x, pM.mem_iff.mpr mx, hx⟩
    · exact r.2 w p (pM.mem_iff.mp mp)
theorem changed_u {fx : Bool} {p : Da} {way : Nat} (h : PotU p) (hn : n ≤ 50) (hz : zs.length ≤ 26) (hg : Gd n zs base) (hw : way < 4) :
    ∃ (posts : List PostS) (p' : Da), uR1 F_law_changed [pA fx p, .d (webT n base), .d (.list (zs.map Da.str)), .d (.int (way : Int))] 0 = some (webT n posts, p') ∧ PotU p' ∧ Gd n zs posts ∧ posts.Pairwise (fun a b => leD postP a b = true) ∧ Rl way base posts := by
  obtain ⟨⟨r, p'⟩, e, posts, e1, h1, rest⟩ := changed_w h hn hz hg hw
  dsimp only at e1 h1
  subst e1
  exact ⟨posts, p', uR1_of (tx_law_changed e) rfl rfl, h1, rest⟩
end
end K67
namespace K67
open PySem PySem.Spec PyProof.Rows L2 Gk Vm Wo Mth
section
variable {n m : Nat} {posts posts2 : List PostS}
def moreB (posts posts2 : List PostS) : Bool := posts2.all fun p => match posts.find? fun q => decide (q.c = p.c ∧ q.nm = p.nm) with
  | none => false
  | some q => q.arms.all fun d => decide (d ∈ p.arms)
theorem more_n (hp : PostsOk n posts) (hl : posts.length ≤ 10000) (ha : ∀ q ∈ posts, q.arms.length ≤ 1000) : uC F_knows_more [.d (webT n posts), .d (webT n posts2)] = some (.bool (moreB posts posts2)) := by
  have lim : LIM = 1000000 := rfl
  have key : Wp (u_knows_more (webT n posts) (webT n posts2)) fun r => r = .bool (moreB posts posts2) := by
    unfold u_knows_more
    rw [posted_arms_n hp hl, Option.bind_some, sub_web, Option.bind_some, it_t, Option.bind_some]
    rw [forE_any (e := postT) (t := fun p : PostS => !(match posts.find? fun q => decide (q.c = p.c ∧ q.nm = p.nm) with
      | none => false
      | some q => q.arms.all fun d => decide (d ∈ p.arms))) (r := Da.bool false) (fun p mp => by
      rw [show un3 (postT p) = some (.int (p.c : Int), .str p.nm, natsT p.arms) from rfl, Option.bind_some]
      dsimp only
      rw [show (fIn true) (Da.tuple [.int (p.c : Int), .str p.nm]) (.dt (posted posts)) = some (.bool (!(posts.find? fun q => decide (q.c = p.c ∧ q.nm = p.nm)).isSome)) by
        unfold fIn
        show ((lookD (.dt (posted posts)) (Da.tuple [.int (p.c : Int), .str p.nm])).bind fun r => some r.isSome).map _ = _
        rw [look_posted, Option.bind_some, Option.isSome_map, Option.isSome_map]
        rfl, Option.bind_some, asB_b, Option.bind_some]
      cases e : posts.find? fun q => decide (q.c = p.c ∧ q.nm = p.nm) with
      | none => rfl
      | some q =>
        have h1 := ha q (List.mem_of_find?_eq_some e)
        rw [show (!(some q : Option PostS).isSome) = false from rfl, cond_false, show fSubs (.dt (posted posts)) (Da.tuple [.int (p.c : Int), .str p.nm]) = some (natsT q.arms) by
          show (lookD (.dt (posted posts)) (Da.tuple [.int (p.c : Int), .str p.nm])).bind id = _
          rw [look_posted, e]
          rfl, Option.bind_some, iter_nats, Option.bind_some, flatU_1 (g := fun d : Nat => Da.bool (decide (d ∈ p.arms))) (fun d md => by
          rw [in_natsF, Option.bind_some]), Option.bind_some, limU_ok (by rw [List.length_map]; omega), Option.bind_some, show (q.arms.map fun d : Nat => Da.bool (decide (d ∈ p.arms))) = (q.arms.map fun d : Nat => decide (d ∈ p.arms)).map Da.bool by rw [List.map_map]; rfl, all_go, Option.bind_some, tru_b, List.all_map]
        show cond (!(q.arms.all fun d => decide (d ∈ p.arms))) _ _ = _
        by_cases hq : (q.arms.all fun d => decide (d ∈ p.arms)) = true
        · simp only [hq]
          rfl
        · simp only [Bool.not_eq_true _ |>.mp hq]
          rfl), Option.bind_some]
    rw [show (posts2.any fun p : PostS => !(match posts.find? fun q => decide (q.c = p.c ∧ q.nm = p.nm) with
      | none => false
      | some q => q.arms.all fun d => decide (d ∈ p.arms))) = !(moreB posts posts2) by
      unfold moreB
      rw [List.not_all_eq_any_not]]
    cases moreB posts posts2 with
    | true => exact ⟨_, rfl, rfl⟩
    | false => exact ⟨_, rfl, rfl⟩
  obtain ⟨r, e, rfl⟩ := key
  exact uC_of (v := .one (.d _)) (tx_knows_more e)
theorem lay_web {n : Nat} {posts : List PostS} (h : ∀ q ∈ posts, PyData.strOk q.nm = true) : LayD (webT n posts) 4 := by
  have p1 : ∀ x ∈ posts.map postT, LayD x 2 := fun x m => by
    obtain ⟨q, mq, rfl⟩ := List.mem_map.mp m
    exact lay_tup (k := 1) (List.forall_mem_cons.mpr ⟨(lay_int _).mono (by decide), List.forall_mem_cons.mpr ⟨(lay_str (h q mq)).mono (by decide), List.forall_mem_cons.mpr ⟨lay_natsT q.arms, fun x m => (List.not_mem_nil m).elim⟩⟩⟩)
  exact lay_tup (k := 3) (List.forall_mem_cons.mpr ⟨(lay_int _).mono (by decide), List.forall_mem_cons.mpr ⟨lay_tup p1, fun x m => (List.not_mem_nil m).elim⟩⟩)
theorem eq_kd {c d : Nat} {y z : Str} (hy : PyData.strOk y = true) (hz : PyData.strOk z = true) : fEqS (kd c y) (kd d z) = some (.bool (decide (c = d ∧ y = z))) := by
  have l : ∀ {c : Nat} {y : Str}, PyData.strOk y = true → LayD (kd c y) 1 := fun h => lay_tup (k := 0) (List.forall_mem_cons.mpr ⟨lay_int _, List.forall_mem_cons.mpr ⟨lay_str h, fun x m => (List.not_mem_nil m).elim⟩⟩)
  rw [eq_lay (l hy) (l hz) (by decide) (by decide) rfl rfl]
  congr 2
  refine decide_eq_decide.mpr ⟨fun h => ?_, fun h => by rw [h.1, h.2]⟩
  injection h with h
  injection h with h1 h
  injection h with h2 _
  injection h1 with h1
  injection h2 with h2
  exact ⟨Int.ofNat_inj.mp h1, h2⟩
theorem dec_false {p : Prop} {i : Decidable p} (h : ¬ p) : @decide p i = false := by
  cases i with
  | isTrue z => exact (h z).elim
  | isFalse _ => rfl
theorem due_n (hp : PostsOk n posts) (hl : posts.length ≤ 10000) (ha : ∀ q ∈ posts, q.arms.length ≤ 1000) (h1 : ∀ q ∈ posts, PyData.strOk q.nm = true) (h2 : ∀ q ∈ posts2, PyData.strOk q.nm = true) : uC F_law_due [.d (webT n posts), .d (webT n posts2)] = some (.bool (moreB posts posts2)) := by
  have lim : LIM = 1000000 := rfl
  have key : Wp (u_law_due (webT n posts) (webT n posts2)) fun r => r = .bool (moreB posts posts2) := by
    unfold u_law_due
    rw [sub_web, Option.bind_some, it_t, Option.bind_some]
    rw [forE_any (e := postT) (t := fun p : PostS => !(match posts.find? fun q => decide (q.c = p.c ∧ q.nm = p.nm) with
      | none => false
      | some q => q.arms.all fun d => decide (d ∈ p.arms))) (r := Da.bool false) (fun p mp => by
      rw [show un3 (postT p) = some (.int (p.c : Int), .str p.nm, natsT p.arms) from rfl, Option.bind_some]
      dsimp only
      rw [sub_web, Option.bind_some, it_t, Option.bind_some, flatU_f (e := postT) (p := fun q : PostS => decide (q.c = p.c ∧ q.nm = p.nm)) (g := fun q => natsT q.arms) (fun q mq => by
        rw [show fSl none (some 2) (postT q) = some (kd q.c q.nm) from cut2, Option.bind_some, eq_kd (h1 q mq) (h2 p mp), Option.bind_some, asB_b, Option.bind_some]
        cases decide (q.c = p.c ∧ q.nm = p.nm)
        · rfl
        · rfl), Option.bind_some, find_filter hp.key]
      have fl : (posts.find? fun q => decide (q.c = p.c ∧ q.nm = p.nm)).toList.length ≤ 1 := by cases posts.find? _ <;> simp
      rw [limU_ok (by rw [List.length_map]; omega), Option.bind_some, Option.bind_some]
      cases e : posts.find? fun q => decide (q.c = p.c ∧ q.nm = p.nm) with
      | none =>
        rw [show fEqS (Da.list (((none : Option PostS).toList).map fun q => natsT q.arms)) (.list []) = some (.bool true) from self_eq (lay_list (k := 0) fun x m => (List.not_mem_nil m).elim) (by decide), Option.bind_some, asB_b, Option.bind_some]
        rfl
      | some q =>
        have hA := ha q (List.mem_of_find?_eq_some e)
        rw [show fEqS (Da.list (((some q : Option PostS).toList).map fun q => natsT q.arms)) (.list []) = some (.bool false) by
          rw [eq_lay (k := 2) (m := 1) (lay_list fun x m => by rw [List.mem_singleton.mp m]; exact lay_natsT _) (lay_list (k := 0) fun x m => (List.not_mem_nil m).elim) (by decide) (by decide) (nbA_of fun x m => by rw [List.mem_singleton.mp m]; exact nb_natsT _) rfl]
          congr 2
          exact dec_false fun h => (by injection h with h; cases h), Option.bind_some, asB_b, Option.bind_some, cond_false, show fSubs (Da.list (((some q : Option PostS).toList).map fun q => natsT q.arms)) (.int 0) = some (natsT q.arms) from rfl, Option.bind_some, iter_nats, Option.bind_some]
        rw [flatU_f (p := fun d : Nat => !decide (d ∈ p.arms)) (g := fun d : Nat => Da.int (d : Int)) (fun d md => by
          rw [in_nats, Option.bind_some, asB_b, Option.bind_some, if_pos rfl]
          cases decide (d ∈ p.arms) <;> rfl), Option.bind_some, limU_ok (by rw [List.length_map]; have := List.length_filter_le (fun d : Nat => !decide (d ∈ p.arms)) q.arms; omega), Option.bind_some, show fNeS (Da.list ((q.arms.filter fun d : Nat => !decide (d ∈ p.arms)).map fun d : Nat => Da.int (d : Int))) (.list []) = _ from ne_il _, Option.bind_some, asB_b, Option.bind_some, Option.bind_some]
        have : (q.arms.filter fun d : Nat => !decide (d ∈ p.arms)).isEmpty = q.arms.all fun d => decide (d ∈ p.arms) := by
          rw [Bool.eq_iff_iff, List.isEmpty_iff, List.filter_eq_nil_iff, List.all_eq_true]
          simp
        rw [this]
        show cond (!(q.arms.all fun d => decide (d ∈ p.arms))) _ _ = some (if (!(q.arms.all fun d => decide (d ∈ p.arms))) = true then _ else _)
        cases q.arms.all fun d => decide (d ∈ p.arms) <;> rfl), Option.bind_some]
    rw [show (posts2.any fun p : PostS => !(match posts.find? fun q => decide (q.c = p.c ∧ q.nm = p.nm) with
      | none => false
      | some q => q.arms.all fun d => decide (d ∈ p.arms))) = !(moreB posts posts2) by
      unfold moreB
      rw [List.not_all_eq_any_not]]
    cases moreB posts posts2 with
    | true => exact ⟨_, rfl, rfl⟩
    | false => exact ⟨_, rfl, rfl⟩
  obtain ⟨r, e, rfl⟩ := key
  exact uC_of (v := .one (.d _)) (tx_law_due e)
end
section
variable {n : Nat} {zs : List Str} {A B C : List PostS}
theorem more_iff (h : Gd n zs A) : moreB A B = true ↔ Kno B A := by
  unfold moreB
  rw [List.all_eq_true]
  constructor
  · intro w p mp
    have := w p mp
    cases e : A.find? fun q => decide (q.c = p.c ∧ q.nm = p.nm) with
    | none => rw [e] at this; cases this
    | some q =>
      rw [e] at this
      obtain ⟨m, e1, e2⟩ := fnd_some (show fnd A p.c p.nm = some q from e)
      exact ⟨q, m, e1, e2, fun d md => of_decide_eq_true (List.all_eq_true.mp this d md)⟩
  · intro w p mp
    obtain ⟨q, m, e1, e2, e3⟩ := w p mp
    have := fnd_mem h m
    rw [e1, e2] at this
    rw [show A.find? (fun q => decide (q.c = p.c ∧ q.nm = p.nm)) = some q from this]
    exact List.all_eq_true.mpr fun d md => decide_eq_true (e3 d md)
theorem kno_trans (h1 : Kno B A) (h2 : Kno C B) : Kno C A := fun p mp => by
  obtain ⟨q, mq, a1, a2, a3⟩ := h2 p mp
  obtain ⟨r, mr, b1, b2, b3⟩ := h1 q mq
  exact ⟨r, mr, b1.trans a1, b2.trans a2, fun d md => a3 d (b3 d md)⟩
theorem kno_mem (ha : Gd n zs A) (hb : Gd n zs B) (h1 : Kno B A) (h2 : Kno A B) : ∀ p ∈ B, p ∈ A := fun p mp => by
  obtain ⟨q, mq, a1, a2, a3⟩ := h1 p mp
  obtain ⟨r, mr, b1, b2, b3⟩ := h2 q mq
  have e : r = p := hb.one mr mp ⟨b1.trans a1, b2.trans a2⟩
  subst e
  have ea : q.arms = r.arms := by
    have p1 := (ha.ok q mq).2.2.1
    have p2 := (hb.ok r mp).2.2.1
    have n1 : q.arms.Nodup := p1.imp fun {a b} h => Nat.ne_of_lt h
    have n2 : r.arms.Nodup := p2.imp fun {a b} h => Nat.ne_of_lt h
    refine List.Perm.eq_of_pairwise (le := fun a b : Nat => a ≤ b) (fun a b _ _ x y => Nat.le_antisymm x y) (p1.imp Nat.le_of_lt) (p2.imp Nat.le_of_lt) ((List.perm_ext_iff_of_nodup n1 n2).mpr fun d => ⟨a3 d, b3 d⟩)
  have : q = r := by
    cases q
    cases r
    dsimp only at a1 a2 ea
    rw [a1, a2, ea]
  rw [← this]
  exact mq
theorem posts_nd (h : Gd n zs A) : A.Nodup := nodup_of h.nd
theorem kno_eq (ha : Gd n zs A) (hb : Gd n zs B) (sa : A.Pairwise fun a b => leD postP a b = true) (sb : B.Pairwise fun a b => leD postP a b = true) (h1 : Kno B A) (h2 : Kno A B) : A = B := by
  have pm : A.Perm B := (List.perm_ext_iff_of_nodup (posts_nd ha) (posts_nd hb)).mpr fun p => ⟨kno_mem hb ha h2 h1 p, kno_mem ha hb h1 h2 p⟩
  refine List.Perm.eq_of_pairwise (le := fun a b => leD postP a b = true) (fun a b ma mb x y => ?_) sa sb pm
  have k := leD_anti x y
  have et : ∀ x : PostS, PySem.W.keyToks (postP x) = .inl 1 :: .inl (x.c : Int) :: .inl 1 :: .inr x.nm.cps.toList :: ((.inl 1 :: (PySem.W.keyToks (.tuple (x.arms.map fun b : Nat => PyData.int (b : Int))) ++ [.inl 0]))) := fun x => by
    unfold postP
    simp [PySem.W.keyToks, PySem.W.keyToksAll]
  rw [et, et] at k
  injection k with _ k
  injection k with k1 k
  injection k with _ k
  injection k with k2 _
  injection k1 with k1
  injection k2 with k2
  have e1 : a.c = b.c := Int.ofNat_inj.mp k1
  have e2 : a.nm = b.nm := by
    generalize a.nm = u at k2 ⊢
    generalize b.nm = v at k2 ⊢
    cases u
    cases v
    congr 1
    exact Array.toList_inj.mp k2
  exact ha.one ma (pm.mem_iff.mpr mb) ⟨e1, e2⟩
theorem le_postP {a b : PostS} (h : postLt a b) : leD postP a b = true := by
  unfold leD PySem.W.dataLe PySem.W.sortLe
  simp only [cond_false, Bool.not_eq_true']
  have e : ∀ x : PostS, PySem.W.keyToks (postP x) = .inl 1 :: .inl (x.c : Int) :: .inl 1 :: .inr x.nm.cps.toList :: ((.inl 1 :: (PySem.W.keyToks (.tuple (x.arms.map fun b : Nat => PyData.int (b : Int))) ++ [.inl 0]))) := fun x => by
    unfold postP
    simp [PySem.W.keyToks, PySem.W.keyToksAll]
  show PyProof.Rows.lexLt itemOrd (PySem.W.keyToks (postP b)) (PySem.W.keyToks (postP a)) = false
  rw [e, e, lex_self (O := itemOrd)]
  rcases h with h | ⟨h, h2⟩
  · exact (lex_false (O := itemOrd)).mpr ⟨decide_eq_false (by omega), .inl (decide_eq_true (by omega))⟩
  · rw [h, lex_self (O := itemOrd), lex_self (O := itemOrd)]
    refine (lex_false (O := itemOrd)).mpr ⟨?_, .inl h2⟩
    cases h3 : itemOrd.blt (.inr b.nm.cps.toList) (.inr a.nm.cps.toList) with
    | false => rfl
    | true =>
      have := itemOrd.trans _ _ _ (show itemOrd.blt (.inr a.nm.cps.toList) (.inr b.nm.cps.toList) = true from h2) h3
      rw [itemOrd.irrefl] at this
      cases this
theorem gd_web {n : Nat} {posts : List PostS} (hp : PostsOk n posts) (hz : ∀ q ∈ posts, q.nm ∈ zs) (ha : ∀ p ∈ posts, p.arms.Pairwise (· ≤ ·)) : Gd n zs posts := ⟨hp.key, fun q mq => by
  obtain ⟨a1, a2, a3, a4⟩ := hp.arm q mq
  exact ⟨a4, hz q mq, ((ha q mq).and a1).imp fun ⟨x, y⟩ => Nat.lt_of_le_of_ne x y, a2, a3⟩⟩
theorem ok_gd (h : Gd n zs A) : PostsOk n A := ⟨fun q mq => ⟨(h.ok q mq).2.2.1.imp fun {a b} h => Nat.ne_of_lt h, (h.ok q mq).2.2.2.1, (h.ok q mq).2.2.2.2, (h.ok q mq).1⟩, h.nd⟩
end
end K67
namespace K67
open PySem PySem.Spec PyProof.Rows L2 Gk Vm Wo Mth
abbrev kk (i j : Nat) : List Key := [.inl (i : Int), .inl (j : Int)]
theorem kk_inj {a b c d : Nat} : kk a b = kk c d ↔ a = c ∧ b = d := by
  constructor
  · intro h
    injection h with h1 h
    injection h with h2 _
    injection h1 with h1
    injection h2 with h2
    exact ⟨Int.ofNat_inj.mp h1, Int.ofNat_inj.mp h2⟩
  · rintro ⟨rfl, rfl⟩; rfl
theorem valA_putD {κ τ : Type} [DecidableEq κ] {k : κ} {c : τ} {kvs : List (κ × τ)} {k' : κ} : valA (putD kvs k c) k' = if k' = k then some c else valA kvs k' := by
  unfold putD
  split
  · rename_i h
    by_cases e : k' = k
    · subst e
      rw [if_pos rfl]
      induction kvs with
      | nil => simp at h
      | cons kv r ih =>
        unfold valA at ih ⊢
        rw [List.map_cons, List.find?_cons]
        by_cases z : kv.1 = k'
        · rw [if_pos z, decide_eq_true (show (kv.1, c).1 = k' from z)]; rfl
        · rw [if_neg z, decide_eq_false z]
          rw [List.any_cons, decide_eq_false z, Bool.false_or] at h
          exact ih h
    · rw [if_neg e]
      clear h
      induction kvs with
      | nil => rfl
      | cons kv r ih =>
        unfold valA at ih ⊢
        rw [List.map_cons, List.find?_cons, List.find?_cons]
        by_cases z : kv.1 = k
        · rw [if_pos z, decide_eq_false (show ¬ kv.1 = k' from fun w => e (w.symm.trans z))]
          exact ih
        · rw [if_neg z]
          by_cases w : kv.1 = k'
          · rw [decide_eq_true w]
          · rw [decide_eq_false w]; exact ih
  · rename_i h
    unfold valA
    rw [List.find?_append]
    by_cases e : k' = k
    · subst e
      rw [if_pos rfl]
      have : kvs.find? (fun kv => decide (kv.1 = k')) = none := by
        rw [List.find?_eq_none]
        intro x m z
        exact h (List.any_eq_true.mpr ⟨x, m, z⟩)
      rw [this]
      simp
    · rw [if_neg e]
      cases kvs.find? fun kv => decide (kv.1 = k') with
      | some y => rfl
      | none => simp [Ne.symm e]
theorem at_tb {kvs : List (List Key × Da)} {i j : Nat} {v : Da} (h : valA kvs (kk i j) = some v) : fSubs (.dt kvs) (.tuple [.int (i : Int), .int (j : Int)]) = some v := by
  show ((some (valA kvs (kk i j))).bind id) = _
  rw [h]
  rfl
theorem set_tb {kvs : List (List Key × Da)} {i j : Nat} {v : Da} (h : kvs.length < LIM) : setDa (.dt kvs) (.tuple [.int (i : Int), .int (j : Int)]) v = some (.dt (putD kvs (kk i j) v)) := by
  show (if kvs.length < LIM then some (Da.dt (putD kvs (kk i j) v)) else none) = _
  rw [if_pos h]
theorem shd_bool (b : Bool) : ShD (.bool b) 0 8 := by cases b <;> exact ⟨_, rfl, by constructor <;> decide +kernel⟩
structure Cn (n : Nat) (zs : List Str) (W : List PostS) : Prop where
  gd : Gd n zs W
  pw : W.Pairwise fun a b => leD postP a b = true
section
variable {n : Nat} {zs : List Str}
/-- what is told of eight webs -/
theorem pairs_w {W : Nat → List PostS} {some_ : Da} {pot : Da} (hn : n ≤ 40) (hz : zs.length ≤ 3) (hN : ∀ z ∈ zs, Nm z) (hE : enuL some_ = some ((List.range 8).map fun i : Nat => Da.tuple [.int (i : Int), webT n (W i)])) (hC : ∀ i, i < 8 → Cn n zs (W i)) (hL : fLenB [some_] = some (.int 8))
    (h10 : Kno (W 0) (W 1)) (h20 : Kno (W 0) (W 2)) (h03 : Kno (W 3) (W 0)) (h6 : n ≤ 6) :
    Wp ((enuL some_).bind fun xs_1 =>
 (forE (ρ := Da × Da) (fun q (table_1 : Da) =>
 (un2 q).bind fun (at_, here) =>
 (enuL some_).bind fun xs_2 =>
 (forE (ρ := Da × Da) (fun q_1 (table_2 : Da) =>
 (un2 q_1).bind fun (to, there) =>
 (fRepr [(Da.tuple [here, there])]).bind fun kept =>
 (uC F_law_due [AV.d here, AV.d there]).bind fun due =>
 (uC F_knows_more [AV.d here, AV.d there]).bind fun e_16 =>
 (uC F_knows_more [AV.d here, AV.d there]).bind fun e_17 =>
 (fRepr [(Da.list [e_16, e_17])]).bind fun e_18 =>
 (fRepr [(Da.list [due, due])]).bind fun e_19 =>
 (fNeS e_18 e_19).bind fun e_20 =>
 (asB e_20).bind fun t =>
 cond t (some (.rt ((Da.bool false), pot))) ((cond (truD due) ((uC F_law_due [AV.d there, AV.d here]).bind fun e_21 =>
 (cond (truD e_21) ((fNeS here there).bind fun e_22 =>
 (asB e_22).bind fun t_1 =>
 some t_1) (some false)).bind fun t_2 =>
 some t_2) (some false)).bind fun t_3 =>
 (cond t_3 (some true) ((fRepr [(Da.tuple [here, there])]).bind fun e_23 =>
 (fNeS e_23 kept).bind fun e_24 =>
 (asB e_24).bind fun t_4 =>
 some t_4)).bind fun t_5 =>
 cond t_5 (some (.rt ((Da.bool false), pot))) ((setDa table_2 (Da.tuple [at_, to]) due).bind fun table_3 =>
 some (.nx table_3)))) xs_2 table_1).bind fun o_ =>
lpL o_ fun (table_4 : Da) =>
 some (.nx table_4)) xs_1 (Da.dt [])).bind fun o__1 =>
 lpK o__1 fun (table_5 : Da) =>
 (fLenB [some_]).bind fun e_25 =>
 (rg1U e_25).bind fun xs_3 =>
 (forE (ρ := Da × Da) (fun at__1 (_ : Unit) =>
 (fLenB [some_]).bind fun e_26 =>
 (rg1U e_26).bind fun xs_4 =>
 (forE (ρ := Da × Da) (fun to_1 (_ : Unit) =>
 (fLenB [some_]).bind fun e_27 =>
 (rg1U e_27).bind fun xs_5 =>
 (flatU (fun last =>
 (fSubs table_5 (Da.tuple [to_1, last])).bind fun e_28 =>
 cond (truD e_28) (some [last]) (some [])) xs_5).bind fun ys_2 =>
 (limU ys_2).bind fun ys_3 =>
 (some (Da.list ys_3)).bind fun later =>
 (fSubs table_5 (Da.tuple [at__1, to_1])).bind fun e_29 =>
 (cond (truD e_29) ((iterU later).bind fun xs_6 =>
 (flatU (fun last_1 =>
 (fSubs table_5 (Da.tuple [at__1, last_1])).bind fun e_30 =>
 some [e_30]) xs_6).bind fun ys_4 =>
 (limU ys_4).bind fun ys_5 =>
 (fAll [(Da.list ys_5)]).bind fun e_31 =>
 some (!(truD e_31))) (some false)).bind fun t_6 =>
 cond t_6 (some (.rt ((Da.bool false), pot))) (some (.nx ()))) xs_4 ()).bind fun o__2 =>
lpL o__2 fun (_ : Unit) =>
 some (.nx ())) xs_3 ()).bind fun o__3 =>
 lpK o__3 fun (_ : Unit) =>
 (fLenB [some_]).bind fun e_32 =>
 (rg1U e_32).bind fun xs_7 =>
 (flatU (fun at__2 =>
 (fSubs table_5 (Da.tuple [at__2, at__2])).bind fun e_33 =>
 some [e_33]) xs_7).bind fun ys_6 =>
 (limU ys_6).bind fun ys_7 =>
 (fAll [(Da.list ys_7)]).bind fun e_34 =>
 (asB e_34).bind fun t_7 =>
 (cond t_7 ((fSubs table_5 (Da.tuple [(Da.int 1), (Da.int 0)])).bind fun e_35 =>
 (asB e_35).bind fun t_8 =>
 (cond t_8 ((fSubs table_5 (Da.tuple [(Da.int 2), (Da.int 0)])).bind fun e_36 =>
 (asB e_36).bind fun t_9 =>
 (cond t_9 ((fSubs table_5 (Da.tuple [(Da.int 0), (Da.int 3)])).bind fun e_37 =>
 some e_37) (some (Da.bool false))).bind fun e_38 =>
 some e_38) (some (Da.bool false))).bind fun e_39 =>
 some e_39) (some (Da.bool false))).bind fun e_40 =>
 some (e_40, pot)) fun r => r.1 = Da.bool true := by
  have lim : LIM = 1000000 := rfl
  have len : ∀ i, i < 8 → (W i).length ≤ 18 := fun i hi => Nat.le_trans (hC i hi).gd.len (Nat.mul_le_mul h6 hz)
  have arm : ∀ i, i < 8 → ∀ q ∈ W i, q.arms.length ≤ 40 := fun i hi q mq => by
    have := (hC i hi).gd.ok q mq
    have := arms_le this.2.2.1 this.2.2.2.2
    omega
  have str : ∀ i, i < 8 → ∀ q ∈ W i, PyData.strOk q.nm = true := fun i hi q mq => nm_ok (hN _ ((hC i hi).gd.ok q mq).2.1)
  have more : ∀ i j, i < 8 → j < 8 → uC F_knows_more [AV.d (webT n (W i)), AV.d (webT n (W j))] = some (.bool (moreB (W i) (W j))) := fun i j hi hj => more_n (ok_gd (hC i hi).gd) (by have := len i hi; omega) fun q mq => by have := arm i hi q mq; omega
  have due : ∀ i j, i < 8 → j < 8 → uC F_law_due [AV.d (webT n (W i)), AV.d (webT n (W j))] = some (.bool (moreB (W i) (W j))) := fun i j hi hj => due_n (ok_gd (hC i hi).gd) (by have := len i hi; omega) (fun q mq => by have := arm i hi q mq; omega) (str i hi) (str j hj)
  have rep : ∀ i j, i < 8 → j < 8 → ∃ z, fRepr [Da.tuple [webT n (W i), webT n (W j)]] = some (.str z) := fun i j hi hj => by
    have sh : ∀ i, i < 8 → ShD (webT n (W i)) 4 200000 := fun i hi => shd_web hn hN (ok_gd (hC i hi).gd) (fun e me => ⟨((hC i hi).gd.ok e me).2.1, by have := arm i hi e me; omega⟩) (by have := len i hi; omega)
    exact repr_go (shd_tup 2 (k := 4) (n := 200000) (List.forall_mem_cons.mpr ⟨sh i hi, List.forall_mem_cons.mpr ⟨sh j hj, fun x m => (List.not_mem_nil m).elim⟩⟩) (by simp) (by decide)) (by decide) (by decide)
  have rng : rg1U (Da.int 8) = some ((List.range 8).map fun k : Nat => Da.int (k : Int)) := rg1_n (n := 8) (by decide)
  have tr : ∀ i j l, i < 8 → j < 8 → l < 8 → moreB (W i) (W j) = true → moreB (W j) (W l) = true → moreB (W i) (W l) = true := fun i j l hi hj hl a b => (more_iff (hC i hi).gd).mpr (kno_trans ((more_iff (hC i hi).gd).mp a) ((more_iff (hC j hj).gd).mp b))
  rw [hE, Option.bind_some]
  refine wpb_forE (List.range 8) (fun i : Nat => Da.tuple [.int (i : Int), webT n (W i)]) (fun done s => ∃ kvs : List (List Key × Da), s = .dt kvs ∧ kvs.length ≤ done.length * 8 ∧ ∀ i ∈ done, ∀ j, j < 8 → valA kvs (kk i j) = some (.bool (moreB (W i) (W j)))) ⟨[], rfl, Nat.zero_le _, fun i m => (List.not_mem_nil m).elim⟩ ?_ ?_
  · rintro done i rest _ ed ⟨kvs, rfl, hl, hv⟩
    obtain ⟨edn, hi⟩ := range_at ed
    rw [un2_t, Option.bind_some]
    dsimp only
    refine wpb_forE (List.range 8) (fun i : Nat => Da.tuple [.int (i : Int), webT n (W i)]) (fun doneJ s => ∃ kvs : List (List Key × Da), s = .dt kvs ∧ kvs.length ≤ done.length * 8 + doneJ.length ∧ (∀ i ∈ done, ∀ j, j < 8 → valA kvs (kk i j) = some (.bool (moreB (W i) (W j)))) ∧ ∀ j ∈ doneJ, valA kvs (kk i j) = some (.bool (moreB (W i) (W j)))) ⟨kvs, rfl, hl, hv, fun j m => (List.not_mem_nil m).elim⟩ ?_ ?_
    · rintro doneJ j restJ _ edJ ⟨kvs, rfl, hl, hv, hvj⟩
      obtain ⟨edj, hj⟩ := range_at edJ
      rw [un2_t, Option.bind_some]
      dsimp only
      obtain ⟨z, ez⟩ := rep i j hi hj
      rw [ez, Option.bind_some, due i j hi hj, Option.bind_some, more i j hi hj, Option.bind_some, Option.bind_some]
      obtain ⟨z2, ez2⟩ : ∃ z, fRepr [Da.list [.bool (moreB (W i) (W j)), .bool (moreB (W i) (W j))]] = some (.str z) := by
        exact repr_go (shd_lst 2 (k := 0) (n := 8) (List.forall_mem_cons.mpr ⟨shd_bool _, List.forall_mem_cons.mpr ⟨shd_bool _, fun x m => (List.not_mem_nil m).elim⟩⟩) (by simp) (by decide)) (by decide) (by decide)
      rw [ez2, Option.bind_some, Option.bind_some, ne_s, Option.bind_some, asB_b, Option.bind_some, beq_self_eq_true, Bool.not_true, cond_false, tru_b]
      have t3 : (cond (moreB (W i) (W j)) ((uC F_law_due [AV.d (webT n (W j)), AV.d (webT n (W i))]).bind fun e_21 => (cond (truD e_21) ((fNeS (webT n (W i)) (webT n (W j))).bind fun e_22 => (asB e_22).bind fun t_1 => some t_1) (some false)).bind fun t_2 => some t_2) (some false)) = some false := by
        cases e1 : moreB (W i) (W j) with
        | false => rfl
        | true =>
          rw [cond_true, due j i hj hi, Option.bind_some, tru_b]
          cases e2 : moreB (W j) (W i) with
          | false => rfl
          | true =>
            have ew : W i = W j := kno_eq (hC i hi).gd (hC j hj).gd (hC i hi).pw (hC j hj).pw ((more_iff (hC i hi).gd).mp e1) ((more_iff (hC j hj).gd).mp e2)
            rw [cond_true, ew, self_ne (lay_web (str j hj)) (by decide), Option.bind_some, asB_b]
            rfl
      rw [t3, Option.bind_some, cond_false, Option.bind_some, ne_s, Option.bind_some, asB_b, Option.bind_some, beq_self_eq_true, Bool.not_true, Option.bind_some, cond_false]
      have b1 : done.length ≤ 8 := by omega
      rw [set_tb (by omega), Option.bind_some]
      refine ⟨_, rfl, _, rfl, _, rfl, ?_, ?_, ?_⟩
      · have := putD_length kvs (kk i j) (Da.bool (moreB (W i) (W j)))
        rw [List.length_append, List.length_singleton]
        omega
      · intro i' mi j' hj'
        rw [valA_putD]
        by_cases e : kk i' j' = kk i j
        · rw [if_pos e, (kk_inj.mp e).1, (kk_inj.mp e).2]
        · rw [if_neg e]; exact hv i' mi j' hj'
      · intro j' mj
        rw [valA_putD]
        by_cases e : kk i j' = kk i j
        · rw [if_pos e, (kk_inj.mp e).2]
        · rw [if_neg e]
          rcases List.mem_append.mp mj with w | w
          · exact hvj j' w
          · exact (e (by rw [List.mem_singleton.mp w])).elim
    · rintro _ ⟨kvs, rfl, hl, hv, hvj⟩
      rw [List.length_range] at hl
      refine ⟨_, rfl, _, rfl, kvs, rfl, by rw [List.length_append, List.length_singleton]; omega, fun i' mi j hj => ?_⟩
      rcases List.mem_append.mp mi with w | w
      · exact hv i' w j hj
      · rw [List.mem_singleton.mp w]; exact hvj j (List.mem_range.mpr hj)
  · rintro _ ⟨kvs, rfl, hl, hv0⟩
    have hv : ∀ i j : Nat, i < 8 → j < 8 → fSubs (.dt kvs) (.tuple [.int (i : Int), .int (j : Int)]) = some (.bool (moreB (W i) (W j))) := fun i j hi hj => at_tb (hv0 i (List.mem_range.mpr hi) j hj)
    show Wp ((fLenB [some_]).bind fun e_25 => _) _
    rw [hL, Option.bind_some, rng, Option.bind_some]
    rw [forE_any (e := fun k : Nat => Da.int (k : Int)) (t := fun _ => false) (r := ((Da.bool false, pot) : Da × Da)) (fun i mi => by
      have hi := List.mem_range.mp mi
      rw [Option.bind_some, rng, Option.bind_some]
      rw [forE_any (e := fun k : Nat => Da.int (k : Int)) (t := fun _ => false) (r := ((Da.bool false, pot) : Da × Da)) (fun j mj => by
        have hj := List.mem_range.mp mj
        rw [Option.bind_some, rng, Option.bind_some, flatU_f (p := fun l : Nat => moreB (W j) (W l)) (g := fun l : Nat => Da.int (l : Int)) (fun l ml => by
          rw [hv j l hj (List.mem_range.mp ml), Option.bind_some, tru_b]
          cases moreB (W j) (W l) <;> rfl), Option.bind_some]
        have fl := List.length_filter_le (fun l : Nat => moreB (W j) (W l)) (List.range 8)
        rw [List.length_range] at fl
        rw [limU_ok (by rw [List.length_map]; omega), Option.bind_some, Option.bind_some, hv i j hi hj, Option.bind_some, tru_b]
        cases e : moreB (W i) (W j) with
        | false => rfl
        | true =>
          rw [cond_true, it_l, Option.bind_some, flatU_1 (g := fun _ : Nat => Da.bool true) (fun l ml => by
            obtain ⟨m1, m2⟩ := List.mem_filter.mp ml
            have hl := List.mem_range.mp m1
            rw [hv i l hi hl, Option.bind_some, tr i j l hi hj hl e m2]), Option.bind_some, limU_ok (by rw [List.length_map]; omega), Option.bind_some, show (((List.range 8).filter fun l : Nat => moreB (W j) (W l)).map fun _ : Nat => Da.bool true) = (((List.range 8).filter fun l : Nat => moreB (W j) (W l)).map fun _ => true).map Da.bool by rw [List.map_map]; rfl, all_go, Option.bind_some, tru_b, show ((((List.range 8).filter fun l : Nat => moreB (W j) (W l)).map fun _ => true).all id) = true from List.all_eq_true.mpr fun b m => by
            obtain ⟨_, _, rfl⟩ := List.mem_map.mp m
            rfl]
          rfl), Option.bind_some]
      rfl), Option.bind_some]
    rw [show ((List.range 8).any fun _ => false) = false from rfl]
    rw [if_neg Bool.false_ne_true]
    unfold lpK
    dsimp only
    refine wpb rfl ?_
    refine wpb rng ?_
    rw [flatU_1 (g := fun _ : Nat => Da.bool true) (fun i mi => by
      have hi := List.mem_range.mp mi
      rw [hv i i hi hi, Option.bind_some, (more_iff (hC i hi).gd).mpr (kno_refl _)]), Option.bind_some, limU_ok (by rw [List.length_map, List.length_range]; omega), Option.bind_some, show ((List.range 8).map fun _ : Nat => Da.bool true) = ((List.range 8).map fun _ => true).map Da.bool by rw [List.map_map]; rfl, all_go, Option.bind_some, show ((List.range 8).map fun _ => true).all id = true from rfl, asB_b, Option.bind_some, cond_true]
    rw [show fSubs (.dt kvs) (.tuple [.int 1, .int 0]) = _ from hv 1 0 (by decide) (by decide), (more_iff (hC 1 (by decide)).gd).mpr h10, Option.bind_some, asB_b, Option.bind_some, cond_true]
    rw [show fSubs (.dt kvs) (.tuple [.int 2, .int 0]) = _ from hv 2 0 (by decide) (by decide), (more_iff (hC 2 (by decide)).gd).mpr h20, Option.bind_some, asB_b, Option.bind_some, cond_true]
    rw [show fSubs (.dt kvs) (.tuple [.int 0, .int 3]) = _ from hv 0 3 (by decide) (by decide), (more_iff (hC 0 (by decide)).gd).mpr h03]
    exact ⟨_, rfl, rfl⟩
theorem right_u {fx : Bool} {p : Da} (h : PotU p) : ∃ p', u_law_right p = some (.bool true, p') := by
  have lim : LIM = 1000000 := rfl
  have key : Wp (u_law_right p) fun r => r.1 = .bool true := by
    unfold u_law_right
    obtain ⟨k1, p1, e1, b1, h1⟩ := take_u (fx := true) h (m := 3) (by decide) (by decide)
    rw [e1, Option.bind_some]
    dsimp only
    rw [one_add, Option.bind_some]
    obtain ⟨zs, p2, e2, h2, zl, zN, znd, zpw⟩ := names_us (fx := true) (k := k1 + 1) h1 (by omega)
    rw [e2, Option.bind_some]
    dsimp only
    obtain ⟨n, p3, e3, b3, h3⟩ := take_u (fx := true) h2 (m := 7) (by decide) (by decide)
    rw [e3, Option.bind_some]
    dsimp only
    have zb : zs.length ≤ 3 := by omega
    have zlt := sLt_pw zpw znd
    have web : ∀ {q : Da}, PotU q → ∃ (posts : List PostS) (p' : Da), uR1 F_law_web [AV.r true false q, AV.d (.int (n : Int)), AV.d (.list (zs.map Da.str)), AV.d (Da.int 4)] 0 = some (webT n posts, p') ∧ PotU p' ∧ Cn n zs posts := fun {q} hq => by
      obtain ⟨posts, p', e, h', hp, hq', hl, har, hpw⟩ := web_us (fx := true) (n := n) (names := zs) (most := 4) hq (by omega) (by decide) (by decide) (by omega) znd zlt
      exact ⟨posts, p', e, h', gd_web hp (fun q mq => (hq' q mq).1) har, hpw.imp fun h => le_postP h⟩
    obtain ⟨net, p4, e4, h4, cn⟩ := web h3
    rw [e4, Option.bind_some]
    dsimp only
    rw [show rg1U (Da.int 4) = _ from rg1_n (n := 4) (by decide), Option.bind_some]
    obtain ⟨ys, p5, e5, ⟨L, rfl, Ll, hLs⟩, h5⟩ := flatS_inv (f := fun (way_1 : Da) (pot_6 : Da) =>
      (uR1 F_law_changed [AV.r true false pot_6, AV.d (webT n net), AV.d (.list (zs.map Da.str)), AV.d way_1] 0).bind fun (e_6, pot_7) =>
      some ([e_6], pot_7)) (e := fun c : Nat => Da.int (c : Int)) (L := List.range 4) (s := p4)
      (fun done ys s => (∃ L : List (List PostS), ys = L.map (webT n) ∧ L.length = done.length ∧ ∀ i W, L[i]? = some W → Cn n zs W ∧ Rl i net W) ∧ PotU s) ⟨⟨[], rfl, rfl, fun i W e => by cases e⟩, h4⟩ (by
        rintro done x rest ys s ed ⟨⟨L, rfl, Ll, hLs⟩, hs⟩
        obtain ⟨rfl, hx⟩ := range_at ed
        obtain ⟨W, s', e6, hs', g, pw, r⟩ := changed_u (fx := true) (way := done.length) hs (by omega) (by omega) cn.gd hx
        rw [show uR1 F_law_changed [AV.r true false s, AV.d (webT n net), AV.d (.list (zs.map Da.str)), AV.d (Da.int (done.length : Int))] 0 = _ from e6, Option.bind_some]
        refine ⟨[webT n W], s', rfl, ⟨L ++ [W], by rw [List.map_append]; rfl, by rw [List.length_append, List.length_append]; simp [Ll], fun i V e => ?_⟩, hs'⟩
        by_cases hi : i < L.length
        · rw [List.getElem?_append_left hi] at e
          exact hLs i V e
        · rw [List.getElem?_append_right (by omega)] at e
          have h0 : i - L.length = 0 := by
            have := (List.getElem?_eq_some_iff.mp e).1
            simp at this
            omega
          rw [h0] at e
          cases e
          have : i = done.length := by omega
          subst this
          exact ⟨⟨g, pw⟩, r⟩)
    rw [List.length_range] at Ll
    obtain ⟨w0, w1, w2, w3, rfl⟩ : ∃ a b c d, L = [a, b, c, d] := by
      match L, Ll with
      | [a, b, c, d], _ => exact ⟨a, b, c, d, rfl⟩
    obtain ⟨c0, r0⟩ := hLs 0 w0 rfl
    obtain ⟨c1, r1⟩ := hLs 1 w1 rfl
    obtain ⟨c2, r2⟩ := hLs 2 w2 rfl
    obtain ⟨c3, r3⟩ := hLs 3 w3 rfl
    rw [e5, Option.bind_some]
    dsimp only
    rw [limU_ok (by simp; omega), Option.bind_some, show fAdd (Da.list [webT n net]) (Da.list ([w0, w1, w2, w3].map (webT n))) = some (Da.list ([net, w0, w1, w2, w3].map (webT n))) from add_ll (xs := [webT n net]) (ys := [w0, w1, w2, w3].map (webT n)) (by simp; omega), Option.bind_some, show fSubs (Da.list ([net, w0, w1, w2, w3].map (webT n))) (Da.int 1) = some (webT n w0) from rfl, Option.bind_some]
    obtain ⟨w5, p6, e6, h6, g5, pw5, _⟩ := changed_u (fx := true) (way := 1) h5 (by omega) (by omega) c0.gd (by decide)
    rw [show uR1 F_law_changed [AV.r true false p5, AV.d (webT n w0), AV.d (.list (zs.map Da.str)), AV.d (Da.int 1)] 0 = _ from e6, Option.bind_some]
    dsimp only
    rw [sub_web0, Option.bind_some]
    obtain ⟨w6, p7, e7, h7, c6⟩ := web h6
    rw [e7, Option.bind_some]
    dsimp only
    rw [Option.bind_some, show fAdd (Da.list ([net, w0, w1, w2, w3].map (webT n))) (Da.list [webT n w5, webT n w6, Da.tuple [Da.int (n : Int), Da.tuple []]]) = some (Da.list ([net, w0, w1, w2, w3, w5, w6, []].map (webT n))) from add_ll (xs := [net, w0, w1, w2, w3].map (webT n)) (ys := [webT n w5, webT n w6, Da.tuple [Da.int (n : Int), Da.tuple []]]) (by simp; omega), Option.bind_some]
    have c7 : Cn n zs [] := ⟨⟨.nil, fun q m => (List.not_mem_nil m).elim⟩, .nil⟩
    refine pairs_w (W := fun i => [net, w0, w1, w2, w3, w5, w6, []].getD i []) (by omega) zb (fun z mz => (zN z mz).1) rfl ?_ rfl (r0.1 (.inl rfl)) (r1.1 (.inr rfl)) (r2.2 rfl) (by omega)
    intro i hi
    match i, hi with
    | 0, _ => exact cn
    | 1, _ => exact c0
    | 2, _ => exact c1
    | 3, _ => exact c2
    | 4, _ => exact c3
    | 5, _ => exact ⟨g5, pw5⟩
    | 6, _ => exact c6
    | 7, _ => exact c7
  obtain ⟨r, e, h⟩ := key
  exact ⟨r.2, by rw [e, ← h]⟩
theorem law_u {ns : List Int} : Wp (u_law ns) fun r => r = .bool true := by
  unfold u_law
  refine turns_u (m := 4) (by decide) (by decide) fun t ht => ?_
  rw [flatU_1 (g := fun _ : Nat => Da.bool true) (fun k mk => by
    have hk := List.mem_range.mp mk
    obtain ⟨p, e, P⟩ := pot_u (ns := ns) (k := k) (by omega)
    obtain ⟨p', e2⟩ := right_u (fx := false) P
    rw [e, Option.bind_some, show uC F_law_right [AV.r false false p] = some (.bool true) from uC_of (tx_law_right e2), Option.bind_some]), Option.bind_some, limU_ok (by rw [List.length_map, List.length_range]; have : LIM = 1000000 := rfl; omega), Option.bind_some, show ((List.range t).map fun _ => Da.bool true) = ((List.range t).map fun _ => true).map Da.bool by rw [List.map_map]; rfl, all_go, Option.bind_some, show ((List.range t).map fun _ => true).all id = true from List.all_eq_true.mpr fun b m => by
      obtain ⟨_, _, rfl⟩ := List.mem_map.mp m
      rfl]
  exact ⟨_, rfl, rfl⟩
theorem law_ok {ns : List Int} (hl : ns.length ≤ 63) : F_law [.sc ns] = some (.one (.d (.bool true)), [.sc ns]) := by
  obtain ⟨x, e, rfl⟩ := law_u (ns := ns)
  exact tx_law e
end
end K67
namespace Vm
open PySem PySem.Spec PyProof.Rows L2 Gk
/-- a table: its name, its keys and values -/
abbrev TbV := Str × List (Str × Str)
def tabOf (q : TbV) : He.Tab := (fun K => He.ga K q.1, q.2.map (·.1))
def valOf (K : PySem.W.Frag) (q : TbV) : Bool := He.valsB K (He.ga K q.1) (q.2.map fun kv => (kv.1, .str kv.2))
def frX (n : Nat) (g : Addr → Option Obj) : PySem.W.Frag := He.frG g (He.asD g n ++ [cStatics, sysModules])
def sysB (K : PySem.W.Frag) : Bool := (K.lookup sysModules).isSome
theorem sysB_ok {K : PySem.W.Frag} (h : sysB K = true) : SysK K := Option.isSome_iff_exists.mp h
def obsX (n : Nat) (fa : List He.Fa) (fn : List He.DefD) (ts : List TbV) (g : Addr → Option Obj) : He.AlT × Bool :=
  (He.obsT fa fn (ts.map tabOf) (frX n g), (dig (frX n g) && sysB (frX n g)) && ts.all (valOf (frX n g)))
structure SaysX (fa : List He.Fa) (fn : List He.DefD) (ts : List TbV) (w : World) (K : PySem.W.Frag) : Prop where
  t : He.SaysT fa fn (ts.map tabOf) w K
  dg : dig K = true
  sm : sysB K = true
  vals : ts.all (valOf K) = true
def hookX (n : Nat) (fa : List He.Fa) (fn : List He.DefD) (ts : List TbV) : PySem.W.Hook where
  α := He.AlT × Bool
  obs := fun s => obsX n fa fn ts s.heap.get?
  val := fun w => (He.valT fn (ts.map tabOf) w, true)
  says := fun w h => ∃ K : PySem.W.Frag, K.In h ∧ SaysX fa fn ts w K
  of := fun w s e => ⟨frX n s.heap.get?, He.frG_in, show He.obsT fa fn _ _ = He.valT fn _ w from congrArg Prod.fst e,
    (Bool.and_eq_true_iff.mp (Bool.and_eq_true_iff.mp (show ((dig _ && sysB _) && _) = true from congrArg Prod.snd e)).1).1, (Bool.and_eq_true_iff.mp (Bool.and_eq_true_iff.mp (show ((dig _ && sysB _) && _) = true from congrArg Prod.snd e)).1).2, (Bool.and_eq_true_iff.mp (show ((dig _ && sysB _) && _) = true from congrArg Prod.snd e)).2⟩
  keeps := fun _ _ _ ⟨K, hK, c⟩ k => ⟨K, PySem.W.Frag.In.keeps hK k, c⟩
theorem obsX_eq {n : Nat} {fa : List He.Fa} {fn : List He.DefD} {ts : List TbV} {g : Addr → Option Obj} {s : Shared} (h : ∀ a, g a = s.heap.get? a) : obsX n fa fn ts g = (hookX n fa fn ts).obs s := by
  have e : g = s.heap.get? := funext h
  subst e
  rfl
/-- the promise of a law whose function answers True -/
theorem law_sp {K : PySem.W.Frag} {F : FV} {H : Hp} {a : Addr} {ns : List Int} {E : XK} (hF : F [.sc ns] = some (.one (.d (.bool true)), [.sc ns])) (hS : SqL K H a (ns.map V.int)) (hT : TabP [] H := by exact ⟨fun _ m => (List.not_mem_nil m).elim, fun _ m => (List.not_mem_nil m).elim⟩) : spV K F [.ref a] H (fun v _ => v = .bl true) E := by
  refine ⟨[], [.sc ns], fun _ => [], _, _, ?_, hF, ?_⟩
  · refine ⟨rfl, fun i r e => ?_, fun _ _ => rfl, fun _ => .nil, fun i j a m => (List.not_mem_nil m).elim, fun i a m => (List.not_mem_nil m).elim, fun a m => (List.not_mem_nil m).elim, hT⟩
    cases i with
    | zero =>
      cases e
      exact ⟨rfl, a, rfl, hS.elim (fun h => .inl ⟨List.not_mem_nil, h⟩) .inr⟩
    | succ i => simp at e
  · rintro p' H' A' v _ _ ⟨as, h, _⟩
    cases h with
    | d dz _ => cases dz; rfl
end Vm
namespace K67
open PySem PySem.Spec PyProof.Rows L2 Gk Vm Wo
abbrev dd (x : Str) (i : Nat) : He.DefD := ⟨(x, none), x, x, defArgs (topS i), defBody (topS i), defScope (topS i), [], []⟩
def fn : List He.DefD := [dd "posted_arms" 1, dd "knows_more" 3, dd "_law_pot" 5, dd "_law_take" 6, dd "_law_of" 7, dd "_law_names" 8, dd "_law_web" 9, dd "_law_due" 10, dd "_law_changed" 11, dd "_law_right" 12, dd "law" 13]
def fa : List He.Fa := biFa ++ ([He.Fa.glo "posted_arms", He.Fa.glo "knows_more", He.Fa.glo "_law_pot", He.Fa.glo "_law_take", He.Fa.glo "_law_of", He.Fa.glo "_law_names", He.Fa.glo "_law_web", He.Fa.glo "_law_due", He.Fa.glo "_law_changed", He.Fa.glo "_law_right", He.Fa.glo "law"])
def tb : List TbV := []
abbrev R : PySem.W.OpenRow := PySem.W.OpenLaw.row PySem.Challenge.rw_woundwalks_k67_who_knows_more
abbrev hk : PySem.W.Hook := hookX 4 fa fn tb
def ob (s : PySem.W.SharedT) : He.AlT × Bool := obsX 4 fa fn tb (HandSHeadRun.getT s)
theorem ob_eq (s : PySem.W.SharedT) : ob s = hk.obs s.abs := obsX_eq (HandSHeadRun.getT_eq s)
def loose : List Str := [("posted_arms" : Str), ("knows_more" : Str), ("_law_pot" : Str), ("_law_take" : Str), ("_law_of" : Str), ("_law_names" : Str), ("_law_web" : Str), ("_law_due" : Str), ("_law_changed" : Str), ("_law_right" : Str)]
theorem run (w : World) : HandSHeadRun.RunEq R (PySem.W.view R.prog [13]) hk ob 3000 loose w := by
  intro os
  kernel_rfl
section
variable {P : Program} {w : World} {K : PySem.W.Frag} {mg : Str → Option Value} {h : Heap} {f : Addr}
theorem facts (X : K.In h) (G : h.Ns mainGlobals mg) (hfa : mg ("law" : Str) = some (.ref f)) (c0 : SaysX fa fn tb w K) :
    ∃ fd : FuncData, (∀ (s : Shared) (v : Value), BindsTo s fd ⟨[v], []⟩ [("_law_script", v)]) ∧
      ∀ base : Heap, K.In base → base.Ns mainGlobals mg → FnG P w K mg base CX0 5 f fd ["_law_script"] (spV K F_law) := by
  have c := c0.t.d
  have dg := c0.dg
  obtain ⟨d0, F0⟩ := c.def_ 0 (d := dd "posted_arms" 1) rfl
  obtain ⟨d1, F1⟩ := c.def_ 1 (d := dd "knows_more" 3) rfl
  obtain ⟨d2, F2⟩ := c.def_ 2 (d := dd "_law_pot" 5) rfl
  obtain ⟨d3, F3⟩ := c.def_ 3 (d := dd "_law_take" 6) rfl
  obtain ⟨d4, F4⟩ := c.def_ 4 (d := dd "_law_of" 7) rfl
  obtain ⟨d5, F5⟩ := c.def_ 5 (d := dd "_law_names" 8) rfl
  obtain ⟨d6, F6⟩ := c.def_ 6 (d := dd "_law_web" 9) rfl
  obtain ⟨d7, F7⟩ := c.def_ 7 (d := dd "_law_due" 10) rfl
  obtain ⟨d8, F8⟩ := c.def_ 8 (d := dd "_law_changed" 11) rfl
  obtain ⟨d9, F9⟩ := c.def_ 9 (d := dd "_law_right" 12) rfl
  obtain ⟨d10, F10⟩ := c.def_ 10 (d := dd "law" 13) rfl
  have B : Bi mg := bi_of X G fun i g hi => c.fact i (f := g) (by
    show (biFa ++ _)[i]? = some g
    rw [List.getElem?_append_left (List.getElem?_eq_some_iff.mp hi).1]
    exact hi)
  have g0 := He.glo_ok X G (c.fact 23 (f := .glo "posted_arms") rfl)
  have g1 := He.glo_ok X G (c.fact 24 (f := .glo "knows_more") rfl)
  have g2 := He.glo_ok X G (c.fact 25 (f := .glo "_law_pot") rfl)
  have g3 := He.glo_ok X G (c.fact 26 (f := .glo "_law_take") rfl)
  have g4 := He.glo_ok X G (c.fact 27 (f := .glo "_law_of") rfl)
  have g5 := He.glo_ok X G (c.fact 28 (f := .glo "_law_names") rfl)
  have g6 := He.glo_ok X G (c.fact 29 (f := .glo "_law_web") rfl)
  have g7 := He.glo_ok X G (c.fact 30 (f := .glo "_law_due") rfl)
  have g8 := He.glo_ok X G (c.fact 31 (f := .glo "_law_changed") rfl)
  have g9 := He.glo_ok X G (c.fact 32 (f := .glo "_law_right") rfl)
  have e := hfa.symm.trans (He.glo_ok X G (c.fact 33 (f := .glo "law") rfl))
  cases e
  have b10 := FunD.bindsA (ps := ["_law_script"]) F10 fun _ _ _ _ _ _ us hl => match us, hl with | [_], _ => rfl
  refine ⟨d10, fun s v => b10 s [v] rfl, fun base _ _ => ?_⟩
  have hd := He.eqO_ok dg
  have hsys := Vm.sysB_ok c0.sm
  have b0 := F0.bindsN (ps := ["web"]) fun _ _ _ _ _ _ us hl => match us, hl with | [_], _ => rfl
  have b1 := F1.bindsN (ps := ["one", "other"]) fun _ _ _ _ _ _ us hl => match us, hl with | [_, _], _ => rfl
  have b2 := F2.bindsN (ps := ["_law_script", "_law_k"]) fun _ _ _ _ _ _ us hl => match us, hl with | [_, _], _ => rfl
  have b3 := F3.bindsN (ps := ["_law_pot_here", "_law_upto"]) fun _ _ _ _ _ _ us hl => match us, hl with | [_, _], _ => rfl
  have b4 := F4.bindsN (ps := ["_law_pot_here", "_law_some"]) fun _ _ _ _ _ _ us hl => match us, hl with | [_, _], _ => rfl
  have b5 := F5.bindsN (ps := ["_law_pot_here", "_law_many"]) fun _ _ _ _ _ _ us hl => match us, hl with | [_, _], _ => rfl
  have b6 := F6.bindsN (ps := ["_law_pot_here", "_law_n", "_law_names_here", "_law_most"]) fun _ _ _ _ _ _ us hl => match us, hl with | [_, _, _, _], _ => rfl
  have b7 := F7.bindsN (ps := ["_law_here", "_law_there"]) fun _ _ _ _ _ _ us hl => match us, hl with | [_, _], _ => rfl
  have b8 := F8.bindsN (ps := ["_law_pot_here", "_law_net", "_law_names_here", "_law_way"]) fun _ _ _ _ _ _ us hl => match us, hl with | [_, _, _, _], _ => rfl
  have b9 := F9.bindsN (ps := ["_law_pot_here"]) fun _ _ _ _ _ _ us hl => match us, hl with | [_], _ => rfl
  obtain ⟨_, q0⟩ := kbn_p (ps := ["one", "other"]) (n := 0) (ks := ["other", "one"]) [1, 0] F1 fun _ _ _ _ _ _ us ws h1 h2 => match us, ws, h1, h2 with | [], [_, _], _, _ => rfl
  have o0 : FnG P w K mg base CX0 1 _ d0 ["web"] (spV K F_posted_arms) := ok_posted_arms F0 B 
  have o1 : FnG P w K mg base CX0 2 _ d1 ["one", "other"] (spV K F_knows_more) := ok_knows_more F1 B ⟨_, _, o0, g0, F0.kp, b0⟩
  have o2 : FnG P w K mg base CX0 1 _ d2 ["_law_script", "_law_k"] (spV K F_law_pot) := ok_law_pot F2 B hd
  have o3 : FnG P w K mg base CX0 1 _ d3 ["_law_pot_here", "_law_upto"] (spV K F_law_take) := ok_law_take F3 B 
  have o4 : FnG P w K mg base CX0 2 _ d4 ["_law_pot_here", "_law_some"] (spV K F_law_of) := ok_law_of F4 B ⟨_, _, o3, g3, F3.kp, b3⟩
  have o5 : FnG P w K mg base CX0 3 _ d5 ["_law_pot_here", "_law_many"] (spV K F_law_names) := ok_law_names F5 B ⟨_, _, o4, g4, F4.kp, b4⟩ ⟨_, _, o3, g3, F3.kp, b3⟩
  have o6 : FnG P w K mg base CX0 2 _ d6 ["_law_pot_here", "_law_n", "_law_names_here", "_law_most"] (spV K F_law_web) := ok_law_web F6 B ⟨_, _, o3, g3, F3.kp, b3⟩
  have o7 : FnG P w K mg base CX0 1 _ d7 ["_law_here", "_law_there"] (spV K F_law_due) := ok_law_due F7 B 
  have o8 : FnG P w K mg base CX0 2 _ d8 ["_law_pot_here", "_law_net", "_law_names_here", "_law_way"] (spV K F_law_changed) := ok_law_changed F8 B ⟨_, _, o3, g3, F3.kp, b3⟩
  have o9 : FnG P w K mg base CX0 4 _ d9 ["_law_pot_here"] (spV K F_law_right) := ok_law_right F9 B ⟨_, _, o7, g7, F7.kp, b7⟩ ⟨_, _, o1, g1, F1.kp, b1⟩ ⟨_, _, o6, g6, F6.kp, b6⟩ ⟨_, _, o8, g8, F8.kp, b8⟩ ⟨_, _, o3, g3, F3.kp, b3⟩ ⟨_, _, o5, g5, F5.kp, b5⟩ ⟨_, _, _, o1, g1, F1.kp, q0⟩
  exact ok_law F10 B ⟨_, _, o9, g9, F9.kp, b9⟩ ⟨_, _, o2, g2, F2.kp, b2⟩
end
end K67
open PySem PySem.W PySem.Calls PyProof.Rows
theorem PySem.Challenge.cw_woundwalks_k67_who_knows_more_holds : PySem.Challenge.rw_woundwalks_k67_who_knows_more.Holds := by
  w_on; o_law
  refine HandSHeadRun.head_any (r := OpenLaw.row PySem.Challenge.rw_woundwalks_k67_who_knows_more) (q := view (OpenLaw.row PySem.Challenge.rw_woundwalks_k67_who_knows_more).prog [13]) (H := K67.hk) (ob := K67.ob) (M := 3000) (loose := K67.loose) (d := HandSHeadRun.topDef (OpenLaw.row PySem.Challenge.rw_woundwalks_k67_who_knows_more).prog 13) (kwd := []) K67.ob_eq
    (by kernel_rfl) (fun s => by kernel_rfl) K67.run (by kernel_rfl) (by kernel_rfl) (by kernel_rfl) (by rfl) (by first | assumption | decide +kernel) (by decide +kernel) ⟨rfl, rfl, rfl, rfl, rfl, by decide +kernel⟩ ?hw ?hc
  case hw => w_witness2
  case hc =>
    refine Gk.walkG (l := PySem.Challenge.rw_woundwalks_k67_who_knows_more) (n := 63) (k := 5) (x := "_law_script") (CX := L2.CX0) rfl (by decide) (by kernel_rfl) ⟨rfl, by decide, by decide⟩ ?F (fun _ _ _ _ z => z)
    intro w mg fa h Y G hmg0
    obtain ⟨K, KX, c⟩ := Y
    have hmg : mg ("law" : PySem.Str) = some (.ref fa) := by
      have e : (HandSHeadRun.topDef (OpenLaw.row PySem.Challenge.rw_woundwalks_k67_who_knows_more).prog 13).name = ("law" : PySem.Str) := by kernel_rfl
      rw [← e]
      exact hmg0
    obtain ⟨fd, hb, hF⟩ := K67.facts (P := (PySem.Challenge.rw_woundwalks_k67_who_knows_more).prog) (w := w) KX G hmg c
    exact ⟨K, fd, _, KX, hb, fun H a ns hl _ hS => Vm.law_sp (K67.law_ok hl) hS, hF⟩
