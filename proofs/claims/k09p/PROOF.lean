import PyProof.Rows.All
import Wide.All
import OpenK.AllK
import Wide.FinOn
import HandS.ForMost
import HandS.SortKw
import HandS.DictComp
import HandS.IsInst
import HandS.OwnEq
import HandS.Deep
import HandS.StrMore
import HandS.Zip
import HandS.Conv
import HandS.Codes
import HandS.RaiseMore
import HandS.Exc
import HandS.ExcInit
import HandS.Walk
import HandS.TupAny
import HandS.Set
import HandS.Strs
import PyProof.CallStr
import HandS.SlotsOwn
import PySem.Challenge.RW_firstmade_k09_nets_compared
set_option Elab.async false
set_option linter.all false
set_option maxRecDepth 100000
set_option maxHeartbeats 4000000
namespace Nt
open PySem PySem.Spec PyProof.Rows L2
/-! ### the text by places -/
def top (i : Nat) : Stmt := PySem.Challenge.pw_firstmade_k09_nets_compared.main.body.getD i (.Pass ⟨0, 0, 0, 0⟩)
abbrev sPool : Stmt := top 14
abbrev sTake : Stmt := top 15
abbrev sOne : Stmt := top 16
/-! ### what the top has written -/
structure Blt (mg : Str → Option Value) : Prop where
  int : mg "int" = none
  len : mg "len" = none
  isi : mg "isinstance" = none
  str : mg "str" = none
  all : mg "all" = none
  list : mg "list" = none
  tuple : mg "tuple" = none
  set : mg "set" = none
  dict : mg "dict" = none
  sorted : mg "sorted" = none
  enum : mg "enumerate" = none
  range : mg "range" = none
  max : mg "max" = none
  min : mg "min" = none
/-! ### heaps -/
/-- all that was tracked but what stands at p is as it was -/
def But (p : Addr) (H H' : Hp) : Prop := ∀ q o, H q = some o → q ≠ p → H' q = some o
theorem But.refl {p : Addr} {H : Hp} : But p H H := fun _ _ h _ => h
theorem But.trans {p : Addr} {H H1 H2 : Hp} (a : But p H H1) (b : But p H1 H2) : But p H H2 := fun q o h n => b q o (a q o h n) n
theorem Same.but {p : Addr} {H H' : Hp} (s : Same H H') : But p H H' := fun q o h _ => s q o h
theorem But.upd {p : Addr} {H : Hp} {o : HO} : But p H (upd H p o) := fun q u h n => by rw [upd_ne n]; exact h
def PoolAt (H : Hp) (p : Addr) : Prop := ∃ a b : Int, H p = some (.lst [.int a, .int b]) ∧ 0 ≤ a ∧ 0 ≤ b ∧ b < 2147483647
theorem PoolAt.same {H H' : Hp} {p : Addr} (s : Same H H') (h : PoolAt H p) : PoolAt H' p := by
  obtain ⟨a, b, h1, h2⟩ := h
  exact ⟨a, b, s _ _ h1, h2⟩
/-- a number is drawn out of the pool at p -/
def spTake : Sp := fun vs H Q _ => ∃ (p : Addr) (m : Int), vs = [.ref p, .int m] ∧ PoolAt H p ∧ 0 < m ∧ m < 1073741824 ∧
  ∀ (r : Int) (H' : Hp), 0 ≤ r → r < m → PoolAt H' p → But p H H' → Q (.int r) H'
section
variable {P : Program} {w : World} {K : PySem.W.Frag} {mg : Str → Option Value} {base : Heap}
theorem scTake : FnScope ["pool", "many", "found"] ["pool", "many"] (defScope sTake) := ⟨rfl, rfl, rfl, by decide +kernel, rfl, by decide +kernel, by decide +kernel⟩
theorem set0 {x y z : V} : ([x, y] : List V).set 0 z = [z, y] := rfl
theorem set1 {x y z : V} : ([x, y] : List V).set 1 z = [x, z] := rfl
theorem ok_take {f : Addr} {fd : FuncData} (F : Fun K "_law_take" "_law_take" sTake f fd) (B : Blt mg) : FnOk P w K mg base CX0 1 f fd ["pool", "many"] spTake := by
  refine F.ok scTake (fun vs H Q E h => ?_) (fun cdv A outer s H vs Q E hr h => ?_)
  · obtain ⟨p, m, rfl, _⟩ := h
    rfl
  · obtain ⟨p, m, rfl, ⟨a, b, hp, ha, hb0, hb⟩, hm0, hm, k⟩ := h
    have nd := scTake.nd
    refine ⟨_, pss_cons (ps_if (pt_cmpR op_gt (pe_ix ix_list (pv 0) pe_int (fun _ _ => rfl)) pe_int (nomark _))
        (pss_cons (ps_set (i := 2) nd rfl (Or.inl rfl) (pe_op op_mod (pe_callTy call_int1 (by rfl) B.int (by decide +kernel) (pa_cons (pe_ix ix_list (pv 0) pe_int (fun _ _ => rfl)) pa_nil)) (pv 1)))
        (pss_cons (ps_asg (pe_op op_fdiv (pe_ix ix_list (pv 0) pe_int (fun _ _ => rfl)) (pv 1)) (pg_sub (pv 0) pe_int set_list))
        (pss_one (ps_ret (pv 2))))) pss_nil)
      (pss_cons (ps_asg (pe_op op_mod (pe_callTy call_int1 (by rfl) B.int (by decide +kernel) (pa_cons (pe_op op_add (pe_op op_mul (pe_ix ix_list (pv 0) pe_int (fun _ _ => rfl)) pe_int) pe_int) pa_nil)) pe_int) (pg_sub (pv 0) pe_int set_list))
      (pss_one (ps_ret (pe_op op_mod (pe_op op_fdiv (pe_op op_mod (pe_callTy call_int1 (by rfl) B.int (by decide +kernel) (pa_cons (pe_op op_mul (pe_ix ix_list (pv 0) pe_int (fun _ _ => rfl)) (pe_ix ix_list (pv 0) pe_int (fun _ _ => rfl))) pa_nil)) pe_int) pe_int) (pv 1))))), ?_⟩
    refine ⟨_, rfl, p, _, _, .int a, rfl, rfl, SqL.of hp, atI_nat (j := 0) rfl, _, _, rfl, rfl, _, rfl, ?_⟩
    refine ite2 (fun c => ?_) (fun c => ?_)
    · refine ⟨_, rfl, p, _, _, .int a, rfl, rfl, SqL.of hp, atI_nat (j := 0) rfl, .inl ⟨_, rfl, _, rfl, _, _, rfl, rfl, hm0, ?_⟩⟩
      refine ⟨_, rfl, p, _, _, .int a, rfl, rfl, SqL.of hp, atI_nat (j := 0) rfl, _, rfl, _, _, rfl, rfl, ⟨hm0, hm⟩, _, rfl, p, _, _, 0, rfl, rfl, hp, rfl, ?_⟩
      refine ⟨_, rfl, ?_⟩
      have q0 : 0 ≤ a / m := Int.ediv_nonneg ha (Int.le_of_lt hm0)
      exact k (a % m) _ (Int.emod_nonneg a (by omega)) (Int.emod_lt_of_pos a hm0) ⟨a / m, b, upd_same, q0, hb0, hb⟩ But.upd
    · refine ⟨_, rfl, p, _, _, .int b, rfl, rfl, SqL.of hp, atI_nat (j := 1) rfl, _, _, rfl, rfl, .inr ⟨by decide, by decide⟩, _, _, rfl, rfl, .inl ⟨_, rfl, _, _, rfl, rfl, (by show (0 : Int) < 2147483647; decide), _, rfl, p, _, _, 1, rfl, rfl, hp, rfl, ?_⟩⟩
      dsimp only
      have n0 : 0 ≤ (b * 48271 + 11) % 2147483647 := Int.emod_nonneg _ (by decide)
      have n1 : (b * 48271 + 11) % 2147483647 < 2147483647 := Int.emod_lt_of_pos _ (by decide)
      generalize (b * 48271 + 11) % 2147483647 = b' at n0 n1
      have hp2 : upd H p (.lst ([V.int a, V.int b].set 1 (V.int b'))) p = some (.lst [.int a, .int b']) := upd_same
      refine ⟨_, rfl, p, _, _, .int b', rfl, rfl, SqL.of hp2, atI_nat (j := 1) rfl, _, rfl, p, _, _, .int b', rfl, rfl, SqL.of hp2, atI_nat (j := 1) rfl, _, _, rfl, rfl, .inr ⟨by omega, by omega⟩, .inl ⟨_, rfl, _, _, rfl, rfl, (by show (0 : Int) < 2147483629; decide), _, _, rfl, rfl, ⟨by decide, by decide⟩, _, rfl, _, _, rfl, rfl, hm0, ?_⟩⟩
      exact k _ _ (Int.emod_nonneg _ (by omega)) (Int.emod_lt_of_pos _ hm0) ⟨a, b', hp2, ha, n0, n1⟩ But.upd
end
end Nt
set_option Elab.async false
set_option linter.all false
set_option maxRecDepth 100000
set_option maxHeartbeats 4000000
namespace Nt
open PySem PySem.Spec PyProof.Rows L2
abbrev sIsName : Stmt := top 6
abbrev sIsTable : Stmt := top 9
abbrev sAre : Stmt := top 10
theorem SqL.but {K : PySem.W.Frag} {H H' : Hp} {p a : Addr} {xs : List V} (b : But p H H') (n : a ≠ p) (h : SqL K H a xs) : SqL K H' a xs := by
  rcases h with (h | ⟨o, h⟩) | h
  · exact .inl (.inl (b _ _ h n))
  · exact .inl (.inr ⟨o, b _ _ h n⟩)
  · exact .inr h
/-- one of a list is drawn -/
def spOne (K : PySem.W.Frag) : Sp := fun vs H Q _ => ∃ (p l : Addr) (xs : List V), vs = [.ref p, .ref l] ∧ PoolAt H p ∧ SqL K H l xs ∧ l ≠ p ∧ 0 < xs.length ∧ xs.length ≤ 1000 ∧
  ∀ (j : Nat) (v : V) (H' : Hp), xs[j]? = some v → PoolAt H' p → But p H H' → Q v H'
/-- a new pool for the k-th cell -/
def spPool (K : PySem.W.Frag) : Sp := fun vs H Q _ => ∃ (a : Addr) (ns : List Int) (k : Nat), vs = [.ref a, .int (k : Int)] ∧ SqL K H a (ns.map V.int) ∧ k ≤ 63 ∧
  ∀ l H', H l = none → PoolAt H' l → Same H H' → Q (.ref l) H'
/-- what a name is -/
def NmOk (z : Str) : Prop := z.length ≤ 8 ∧ Txt.isascii z = true ∧ Txt.isalpha z = true ∧ Txt.islower z = true ∧ PySem.PyData.canLay0 (.str z) = true
def spIsName : Sp := fun vs H Q _ => ∃ z, vs = [.str z] ∧ NmOk z ∧ Q (.bl true) H
section
variable {P : Program} {w : World} {K : PySem.W.Frag} {mg : Str → Option Value} {base : Heap}
theorem scOne : FnScope ["pool", "some"] ["pool", "some"] (defScope sOne) := ⟨rfl, rfl, rfl, by decide +kernel, rfl, by decide +kernel, by decide +kernel⟩
theorem ok_one {f fT : Addr} {fd fdT : FuncData} (F : Fun K "_law_one" "_law_one" sOne f fd) (B : Blt mg) (GT : FnOk P w K mg base CX0 1 fT fdT ["pool", "many"] spTake) (gT : mg "_law_take" = some (.ref fT)) (kT : PySem.W.keepIn K (.ref fT) = true) (bT : Binds K fdT ["pool", "many"] []) :
    FnOk P w K mg base CX0 2 f fd ["pool", "some"] (spOne K) := by
  refine F.ok scOne (fun vs H Q E h => ?_) (fun cdv A outer s H vs Q E hr h => ?_)
  · obtain ⟨p, l, xs, rfl, _⟩ := h
    rfl
  · obtain ⟨p, l, xs, rfl, hp, hl, hne, h0, hz, k⟩ := h
    refine ⟨_, pss_one (ps_ret (pe_ix ix_list (pv 1) (pe_call GT hr (by rfl) gT kT bT .nil pass0 (pa_cons (pv 0) (pa_cons (pe_callB call_len_seq (by rfl) B.len PySem.boot_len (pa_cons (pv 1) pa_nil)) pa_nil))) (fun _ _ => rfl))), ?_⟩
    refine ⟨_, rfl, _, rfl, _, rfl, l, xs, rfl, .inl hl, p, _, rfl, hp, by omega, by omega, fun r H' r0 r1 hp' b => ?_⟩
    obtain ⟨j, rfl⟩ : ∃ j : Nat, r = (j : Int) := ⟨r.toNat, by omega⟩
    have hj : j < xs.length := by omega
    exact ⟨l, xs, _, xs[j], rfl, rfl, SqL.but b hne hl, atI_nat (List.getElem?_eq_getElem hj), k j xs[j] H' (List.getElem?_eq_getElem hj) hp' b⟩
theorem scPool : FnScope ["script", "k", "cell", "size", "seed"] ["script", "k"] (defScope sPool) := ⟨rfl, rfl, rfl, by decide +kernel, rfl, by decide +kernel, by decide +kernel⟩
theorem ok_pool {f : Addr} {fd : FuncData} (F : Fun K "_law_pool" "_law_pool" sPool f fd) (B : Blt mg) : FnOk P w K mg base CX0 1 f fd ["script", "k"] (spPool K) := by
  refine F.ok scPool (fun vs H Q E h => ?_) (fun cdv A outer s H vs Q E hr h => ?_)
  · obtain ⟨a, ns, k, rfl, _⟩ := h
    rfl
  · obtain ⟨a, ns, k, rfl, hS, hk, q⟩ := h
    have nd := scPool.nd
    refine ⟨_, pss_cons (ps_set (i := 2) nd rfl (Or.inl rfl) pe_int)
      (C8.pss_cut (ps_if (pt_cmpR op_lt (pv 1) (pe_callB call_len_seq (by rfl) B.len PySem.boot_len (pa_cons (pv 0) pa_nil)) (nomark _))
        (pss_one (ps_set (i := 2) nd rfl (Or.inl rfl) (pe_ix ix_list (pv 0) (pv 1) (fun _ _ => rfl)))) pss_nil)
      (pss_cons (ps_set (i := 3) nd rfl (Or.inl rfl) (pe_ifExp (pt_cmpR op_ge (pv 2) pe_int (nomark _)) (pv 2) (pe_op op_sub (pe_un un_neg pe_int) (pv 2))))
      (pss_cons (ps_set (i := 4) nd rfl (Or.inl rfl) (pe_callTy call_int1 (by rfl) B.int (by decide +kernel) (pa_cons (pe_op op_add (pe_op op_add (pe_op op_mod (pe_callTy call_int1 (by rfl) B.int (by decide +kernel) (pa_cons (pv 3) pa_nil)) pe_int) (pe_op op_mul pe_int (pv 1))) pe_int) pa_nil)))
      (pss_one (ps_ret (pe_lst (pa_cons (pe_op op_mul (pv 3) (pe_callTy call_int1 (by rfl) B.int (by decide +kernel) (pa_cons (pe_cmpR op_ge (pv 3) (pe_op op_pow pe_int pe_int) (nomark _)) pa_nil)))
        (pa_cons (pe_op op_mod (pe_op op_mul (pv 4) pe_int) pe_int) pa_nil)))))))), ?_⟩
    refine ⟨fun σ' H' => ∃ c : Int, σ' = [some (.ref a), some (.int k), some (.int c), none, none] ∧ H' = H, ?_, ?_⟩
    · refine ⟨_, rfl, _, rfl, a, _, rfl, .inl hS, _, _, rfl, rfl, _, rfl, ?_⟩
      refine ite2 (fun c => ?_) (fun c => ⟨0, rfl, rfl⟩)
      have hk2 : k < ns.length := by
        have c' := of_decide_eq_true c
        rw [List.length_map] at c'
        omega
      refine ⟨_, rfl, _, rfl, a, _, _, .int ns[k], rfl, rfl, hS, atI_nat (by rw [List.getElem?_map, List.getElem?_eq_getElem hk2]; rfl), ?_⟩
      exact ⟨ns[k], rfl, rfl⟩
    · rintro σ' H' ⟨c, rfl, rfl⟩
      have fin : ∀ z : Int, 0 ≤ z → ∀ l, H' l = none → ∀ y : Int, 0 ≤ y → y < 2147483647 → Q (.ref l) (upd H' l (.lst [.int z, .int y])) := fun z hz l hl y y0 y1 => q l _ hl ⟨z, y, upd_same, hz, y0, y1⟩ fun b o e => by
        rw [upd_ne (ne_of_none e hl)]
        exact e
      have rest : ∀ z : Int, 0 ≤ z → ∀ b : Bool, 0 ≤ z * (if b = true then 1 else 0) := fun z hz b => by
        cases b
        · simp
        · simpa using hz
      refine ⟨_, rfl, _, _, rfl, rfl, _, rfl, ?_⟩
      refine ite2 (fun h0 => ?_) (fun h0 => ?_)
      · have h0 := of_decide_eq_true h0
        refine ⟨_, rfl, _, rfl, .inl ⟨_, rfl, _, _, rfl, rfl, (by show (0 : Int) < 2147483629; decide), _, rfl, _, _, rfl, rfl, .inl ⟨by decide, by decide⟩, _, _, rfl, rfl, _, _, rfl, rfl, .inl ⟨_, rfl, ?_⟩⟩⟩
        refine ⟨_, rfl, _, rfl, _, _, rfl, rfl, ⟨by decide, by decide, by decide⟩, _, _, rfl, rfl, .inr ⟨_, rfl, _, _, rfl, rfl, .inr ⟨by split <;> decide, by split <;> decide⟩, _, rfl, _, _, rfl, rfl, .inr ⟨by decide, by decide⟩, _, _, rfl, rfl, (by show (0 : Int) < 2147483647; decide), (by show 2 ≤ sizeLine; decide), fun l hl => ?_⟩⟩
        exact fin _ (rest _ h0 _) l hl _ (Int.emod_nonneg _ (by decide)) (Int.emod_lt_of_pos _ (by decide))
      · have h0 : ¬ (0 ≤ c) := fun z => h0 (decide_eq_true z)
        refine ⟨_, rfl, _, rfl, _, _, rfl, rfl, ?_⟩
        refine ⟨_, rfl, .inl ⟨_, rfl, _, _, rfl, rfl, (by show (0 : Int) < 2147483629; decide), _, rfl, _, _, rfl, rfl, .inl ⟨by decide, by decide⟩, _, _, rfl, rfl, _, _, rfl, rfl, .inl ⟨_, rfl, ?_⟩⟩⟩
        refine ⟨_, rfl, _, rfl, _, _, rfl, rfl, ⟨by decide, by decide, by decide⟩, _, _, rfl, rfl, .inr ⟨_, rfl, _, _, rfl, rfl, .inr ⟨by split <;> decide, by split <;> decide⟩, _, rfl, _, _, rfl, rfl, .inr ⟨by decide, by decide⟩, _, _, rfl, rfl, (by show (0 : Int) < 2147483647; decide), (by show 2 ≤ sizeLine; decide), fun l hl => ?_⟩⟩
        exact fin _ (rest _ (by omega) _) l hl _ (Int.emod_nonneg _ (by decide)) (Int.emod_lt_of_pos _ (by decide))
end
end Nt
set_option Elab.async false
set_option linter.all false
set_option maxRecDepth 100000
set_option maxHeartbeats 4000000
namespace Nt
open PySem PySem.Spec PyProof.Rows L2
/-! ### the needs: names, each with the tuple of its needs -/
abbrev Nd := List (Str × Addr × List Str)
def ndK (nd : Nd) : List (Key × V) := nd.map fun e => (Sum.inr e.1, V.ref e.2.1)
def Tups (H : Hp) (nd : Nd) : Prop := ∀ e ∈ nd, H e.2.1 = some (.tup (e.2.2.map V.str))
def NdAt (H : Hp) (d : Addr) (nd : Nd) : Prop := H d = some (.dK (ndK nd)) ∧ Tups H nd
def nms (nd : Nd) : List Str := nd.map (·.1)
structure Good (nd : Nd) : Prop where
  one : 1 ≤ nd.length
  five : nd.length ≤ 5
  nn : (nms nd).Nodup
  ok : ∀ e ∈ nd, NmOk e.1
  du : ∀ e ∈ nd, e.2.2.Nodup
  sub : ∀ e ∈ nd, ∀ x ∈ e.2.2, x ∈ nms nd
theorem Tups.same {H H' : Hp} {nd : Nd} (s : Same H H') (h : Tups H nd) : Tups H' nd := fun e he => s _ _ (h e he)
theorem NdAt.same {H H' : Hp} {d : Addr} {nd : Nd} (s : Same H H') (h : NdAt H d nd) : NdAt H' d nd := ⟨s _ _ h.1, h.2.same s⟩
theorem Tups.but {H H' : Hp} {p : Addr} {nd : Nd} (hp : PoolAt H p) (s : But p H H') (h : Tups H nd) : Tups H' nd := fun e he => s _ _ (h e he) fun z => by
  obtain ⟨a, b, q, _⟩ := hp
  have h1 := h e he
  rw [z, q] at h1
  cases h1
theorem NdAt.ne {H : Hp} {p d : Addr} {nd : Nd} (hp : PoolAt H p) (h : NdAt H d nd) : d ≠ p := fun z => by
  obtain ⟨a, b, q, _⟩ := hp
  have h1 := h.1
  rw [z, q] at h1
  cases h1
theorem NdAt.but {H H' : Hp} {p d : Addr} {nd : Nd} (hp : PoolAt H p) (s : But p H H') (h : NdAt H d nd) : NdAt H' d nd := ⟨s _ _ h.1 (h.ne hp), h.2.but hp s⟩
/-- a lock is laid, and taken off again -/
theorem same_lock {H H' : Hp} {d : Addr} {od : Obj} {u : HO} (hd : H d = some u) (s : Same (upd H d (.frz od u)) H') : Same H (upd H' d u) := fun q o h => by
  by_cases e : q = d
  · rw [e] at h ⊢
    rw [upd_same, ← h, hd]
  · rw [upd_ne e]
    exact s q o (by rw [upd_ne e]; exact h)
theorem same_new {H : Hp} {p : Addr} {o : HO} (h : H p = none) : Same H (upd H p o) := fun q u e => by
  rw [upd_ne (ne_of_none e h)]
  exact e
theorem Same.mut {H H' : Hp} {p : Addr} {o : HO} (s : Same H H') (h : H p = none) : Same H (upd H' p o) := fun q u e => by
  rw [upd_ne (ne_of_none e h)]
  exact s q u e
theorem mut_dK {kvs : List (Key × V)} : Mut (some (.dK kvs)) := by trivial
theorem ndK_get {nd : Nd} {i : Nat} {k : Key} {v : V} (h : (ndK nd)[i]? = some (k, v)) : ∃ e, nd[i]? = some e ∧ k = Sum.inr e.1 ∧ v = .ref e.2.1 := by
  unfold ndK at h
  rw [List.getElem?_map] at h
  cases q : nd[i]? with
  | none =>
    rw [q] at h
    cases h
  | some e =>
    rw [q] at h
    cases h
    exact ⟨e, rfl, rfl, rfl⟩
theorem ndK_len (nd : Nd) : (ndK nd).length = nd.length := List.length_map ..
section
variable {P : Program} {w : World} {K : PySem.W.Frag} {mg : Str → Option Value} {base : Heap}
theorem scIsName : FnScope ["value"] ["value"] (defScope sIsName) := ⟨rfl, rfl, rfl, by decide +kernel, rfl, by decide +kernel, by decide +kernel⟩
theorem ok_isName {f : Addr} {fd : FuncData} (F : Fun K "is_name" "is_name" sIsName f fd) (B : Blt mg) : FnOk P w K mg base CX0 1 f fd ["value"] spIsName := by
  refine F.ok scIsName (fun vs H Q E h => ?_) (fun cdv A outer s H vs Q E hr h => ?_)
  · obtain ⟨z, rfl, _⟩ := h
    rfl
  · obtain ⟨z, rfl, ⟨z1, z2, z3, z4, _⟩, k⟩ := h
    refine ⟨_, pss_cons (ps_if (pt_not (pt_val (pe_callB call_isi (by rfl) B.isi boot_isinstance (pa_cons (pv 0) (pa_cons (pe_bltn (v := .ty "str") (by rfl) B.str (by decide +kernel) rfl) pa_nil))))) (pss_one (ps_ret pe_bl)) pss_nil)
      (pss_one (ps_ret (pe_and (pe_cmpR op_le (pe_callB call_len_str (by rfl) B.len PySem.boot_len (pa_cons (pv 0) pa_nil)) pe_int (nomark _))
        (pe_and (pe_m0 PySem.F.slot_str_isascii PySem.F.type_str_isascii mt_isascii (pv 0)) (pe_and (pe_m0 PySem.F.slot_str_isalpha PySem.F.type_str_isalpha mt_isalpha (pv 0)) (pe_one (pe_m0 PySem.F.slot_str_islower PySem.F.type_str_islower mt_islower (pv 0)))))))), ?_⟩
    refine ⟨_, rfl, _, _, _, _, true, rfl, .ty "str", .base (.str z), kit_ty (by decide +kernel), _, rfl, ?_⟩
    refine iteF ?_
    refine ⟨_, rfl, _, rfl, Nat.le_trans z1 (by decide), _, _, rfl, rfl, true, ?_, ?_⟩
    · have e : ((z.length : Nat) : Int) ≤ 8 := by omega
      show V.bl (decide ((z.length : Int) ≤ 8)) = V.bl true
      rw [decide_eq_true e]
    · refine iteT ⟨_, rfl, ⟨_, rfl⟩, _, rfl, rfl, trivial, true, by rw [z2], iteT ⟨_, rfl, ⟨_, rfl⟩, _, rfl, rfl, trivial, true, by rw [z3], iteT ⟨_, rfl, ⟨_, rfl⟩, _, rfl, rfl, trivial, ?_⟩⟩⟩
      rw [z4]
      exact k
/-- is_table of a table -/
def spIsTable : Sp := fun vs H Q _ => ∃ (d : Addr) (nd : Nd), vs = [.ref d] ∧ NdAt H d nd ∧ Good nd ∧ ∀ H', Same H H' → Q (.bl true) H'
theorem scIsTable : FnScope ["needs", "name"] ["needs"] (defScope sIsTable) := ⟨rfl, rfl, rfl, by decide +kernel, rfl, by decide +kernel, by decide +kernel⟩
theorem ok_isTable {f fN : Addr} {fd fdN : FuncData} (F : Fun K "is_table" "is_table" sIsTable f fd) (B : Blt mg) (GN : FnOk P w K mg base CX0 1 fN fdN ["value"] spIsName) (gN : mg "is_name" = some (.ref fN)) (kN : PySem.W.keepIn K (.ref fN) = true) (bN : Binds K fdN ["value"] [])
    {t5 : Tok} (g5 : mg "MOST_VALUES" = some (.int 5 t5)) : FnOk P w K mg base CX0 2 f fd ["needs"] spIsTable := by
  refine F.ok scIsTable (fun vs H Q E h => ?_) (fun cdv A outer s H vs Q E hr h => ?_)
  · obtain ⟨d, nd, rfl, _⟩ := h
    rfl
  · obtain ⟨d, nd, rfl, ⟨hd, ht⟩, G, k⟩ := h
    have nd0 := scIsTable.nd
    refine ⟨_, pss_cons (ps_if (pt_not (pt_val (pe_callB call_isi (by rfl) B.isi boot_isinstance (pa_cons (pv 0) (pa_cons (pe_bltn (v := .ty "dict") (by rfl) B.dict (by decide +kernel) rfl) pa_nil))))) (pss_one (ps_ret pe_bl)) pss_nil)
      (pss_one (ps_ret (pe_and (pe_chain op_le op_le pe_int (pe_callB call_lenD (by rfl) B.len PySem.boot_len (pa_cons (pv 0) pa_nil)) (pe_glob (v := .int 5) (by rfl) g5 ⟨_, rfl⟩))
        (pe_one (pe_callB (cr_all rfl) (by rfl) B.all (by decide +kernel) (pa_cons (pe_lock (pe_lc (own := [("name", 1)]) (g := gName 1) (tt := tYes) (by rfl) nd0 (pi_keys (pv 0)) (blkOk_by (own := [("name", 1)]) (N := ["needs", "name"]) (sc := defScope sIsTable) (by decide +kernel))
          (fun _ _ _ _ _ => pg_name (i := 1) nd0 rfl (Or.inl rfl)) (fun _ _ _ _ _ => pts_nil) (fun _ _ _ _ _ => pe_call GN hr (by rfl) gN kN bN .nil pass0 (pa_cons (pv 1) pa_nil)))) pa_nil)))))), ?_⟩
    refine ⟨_, rfl, _, _, _, _, true, rfl, .ty "dict", .base (.dK hd), kit_ty (by decide +kernel), _, rfl, ?_⟩
    refine iteF ?_
    have l1 : (1 : Int) ≤ ((ndK nd).length : Int) := by
      rw [ndK_len]
      have := G.one
      omega
    have l5 : ((ndK nd).length : Int) ≤ 5 := by
      rw [ndK_len]
      have := G.five
      omega
    refine ⟨_, rfl, d, ndK nd, rfl, hd, _, _, rfl, rfl, true, congrArg V.bl (decide_eq_true l1), iteT ⟨_, _, rfl, rfl, true, congrArg V.bl (decide_eq_true l5), iteT ?_⟩⟩
    refine ⟨d, _, hd, mut_dK, fun od => ⟨_, rfl, d, od, rfl, .inl ⟨ndK nd, upd_same, fun D hD => lc_it walk_keys (fun i H' => H' D = some (.lst (List.replicate i (V.bl true))) ∧ Same (upd H d (.frz od (.dK (ndK nd)))) H')
      ⟨upd_same, same_new hD⟩ (fun i H' _ p => p.2 _ _ upd_same) ?_ ?_⟩⟩⟩
    · rintro i x H1 H2 hi ⟨p1, p2⟩ ⟨rfl, k0, v0, hk, rfl⟩
      obtain ⟨e, he, rfl, rfl⟩ := ndK_get hk
      refine ⟨rfl, _, rfl, e.1, rfl, G.ok e (List.mem_of_getElem? he), _, p1, ?_, upd_same.trans (by rw [List.replicate_succ'] <;> rfl), Same.mut p2 hD⟩
      rw [List.length_replicate]
      exact small1000 (by rw [ndK_len] at hi; have := G.five; omega)
    · rintro H' ⟨p1, p2⟩
      refine ⟨p2 _ _ upd_same, D, List.replicate (ndK nd).length true, rfl, SqL.of ?_, ?_⟩
      · have nDd : D ≠ d := fun z => by
          rw [z, upd_same] at hD
          cases hD
        rw [upd_ne nDd, p1, List.map_replicate]
      · have e : (List.replicate (ndK nd).length true).all id = true := by simp
        rw [e]
        exact k _ (same_lock hd p2)
end
end Nt
set_option Elab.async false
set_option linter.all false
set_option maxRecDepth 100000
set_option maxHeartbeats 4000000
namespace Nt
open PySem PySem.Spec PyProof.Rows L2
section
variable {prog : Program} {w : World} {A : Around} {E : Value → Shared → Prop} {s : Shared}
theorem by_str (a : Addr) : Builtin.«list.sort» ⟨[.ref a], [(Str.ofString "key", .type "str")]⟩ = ksk_tree a (.type "str") false := rfl
theorem arg_str1 (a : Value) : argsOk "sorted" ⟨[a], [(Str.ofString "key", .type "str")]⟩ := ksk_s1 a _
theorem arg_str2 (a : Value) : argsOk "list.sort" ⟨[a], [(Str.ofString "key", .type "str")]⟩ := ksk_l1 a _
/-- what is left where the keys are the items themselves -/
theorem end_str {a kS : Addr} {vs : List Value} {ks : List Str} {e e1 : Nat} {P : PySem.Fin → Shared → Prop} (hS : StrsAre vs ks) (h64 : vs.length < 64) (hk : s.heap.get? kS = some (seqObj "list" vs.toArray e)) (ha : s.heap.get? a = some (seqObj "list" #[] e1)) (ne : kS ≠ a)
    (h : ∀ (h' : Heap) (out : Array Value) (ys : List Str), (∀ b o, b ≠ a → b ≠ kS → s.heap.get? b = some o → h'.get? b = some o) → (∃ c, h'.get? a = some (seqObj "list" out c)) → StrsAre out.toList ys → ys.Perm ks → sortedS ys = true → P (.done (.ret .none)) { s with heap := h' }) :
    wpAny (model prog w) A (ksk_end a false vs.toArray e1 (.ref kS) vs.toArray) P E s := by
  have fin : ∀ st' : SortSt, (arrOf st').Perm (pairsOf vs) → SortedToK strKind (arrOf st') (pairsOf vs).size → failedOf st' = none → wpAny (model prog w) A (ksk_tail a false e1 (.ref kS) st') P E s := by
    intro st' hp hs hf
    obtain ⟨ys, g1, g2, g3⟩ := sorted_out_str hS hp hs
    have k1 := Heap.SameBut.update s.heap kS (Obj.mapSeq fun _ => (#[] : Array Value))
    have ha1 := (k1.2 a ne.symm).trans ha
    have k2 := Heap.SameBut.update (s.heap.update kS (Obj.mapSeq fun _ => (#[] : Array Value))) a (Obj.mapSeq fun _ => (arrOf st').map (·.2))
    have hz : (if false = true then ((arrOf st').map (·.2)).reverse else (arrOf st').map (·.2)).size ≤ sizeLine + 1 := by
      rw [if_neg Bool.false_ne_true, Array.size_map, hp.size_eq, pairsOf_size, sizeLine_eq]
      omega
    unfold ksk_tail
    try dsimp only
    refine wpAny_bind (listUpdate_at hk rfl ?_ (by rw [List.size_toArray, sizeLine_eq]; omega) (Nat.zero_le _))
    refine wpAny_bind (wpAny_letGo ?_)
    refine wpAny_bind (seqEpoch_at ha1 rfl ?_)
    refine wpAny_bind (listUpdate_at ha1 rfl ?_ (Nat.zero_le _) hz)
    rw [hf]
    simp only [bne_self_eq_false, Bool.false_eq_true, if_false]
    exact wpAny_pure (h _ _ ys (fun b o n1 n2 q => (k2.2 b n1).trans ((k1.2 b n2).trans q)) ⟨_, get?_update_seq ha1 fun _ => (arrOf st').map (·.2)⟩ g1 g2 g3)
  unfold ksk_end
  try dsimp only
  simp only [Bool.false_eq_true, if_false]
  match vs, hS, h64, hk, fin with
  | [], _, _, _, fin =>
    rw [if_pos (by decide), if_pos (by decide)]
    refine wpAny_bind (wpAny_pure (wpAny_bind (wpAny_pure ?_)))
    exact fin (SortSt.mk' general' (pairsOf []) #[] 7 none) (Array.Perm.refl _) (fun i j _ hj => by rw [pairsOf_size] at hj; exact absurd hj (Nat.not_lt_zero _)) rfl
  | [v], _, _, _, fin =>
    rw [if_pos (by show 1 < 2; decide), if_pos (by show 1 < 2; decide)]
    refine wpAny_bind (wpAny_pure (wpAny_bind (wpAny_pure ?_)))
    refine fin (SortSt.mk' general' (pairsOf [v]) #[] 7 none) (Array.Perm.refl _) (fun i j hij hj => ?_) rfl
    rw [pairsOf_size] at hj
    have e : i = j := by
      simp at hj
      omega
    subst e
    exact KeyOrd.kle_refl _
  | v₁ :: v₂ :: rest, hS, h64, _, fin =>
    have n2 : ¬ (v₁ :: v₂ :: rest).toArray.size < 2 := by simp
    rw [if_neg n2, if_neg n2, keyKind_strs hS]
    refine wpAny_bind (wpAny_pure (wpAny_bind (wpAny_mono (wpS_sortRunsK (κ := strKind) strKind_oneLt (a₀ := pairsOf (v₁ :: v₂ :: rest)) (st := SortSt.mk' oneType' (pairsOf (v₁ :: v₂ :: rest)) #[] 7 none)
      (Q := fun _ z => (arrOf z).Perm (pairsOf (v₁ :: v₂ :: rest)) ∧ failedOf z = none ∧ SortedToK strKind (arrOf z) (pairsOf (v₁ :: v₂ :: rest)).size)
      hS.keysOf ⟨Array.Perm.refl _, rfl, rfl, rfl⟩ (by rw [pairsOf_size]; simp) (by rw [pairsOf_size]; exact h64) fun z b1 b2 b3 => ⟨b1, b2, b3⟩) (fun r s2 q => ?_) fun _ _ z => z)))
    obtain ⟨⟨⟩, z⟩ := r
    obtain ⟨rfl, b1, b2, b3⟩ := q
    exact fin z b1 b3 b2
theorem sort_key_str {a : Addr} {vs : List Value} {ks : List Str} {n : Nat} {P : PySem.Fin → Shared → Prop} (ho : s.heap.get? a = some (seqObj "list" vs.toArray n)) (hS : StrsAre vs ks) (h64 : vs.length < 64)
    (h : ∀ (h' : Heap) (out : Array Value) (ys : List Str), (∀ b o, b ≠ a → s.heap.get? b = some o → h'.get? b = some o) → (∃ c, h'.get? a = some (seqObj "list" out c)) → StrsAre out.toList ys → ys.Perm ks → sortedS ys = true → P (.done (.ret .none)) { s with heap := h' }) :
    wpAny (model prog w) A (Builtin.«list.sort» ⟨[.ref a], [(Str.ofString "key", .type "str")]⟩) P E s := by
  rw [by_str]
  have k1 := Heap.SameBut.update s.heap a (Obj.mapSeq fun _ => (#[] : Array Value))
  obtain ⟨e1, ho1⟩ : ∃ c, (s.heap.update a (Obj.mapSeq fun _ => (#[] : Array Value))).get? a = some (seqObj "list" #[] c) := ⟨_, get?_update_seq ho fun _ => #[]⟩
  have hsz : ((s.heap.update a (Obj.mapSeq fun _ => (#[] : Array Value))).push (seqObj "tuple" vs.toArray 0)).objs.size = s.heap.objs.size + 1 := by rw [size_push', Heap.size_update]
  have la := Heap.lt_size ho
  unfold ksk_tree
  refine wpAny_bind (listItems_at ho rfl ?_)
  refine wpAny_bind (listUpdate_at ho rfl ?_ (by rw [List.size_toArray, sizeLine_eq]; omega) (Nat.zero_le _))
  refine wpAny_bind (seqEpoch_at ho1 rfl (wpAny_bind (wpAny_newTuple ?_ (by show vs.length ≤ _; rw [sizeLine_eq]; omega))))
  refine wpAny_bind (wpAny_newList (wpAny_holding ?_) (Nat.zero_le _))
  show wpAny (model prog w) A (ksk_rest a (.type "str") false vs.toArray e1 (.ref ((s.heap.update a (Obj.mapSeq fun _ => (#[] : Array Value))).push (seqObj "tuple" vs.toArray 0)).objs.size)) P E _
  rw [hsz]
  have kNe : s.heap.objs.size + 1 ≠ a := Nat.ne_of_gt (Nat.lt_succ_of_lt la)
  have keep0 : ∀ b o, b ≠ a → s.heap.get? b = some o → (((s.heap.update a (Obj.mapSeq fun _ => (#[] : Array Value))).push (seqObj "tuple" vs.toArray 0)).push (seqObj "list" #[] 0)).get? b = some o := fun b o n q => Heap.get?_push_of_some _ (Heap.get?_push_of_some _ ((k1.2 b n).trans q))
  unfold ksk_rest
  refine wpAny_bind (wpAny_rule ?_)
  rw [List.forIn_toArray]
  refine wpAny_bind (ksk_fold (fun i s' => ∃ (g : Heap) (c : Nat), s' = { s with heap := g } ∧ g.get? (s.heap.objs.size + 1) = some (seqObj "list" (vs.take i).toArray c) ∧ g.get? a = some (seqObj "list" #[] e1) ∧ ∀ b o, b ≠ a → s.heap.get? b = some o → g.get? b = some o) vs 0 _
    ⟨_, 0, rfl, by rw [← hsz]; exact Heap.get?_push_size _ rfl, Heap.get?_push_of_some _ (Heap.get?_push_of_some _ ho1), keep0⟩ ?st ?dn)
  case st =>
    rintro j x s' hx ⟨g, c, rfl, g1, g2, g3⟩
    rw [Nat.zero_add] at g1 ⊢
    have hj : j < vs.length := (List.getElem?_eq_some_iff.mp hx).1
    obtain ⟨z, t, rfl⟩ : ∃ z t, x = Value.str z t := by
      obtain ⟨t, e⟩ := SS.strs_at hS j x hx
      exact ⟨_, t, e⟩
    refine wpAny_bind (wpAny_attempt (PySem.P.str_of_str ?_))
    try dsimp only
    have k3 := Heap.SameBut.update g (s.heap.objs.size + 1) (Obj.mapSeq (·.push (Value.str z t)))
    have et : vs.take (j + 1) = vs.take j ++ [Value.str z t] := by rw [List.take_add_one, hx]; simp
    have hp := get?_update_seq g1 (·.push (Value.str z t))
    have ep : ((vs.take j).toArray.push (Value.str z t)) = (vs.take (j + 1)).toArray := by rw [et]; simp
    rw [ep] at hp
    refine wpAny_bind (listUpdate_at g1 rfl ?_ (by rw [List.size_toArray, List.length_take, sizeLine_eq]; omega) (by rw [ep, List.size_toArray, List.length_take, sizeLine_eq]; omega))
    refine wpAny_pure ⟨rfl, _, _, rfl, hp, (k3.2 a kNe.symm).trans g2, fun b o n q => (k3.2 b ?_).trans (g3 b o n q)⟩
    exact Nat.ne_of_lt (Nat.lt_succ_of_lt (Heap.lt_size q))
  case dn =>
    rintro s' ⟨g, c, rfl, g1, g2, g3⟩
    rw [Nat.zero_add, List.take_length] at g1
    try dsimp only
    refine wpAny_bind (listItems_at g1 rfl ?_)
    exact end_str (s := { s with heap := g }) hS h64 g1 g2 kNe fun h' out ys q1 q2 q3 q4 q5 => h h' out ys (fun b o n q => q1 b o n (Nat.ne_of_lt (Nat.lt_succ_of_lt (Heap.lt_size q))) (g3 b o n q)) q2 q3 q4 q5
end
end Nt
set_option Elab.async false
set_option linter.all false
set_option maxRecDepth 100000
set_option maxHeartbeats 4000000
namespace Nt
open PySem PySem.Spec PyProof.Rows L2
theorem unlike_take {α : Type} {xs : List α} {i : Nat} {x : α} (un : xs.Nodup) (hx : xs[i]? = some x) : x ∉ xs.take i := fun h => by
  rw [← List.take_append_drop i xs, List.nodup_append] at un
  refine un.2.2 x h x (List.mem_of_getElem? (i := 0) ?_) rfl
  rw [List.getElem?_drop]
  exact hx
section
variable {X : Cx}
/-- sorted(d, key=str), d a dict of fewer than 64 texts -/
def rSortBy : List V → List V → Hp → VK → Prop := fun vs zs H Q => ∃ (d : Addr) (kvs : List (Key × V)) (ks : List Str), vs = [V.ref d] ∧ zs = [.ty "str"] ∧ Rd H d (.dK kvs) ∧ kvs.map (·.1) = ks.map Sum.inr ∧ ks.length < 64 ∧
  ∀ ys p, ys.Perm ks → sortedS ys = true → H p = none → Q (.ref p) (upd H p (.lst (ys.map V.str)))
theorem cr_sortBy (calm : X.calm = true) : CallRK X (.builtin "sorted") [Str.ofString "key"] rSortBy := by
  intro pins s σ H xs zs us ws Q I rx rz q
  obtain ⟨d, kvs, ks, rfl, rfl, hd, hks, small, q⟩ := q
  obtain rfl := Vals.ref1 rx
  obtain ⟨w1, rfl, e1⟩ := vals1 rz
  obtain rfl : w1 = Value.type "str" := e1
  obtain ⟨_, lo, vs, rel, dd⟩ := dk_rd I.hok hd
  obtain ⟨ep, hat⟩ := dd.dictAt
  have hkeys : vs.map (·.1) = ks.map Sum.inr := rel.keys.symm.trans hks
  have len : vs.length = ks.length := by
    have e := congrArg List.length hkeys
    simpa using e
  show wpAny (model X.prog X.w) X.A (call (.builtin "sorted") [.ref d] [(Str.ofString "key", .type "str")]) (EP X pins σ Q) X.xe s
  refine call_function_entry_kw kind_sorted plain_sorted entry_sorted (arg_str1 _) ?_
  unfold Builtin.«sorted»
  refine wpAny_bind (m := checkCount "sorted" 1 1 _) (wpAny_pure (wpAny_bind ?_))
  refine PySem.W.kdu_collect (A := X.A.in1) (PySem.W.kdl_dict (knd := mixKind X.prog X.w) (kvs := vs) (ep := ep) lo) (I.ok.hd calm) hat (by rw [len, sizeLine_eq]; omega) fun h1 t1 acc kp made => ?_
  have alen : acc.toList.length = ks.length := by rw [Array.length_toList, made.1, len]
  have row : StrsAre acc.toList ks := L2.strs_at alen fun j v e => by
    obtain ⟨k, x, a1, a2⟩ := made.2 j v (by rw [← Array.getElem?_toList]; exact e)
    have a3 : (vs.map (·.1))[j]? = some k := by rw [List.getElem?_map, a1] <;> rfl
    rw [hkeys, List.getElem?_map] at a3
    cases hj : ks[j]? with
    | none =>
      rw [hj] at a3
      cases a3
    | some y =>
      rw [hj] at a3
      obtain rfl : Sum.inr y = k := Option.some.inj a3
      obtain ⟨t, ev⟩ := Value.isStrOf_shape (x := y) (v := v) a2
      exact ⟨y, t, rfl, ev⟩
  have J : Inv X pins σ H { s with heap := h1, toks := t1 } := I.kept kp
  refine wpAny_bind (wpAny_newList ?_ (by rw [alen, sizeLine_eq]; omega))
  have laid : (h1.push (seqObj "list" acc.toList.toArray 0)).get? h1.objs.size = some (seqObj "list" acc.toList.toArray 0) := Heap.get?_push_size _ rfl
  refine wpAny_bind (wpAny_holding (wpAny_call_entry_kw slot_list_sort ⟨_, laid, rfl⟩ entry_list_sort ?body (arg_str2 _)))
  case body =>
    refine sort_key_str (s := { s with heap := h1.push (seqObj "list" acc.toList.toArray 0), toks := t1 }) laid row (by rw [alen]; exact small) fun g out ys k1 ⟨c, k2⟩ k3 k4 k5 => ⟨_, rfl, wpAny_pure ⟨_, rfl, ?_⟩⟩
    have ylen : (ys.map V.str).length ≤ sizeLine := by rw [List.length_map, k4.length_eq, sizeLine_eq]; omega
    exact ⟨.ref h1.objs.size, upd H h1.objs.size (.lst (ys.map V.str)), J.laid (t' := t1) (fun b u e => k1 b u (Nat.ne_of_lt (Heap.lt_size e)) (Heap.get?_push_of_some _ e)) (Nat.le_refl _)
      (show ObjOk X.prog X.w _ _ _ (.lst (ys.map V.str)) from ⟨ylen, out.toList, c, vals_of_strs k3, by rw [Array.toArray_toList]; exact k2⟩), rfl, q ys _ k4 k5 (J.hok.fresh (Nat.le_refl _))⟩
end
section
variable {prog : Program} {w : World} {A : Around} {R : Result → Shared → Prop} {I : Addr} {fp wr : List Addr} {G : Array GenState → Array GenState → Prop} {n : Nat} {P : Nat → Value → Prop} {St : Nat → Shared → Prop}
/-- unlike texts go into a set one by one -/
theorem into_set (W : WalksS prog w A.in1 I fp wr G n P St) (S : Addr) (out : S ∉ fp) (xs : List Str) (len : xs.length = n) (few : n ≤ 64) (un : xs.Nodup) (val : ∀ i v, P i v → ∃ t, v = .str (xs.getD i Str.empty) t) (k : Nat) :
    ∀ (i : Nat) (s : Shared), i + k = n → St i s → s.heap.SetOf (PySem.strKind prog w) S (fun y => decide (y ∈ xs.take i)) i →
      (∀ s', Moved (S :: wr) G s s' → s'.heap.SetOf (PySem.strKind prog w) S (fun y => decide (y ∈ xs.take n)) n → R (.ok (.ret .none)) s') →
      codeAny (model prog w) A (.builtin "set.update.loop" ⟨[.ref S, .ref I], []⟩) R s := by
  have away : S ∉ wr := fun h => out (W.sub _ h)
  have wider : ∀ b ∈ wr, b ∈ S :: wr := fun b hb => List.mem_cons_of_mem _ hb
  have stays : ∀ {s s' : Shared} {i : Nat} {f : Str → Bool}, Moved wr G s s' → s.heap.SetOf (PySem.strKind prog w) S f i → s'.heap.SetOf (PySem.strKind prog w) S f i := fun m q => by
    obtain ⟨o, es, ep, t, ho, r⟩ := q
    exact ⟨o, es, ep, t, m.heap S _ away ho, r⟩
  induction k with
  | zero =>
    intro i s hi st set fin
    obtain rfl : i = n := by omega
    refine codeAny_builtin PyProof.Rows.F.entry_set_update_loop ?_
    rw [Around.under_plainId PyProof.Rows.F.plain_set_update_loop _]
    exact wpAny_bind (W.done s _ _ st fun s' m => wpAny_pure (fin s' (m.mono wider) (stays m set)))
  | succ k ih =>
    intro i s hi st set fin
    have below : i < n := by omega
    refine codeAny_builtin PyProof.Rows.F.entry_set_update_loop ?_
    rw [Around.under_plainId PyProof.Rows.F.plain_set_update_loop _]
    refine wpAny_bind (W.item i s _ _ below st fun v s' pv st' m => ?_)
    obtain ⟨t, rfl⟩ := val i v pv
    have hx : xs[i]? = some (xs.getD i Str.empty) := by
      have hl : i < xs.length := by omega
      rw [List.getD_eq_getElem?_getD, List.getElem?_eq_getElem hl] <;> rfl
    generalize xs.getD i Str.empty = x at hx
    have new : x ∉ xs.take i := unlike_take un hx
    have set1 := stays m set
    refine wpAny_bind (wpAny_holding ?_)
    unfold setAdd
    refine wpAny_holding (wpAny_bind ((PySem.strKind prog w).pyHash (k := x) (strKind_is _ _ _ _) ?_))
    refine wpAny_setAddHashed_of (knd := PySem.strKind prog w) (s := { s' with toks := s'.toks + 1 }) (strKind_is _ _ _ _) rfl set1 (by unfold scanBound; omega) fun h' but grown => ?_
    have next : h'.SetOf (PySem.strKind prog w) S (fun y => decide (y ∈ xs.take (i + 1))) (i + 1) := by
      refine PyProof.Rows.SetOf_congr grown (fun y => ?_) ?_
      · have et : xs.take (i + 1) = xs.take i ++ [x] := by rw [List.take_add_one, hx] <;> rfl
        rw [et]
        simp [List.mem_append]
      · simp [new]
    refine wpAny_pure ⟨plainId_quiet PyProof.Rows.F.plain_set_update_loop _, ih (i + 1) _ (by omega) (W.frame _ s' _ _ st' (Nat.le_succ _) fun b hb o e => (but.2 b fun z => out (z ▸ hb)).trans e) next fun s2 m2 set2 => ?_⟩
    exact fin s2 (Moved.trans W.gtrans ((m.mono wider).then_heap (Nat.le_succ _) fun b o hb e => (but.2 b fun z => hb (z ▸ List.mem_cons_self)).trans e) m2) set2
end
section
variable {prog : Program} {w : World} {A : Around} {E : Value → Shared → Prop} {s : Shared}
theorem set_of_tuple {l : Addr} {items : Array Value} {xs : List Str} {Q : Value → Shared → Prop} (calm : A.handled = none) (hl : s.heap.IsTuple l items) (row : StrsAre items.toList xs) (few : xs.length ≤ 64) (un : xs.Nodup)
    (h : ∀ (h' : Heap) (tk : Nat), h'.SetOf (PySem.strKind prog w) s.heap.objs.size (fun y => decide (y ∈ xs)) xs.length → (∀ b o, s.heap.get? b = some o → h'.get? b = some o) → Q (.ref s.heap.objs.size) { s with heap := h', toks := tk }) :
    wpAny (model prog w) A (call (.type "set") [.ref l]) Q E s := by
  have size : items.size = xs.length := by rw [← StrsAre.len_eq row, Array.length_toList]
  obtain ⟨⟨cl, od, dt, sl⟩, ho, hc, ep, hd⟩ := id hl
  simp only at hc hd
  subst hc hd
  have tlow : l < s.heap.objs.size := Heap.lt_size ho
  obtain ⟨c0, c1, mro⟩ := PySem.F.called_set.mro
  have made := PySem.F.called_set.made
  have sub0 := PySem.F.called_set.sub
  have p1 := PySem.F.called_set.notType
  have p2 := PySem.F.called_set.canCreate
  have p3 := PySem.F.typeCall_set_1 (.ref l)
  refine wpAny_call (codeAny_of_tree ?_)
  show wpAny _ _ (callAny (.type "set") _) _ _ _
  refine wpAny_pure ⟨Code.quiet_builtin _ (by decide +kernel), codeAny_builtin PySem.F.entry_type_call ?_⟩
  rw [Around.under_plain (weight_type_call_type "set" [.ref l] []) rfl]
  repeat (any_goals (first | assumption | wp_step))
  refine codeAny_mono (code_set_new_1 (.ref l) (E := E) (Q₁ := fun obj z => ∃ led : Bool, obj = .ref s.heap.objs.size ∧ z = { s with heap := s.heap.push { cls := .type "set", dict := none, data := .set #[] 0 (.fresh 0 0 led) } }) fun led => ⟨led, rfl, rfl⟩) fun r z hr => ?_
  match r, hr with
  | .error _, hr => exact hr
  | .ok .next, hr => exact hr.elim
  | .ok .brk, hr => exact hr.elim
  | .ok .cont, hr => exact hr.elim
  | .ok (.ret obj), hr =>
    obtain ⟨led, rfl, rfl⟩ := hr
    have atS : (s.heap.push { cls := .type "set", dict := none, data := .set #[] 0 (.fresh 0 0 led) }).get? s.heap.objs.size = some { cls := .type "set", dict := none, data := .set #[] 0 (.fresh 0 0 led) } := Heap.get?_push_size _ rfl
    have tyS : Shared.TypeIs { s with heap := s.heap.push { cls := .type "set", dict := none, data := .set #[] 0 (.fresh 0 0 led) } } (.ref s.heap.objs.size) "set" := ⟨_, atS, rfl⟩
    have q1 := PySem.F.called_set.init.lookup
    have q2 := PySem.F.called_set.init.bind (.ref s.heap.objs.size)
    repeat (any_goals (first | assumption | wp_step))
    refine codeAny_mono (codeAny_call_builtin (R := wants (fun r z => r = .none ∧ ∃ h' tk, z = { s with heap := h', toks := tk } ∧ h'.SetOf (PySem.strKind prog w) s.heap.objs.size (fun y => decide (y ∈ xs)) xs.length ∧ ∀ b o, s.heap.get? b = some o → h'.get? b = some o) E)
      PySem.F.called_set.init.plain PySem.F.entry_set_init (check_set_init_1 tyS ?_)) fun r2 z2 hr2 => ?_
    · have tupS : (s.heap.push { cls := .type "set", dict := none, data := .set #[] 0 (.fresh 0 0 led) }).IsTuple l items := ⟨_, Heap.get?_push_of_some _ ho, rfl, ep, rfl⟩
      have ho2 := Heap.get?_push_of_some { cls := .type "set", dict := none, data := .set #[] 0 (.fresh 0 0 led) } ho
      have d1 := PySem.F.sub_tuple_set
      have d2 := PySem.F.sub_tuple_frozenset
      have d3 : (Value.type "tuple" == Value.type "dict") = false := by decide
      unfold Builtin.«set.__init__» noKeywords Builtin.Frozenset.updateFrom
      generalize hPI : pyIter = PI
      wp_walk
      subst hPI
      refine wpAny_pyIter_tuple tupS (wpAny_bind (wpAny_runValue ?_))
      have calm3 : A.in1.in1.in1.handled = none := by simp [calm]
      have apart : l ≠ (s.heap.push { cls := .type "set", dict := none, data := .set #[] 0 (.fresh 0 0 led) }).objs.size := by
        rw [Heap.size_push]
        exact Nat.ne_of_lt (Nat.lt_succ_of_lt tlow)
      refine into_set ((Walks.tuple calm3 _ l apart items).toS) s.heap.objs.size ?_ xs size.symm (by rw [size]; exact few) un (fun i v hv => SS.strs_at row i v (by rw [Array.getElem?_toList]; exact hv)) items.size 0 _ (Nat.zero_add _) ⟨⟨_, Heap.get?_push_size _ rfl, rfl, rfl⟩, tupS.push _⟩ ?_ ?_
      · rw [Heap.size_push]
        simp only [List.mem_cons, List.not_mem_nil, or_false, not_or]
        exact ⟨Nat.ne_of_lt (Nat.lt_succ_self _), Nat.ne_of_gt tlow⟩
      · exact PyProof.Rows.SetOf_congr ((PyProof.Rows.setObjOf_fresh (knd := PySem.strKind prog w) led).setOf (Heap.get?_push_of_some _ atS) (by unfold scanBound; omega)) (fun y => by simp) rfl
      · rintro ⟨g, g', d', t', os'⟩ m set
        obtain rfl : g' = s.gens := m.gens
        obtain rfl : d' = s.drawn := m.drawn
        obtain rfl : os' = s.os := m.os
        rw [← size]
        refine wpAny_pure (wpAny_pure ⟨rfl, g, t', rfl, ?_, fun b o e => ?_⟩)
        · refine PyProof.Rows.SetOf_congr set (fun y => ?_) rfl
          rw [List.take_of_length_le (by omega)]
        · have lt := Heap.lt_size e
          refine m.heap b o ?_ (Heap.get?_push_of_some _ (Heap.get?_push_of_some _ e))
          simp only [List.mem_cons, List.not_mem_nil, or_false, not_or]
          refine ⟨Nat.ne_of_lt lt, ?_⟩
          rw [Heap.size_push]
          exact Nat.ne_of_lt (Nat.lt_succ_of_lt lt)
    · match r2, hr2 with
      | .error _, hr2 => exact hr2
      | .ok .next, hr2 => exact hr2.elim
      | .ok .brk, hr2 => exact hr2.elim
      | .ok .cont, hr2 => exact hr2.elim
      | .ok (.ret r), hr2 =>
        obtain ⟨rfl, h', tk, rfl, a1, a2⟩ := hr2
        repeat (any_goals (first | assumption | wp_step))
        exact h _ _ a1 a2
end
section
variable {X : Cx}
/-- len(set(t)), t a tuple of unlike texts -/
def tLenSetU (K : PySem.W.Frag) (ta : TE) : TE := fun σ H Q => ta σ H fun x H1 => ∃ (l : Addr) (xs : List Str), x = .ref l ∧ SqT K H1 l (xs.map V.str) ∧ xs.length ≤ 64 ∧ xs.Nodup ∧ Q (.int (xs.length : Int)) H1
theorem pe_lenSetU {a : Expr} {ta : TE} {p p2 q pos : Pos} (calm : X.calm = true) (g1 : Gl X "len") (m1 : X.mg "len" = none) (g2 : Gl X "set") (m2 : X.mg "set" = none) (ha : PE X a ta) (na : starEach [a] X.env = (false, eval a X.env) :: starEach [] X.env := by rfl) :
    PE X (.Call (.Name "len" p) [.Call (.Name "set" p2) [a] [] q] [] pos) (tLenSetU X.K ta) := by
  refine ⟨fun pins s σ H Q I h => ?_⟩
  refine PyProof.Rows.Call_ (ld_blt I g1 m1 boot_len (PyProof.Rows.callWith_builtin1 (PyProof.Rows.args_cons ?_ rfl) rfl rfl))
  refine PyProof.Rows.Call_ (ld_blt I g2 m2 boot_set (PyProof.Rows.callWith_type1 (PyProof.Rows.args_cons (thn (ha.run pins s σ H _ I h) fun v s1 ⟨x, H1, I1, r1, l, xs, ex, ht, few, un, k⟩ => PyProof.Rows.args_nil ?_) na) na rfl))
  subst ex
  cases r1
  obtain ⟨its, row, at0, _⟩ := I1.tuple ht
  refine set_of_tuple (I1.ok.hd calm) at0 (by simpa using L2.strsAre_of row) few un fun h' tk set keep => ?_
  have J : Inv X pins σ H1 { s1 with heap := h', toks := tk } := I1.kept keep
  obtain ⟨o, es, e0, t, ho, hex, hd, _, _, _, hf, hn⟩ := set
  refine PyProof.Rows.args_nil (call_len_set ho hex hd hf (by rw [hn] <;> omega) ⟨.int xs.length, H1, J.tok _, ⟨_, by rw [hn]⟩, k⟩)
end
end Nt
set_option Elab.async false
set_option linter.all false
set_option maxRecDepth 100000
set_option maxHeartbeats 4000000
namespace Nt
open PySem PySem.Spec PyProof.Rows L2
abbrev sKept : Stmt := top 11
abbrev sInit : Stmt := inClass (top 12) 0
abbrev sNames : Stmt := inClass (top 12) 8
/-! ### the entry of a name -/
def look (nd : Nd) (n : Str) : Addr × List Str := ((nd.find? fun e => decide (e.1 = n)).map (·.2)).getD (0, [])
theorem find_ent : ∀ {nd : Nd}, (nms nd).Nodup → ∀ {e}, e ∈ nd → nd.find? (fun x => decide (x.1 = e.1)) = some e
  | [], _, _, h => by cases h
  | x :: nd, un, e, h => by
    have un' := List.nodup_cons.mp (show (x.1 :: nms nd).Nodup from un)
    rcases List.mem_cons.mp h with q | h
    · subst q
      simp
    · have ne : ¬ x.1 = e.1 := fun q => un'.1 (q ▸ List.mem_map.mpr ⟨e, h, rfl⟩)
      rw [List.find?_cons]
      simp only [ne, decide_false]
      exact find_ent un'.2 h
theorem look_ent {nd : Nd} (un : (nms nd).Nodup) {e} (h : e ∈ nd) : look nd e.1 = e.2 := by
  unfold look
  rw [find_ent un h] <;> rfl
theorem val_ent : ∀ {nd : Nd}, (nms nd).Nodup → ∀ {e}, e ∈ nd → valV (ndK nd) (Sum.inr e.1) = some (V.ref e.2.1)
  | [], _, _, h => by cases h
  | x :: nd, un, e, h => by
    have un' := List.nodup_cons.mp (show (x.1 :: nms nd).Nodup from un)
    have step : valV (ndK (x :: nd)) (Sum.inr e.1) = if x.1 = e.1 then some (V.ref x.2.1) else valV (ndK nd) (Sum.inr e.1) := by
      unfold valV ndK
      rw [List.map_cons, List.find?_cons]
      by_cases q : x.1 = e.1
      · simp [q]
      · have q2 : ¬ (Sum.inr x.1 : Key) = Sum.inr e.1 := fun z => q (Sum.inr.inj z)
        simp [q, q2]
    rw [step]
    rcases List.mem_cons.mp h with q | h
    · subst q
      rw [if_pos rfl]
    · have ne : ¬ x.1 = e.1 := fun q => un'.1 (q ▸ List.mem_map.mpr ⟨e, h, rfl⟩)
      rw [if_neg ne]
      exact val_ent un'.2 h
theorem mem_nms {nd : Nd} {n : Str} (h : n ∈ nms nd) : ∃ e ∈ nd, e.1 = n := List.mem_map.mp h
theorem val_name {nd : Nd} (un : (nms nd).Nodup) {n : Str} (h : n ∈ nms nd) : valV (ndK nd) (Sum.inr n) = some (V.ref (look nd n).1) := by
  obtain ⟨e, he, rfl⟩ := mem_nms h
  rw [val_ent un he, look_ent un he]
theorem mem_look {nd : Nd} (un : (nms nd).Nodup) {n : Str} (h : n ∈ nms nd) : (n, look nd n) ∈ nd := by
  obtain ⟨e, he, rfl⟩ := mem_nms h
  rw [look_ent un he]
  exact he
/-- in another order of the names -/
def turned (nd : Nd) (ys : List Str) : Nd := ys.map fun n => (n, look nd n)
theorem nms_turned (nd : Nd) (ys : List Str) : nms (turned nd ys) = ys := by
  unfold nms turned
  rw [List.map_map]
  exact List.map_id' ys
theorem mem_turned {nd : Nd} {ys : List Str} (un : (nms nd).Nodup) (p : ys.Perm (nms nd)) {e} (h : e ∈ turned nd ys) : e ∈ nd := by
  obtain ⟨n, hn, rfl⟩ := List.mem_map.mp h
  exact mem_look un (p.mem_iff.mp hn)
theorem turned_mem {nd : Nd} {ys : List Str} (un : (nms nd).Nodup) (p : ys.Perm (nms nd)) {e} (h : e ∈ nd) : e ∈ turned nd ys := by
  refine List.mem_map.mpr ⟨e.1, p.mem_iff.mpr (List.mem_map.mpr ⟨e, h, rfl⟩), ?_⟩
  rw [look_ent un h]
theorem Good.turned {nd : Nd} {ys : List Str} (G : Good nd) (p : ys.Perm (nms nd)) : Good (turned nd ys) := by
  have len : (Nt.turned nd ys).length = nd.length := by
    unfold Nt.turned
    rw [List.length_map, p.length_eq]
    exact List.length_map ..
  refine ⟨by rw [len]; exact G.one, by rw [len]; exact G.five, by rw [nms_turned]; exact p.nodup_iff.mpr G.nn, fun e h => G.ok e (mem_turned G.nn p h), fun e h => G.du e (mem_turned G.nn p h), fun e h x hx => ?_⟩
  rw [nms_turned]
  exact p.mem_iff.mpr (G.sub e (mem_turned G.nn p h) x hx)
theorem inV_str {x : Str} {l : List Str} (h : x ∈ l) : inV (.str x) (l.map V.str) = true := by
  unfold inV
  rw [List.any_map, List.any_eq_true]
  exact ⟨x, h, by simp [eqV]⟩
theorem flat_strL (l : List Str) : (l.map V.str).all flatV = true := by
  rw [List.all_map, List.all_eq_true]
  exact fun _ _ => rfl
theorem dc_it {J : It} {n : Nat} {G : Hp → Prop} {Y : Nat → Hp → V → Hp → Prop} (w : Walk J n G Y) {g : TG} {tt : TT} {tk tv : TE} {vs : List Nat} {σ : L2.St} {H1 : Hp} {D : Addr} {Qd : Hp → Prop} (Pv : Nat → Hp → Prop) (h0 : Pv 0 (upd H1 D (.dK []))) (hG : ∀ i H, i ≤ n → Pv i H → G H)
    (hs : ∀ i x H H', i < n → Pv i H → Y i H x H' → g x (wipe σ vs) H' fun σ2 H2 => wipe σ2 vs = wipe σ vs ∧ tt σ2 H2 fun b H3 =>
      if b = true then tk σ2 H3 fun y H4 => tv σ2 H4 fun z H5 => ∃ kvs k, y = kV k ∧ H5 D = some (.dK kvs) ∧ kvs.length < sizeLine ∧ Pv (i + 1) (upd H5 D (.dK (putK kvs k z))) else Pv (i + 1) H3) (hd : ∀ H, Pv n H → Qd H) :
    ∃ W : Nat → Nat → Hp → Prop, (∃ m, W 0 m (upd H1 D (.dK []))) ∧ ∀ i m H, W i m H →
      (J.stop i H ∧ Qd H) ∨ (J.go i H ∧ ∃ Nx : Hp → Prop, (∀ H', Nx H' → ∃ m', m' < m ∧ W (i + 1) m' H') ∧ ∀ x H', J.yld i H x H' → g x (wipe σ vs) H' fun σ2 H2 => wipe σ2 vs = wipe σ vs ∧ tt σ2 H2 fun b H3 =>
        if b = true then tk σ2 H3 fun y H4 => tv σ2 H4 fun z H5 => ∃ kvs k, y = kV k ∧ H5 D = some (.dK kvs) ∧ kvs.length < sizeLine ∧ Nx (upd H5 D (.dK (putK kvs k z))) else Nx H3) := by
  refine ⟨fun i m H => m + i = n ∧ Pv i H, ⟨n, rfl, h0⟩, fun i m H p => ?_⟩
  obtain ⟨e, p⟩ := p
  have q := hG i H (by omega) p
  by_cases c : i < n
  · exact .inr ⟨w.goes i H c q, Pv (i + 1), fun H' p' => ⟨n - (i + 1), by omega, by omega, p'⟩, fun x H' y => hs i x H H' c p (w.yields i H x H' c q y)⟩
  · obtain rfl : i = n := by omega
    exact .inl ⟨w.stops H q, hd H p⟩
theorem in_seq {X : Cx} {K : PySem.W.Frag} (e : X.K = K) : OpR X (compareOp .In) (rIn K false) := e ▸ op_in_seq
theorem nin_seq {X : Cx} {K : PySem.W.Frag} (e : X.K = K) : OpR X (compareOp .NotIn) (rIn K true) := e ▸ op_notIn_seq
/-- the needs of a name, as they should be -/
def spAre : Sp := fun vs H Q _ => ∃ (t a : Addr) (l ns : List Str), vs = [.ref t, .ref a] ∧ H t = some (.tup (l.map V.str)) ∧ H a = some (.lst (ns.map V.str)) ∧ l.length ≤ 5 ∧ l.Nodup ∧ (∀ x ∈ l, NmOk x) ∧ (∀ x ∈ l, x ∈ ns) ∧
  ∀ H', Same H H' → Q (.bl true) H'
section
variable {P : Program} {w : World} {K : PySem.W.Frag} {mg : Str → Option Value} {base : Heap}
theorem scAre : FnScope ["value", "names", "need"] ["value", "names"] (defScope sAre) := ⟨rfl, rfl, rfl, by decide +kernel, rfl, by decide +kernel, by decide +kernel⟩
theorem ok_are {f fN : Addr} {fd fdN : FuncData} (F : Fun K "are_needs" "are_needs" sAre f fd) (B : Blt mg) (GN : FnOk P w K mg base CX0 1 fN fdN ["value"] spIsName) (gN : mg "is_name" = some (.ref fN)) (kN : PySem.W.keepIn K (.ref fN) = true) (bN : Binds K fdN ["value"] []) :
    FnOk P w K mg base CX0 2 f fd ["value", "names"] spAre := by
  refine F.ok scAre (fun vs H Q E h => ?_) (fun cdv A outer s H vs Q E hr h => ?_)
  · obtain ⟨t, a, l, ns, rfl, _⟩ := h
    rfl
  · obtain ⟨t, a, l, ns, rfl, ht, ha, h5, hu, hn, hm, k⟩ := h
    have nd0 := scAre.nd
    refine ⟨_, pss_cons (ps_if (pt_not (pt_val (pe_callB call_isiT (by rfl) B.isi boot_isinstance (pa_cons (pv 0) (pa_cons (pe_tup (pa_cons (pe_bltn (v := .ty "list") (by rfl) B.list (by decide +kernel) rfl) (pa_cons (pe_bltn (v := .ty "tuple") (by rfl) B.tuple (by decide +kernel) rfl) pa_nil))) pa_nil))))) (pss_one (ps_ret pe_bl)) pss_nil)
      (pss_cons (ps_if (pt_not (pt_val (pe_callB (cr_all rfl) (by rfl) B.all (by decide +kernel) (pa_cons (pe_lc (own := [("need", 2)]) (g := gName 2) (tt := tYes) (by rfl) nd0 (pi_tup (pv 0)) (blkOk_by (own := [("need", 2)]) (N := ["value", "names", "need"]) (sc := defScope sAre) (by decide +kernel))
          (fun _ _ _ _ _ => pg_name (i := 2) nd0 rfl (Or.inl rfl)) (fun _ _ _ _ _ => pts_nil) (fun _ _ _ _ _ => pe_call GN hr (by rfl) gN kN bN .nil pass0 (pa_cons (pv 2) pa_nil))) pa_nil)))) (pss_one (ps_ret pe_bl)) pss_nil)
      (pss_one (ps_ret (pe_and (pe_callB (cr_all rfl) (by rfl) B.all (by decide +kernel) (pa_cons (pe_lc (own := [("need", 2)]) (g := gName 2) (tt := tYes) (by rfl) nd0 (pi_tup (pv 0)) (blkOk_by (own := [("need", 2)]) (N := ["value", "names", "need"]) (sc := defScope sAre) (by decide +kernel))
          (fun _ _ _ _ _ => pg_name (i := 2) nd0 rfl (Or.inl rfl)) (fun _ _ _ _ _ => pts_nil) (fun _ _ _ _ _ => pe_cmpR (in_seq (K := K) rfl) (pv 2) (pv 1) (by rfl))) pa_nil))
        (pe_one (pe_cmpR op_eq (pe_lenSetU (by rfl) (by rfl) B.len (by rfl) B.set (pv 0)) (pe_callB call_len_seq (by rfl) B.len PySem.boot_len (pa_cons (pv 0) pa_nil)) (nomark _))))))), ?_⟩
    refine ⟨_, rfl, (by show 2 ≤ sizeLine; decide), fun tp htp => ⟨_, _, _, _, [.type "list", .type "tuple"], true, rfl, upd_same, .cons (.ty _) (.cons (.ty _) .nil), .base (.tup (by rw [upd_ne (ne_of_none ht htp)]; exact ht)), kitAny_cons (b := false) (kit_ty (by decide +kernel)) (fun _ => kitAny_cons (b := true) (kit_ty (by decide +kernel)) (fun z => by cases z) (fun _ => rfl)) (fun z => by cases z), _, rfl, ?_⟩⟩
    refine iteF ?_
    have s1 : Same H (upd H tp (.tup [.ty "list", .ty "tuple"])) := same_new htp
    generalize upd H tp (.tup [V.ty "list", V.ty "tuple"]) = Ha at s1
    refine ⟨_, rfl, t, rfl, ⟨_, SqT.of (s1 _ _ ht)⟩, fun D hD => lc_it walk_tup (fun i H' => H' D = some (.lst (List.replicate i (V.bl true))) ∧ Same Ha H')
      ⟨upd_same, same_new hD⟩ (fun i H' _ p => SqT.of (p.2 _ _ (s1 _ _ ht))) ?_ ?_⟩
    · rintro i x H1 H2 hi ⟨p1, p2⟩ ⟨rfl, hx⟩
      rw [List.length_map] at hi
      obtain ⟨z, hz, rfl⟩ : ∃ z, l[i]? = some z ∧ V.str z = x := by simpa using hx
      refine ⟨rfl, _, rfl, z, rfl, hn z (List.mem_of_getElem? hz), _, p1, ?_, upd_same.trans (by rw [List.replicate_succ'] <;> rfl), Same.mut p2 hD⟩
      rw [List.length_replicate]
      exact small1000 (by omega)
    rintro Hb ⟨p1, p2⟩
    refine ⟨D, List.replicate l.length true, rfl, SqL.of ?_, _, rfl, ?_⟩
    · rw [p1, List.map_replicate, List.length_map]
    have e0 : (List.replicate l.length true).all id = true := by simp
    rw [e0]
    refine iteF ?_
    have s2 : Same H Hb := s1.trans p2
    refine ⟨_, rfl, t, rfl, ⟨_, SqT.of (s2 _ _ ht)⟩, fun D2 hD2 => lc_it walk_tup (fun i H' => H' D2 = some (.lst (List.replicate i (V.bl true))) ∧ Same Hb H')
      ⟨upd_same, same_new hD2⟩ (fun i H' _ p => SqT.of (p.2 _ _ (s2 _ _ ht))) ?_ ?_⟩
    · rintro i x H1 H2 hi ⟨q1, q2⟩ ⟨rfl, hx⟩
      rw [List.length_map] at hi
      obtain ⟨z, hz, rfl⟩ : ∃ z, l[i]? = some z ∧ V.str z = x := by simpa using hx
      refine ⟨rfl, _, rfl, _, rfl, a, _, rfl, .inl (SqL.of (q2 _ _ (s2 _ _ ha))), rfl, flat_strL ns, _, q1, ?_, upd_same.trans ?_, Same.mut q2 hD2⟩
      · rw [List.length_replicate]
        exact small1000 (by omega)
      · rw [List.replicate_succ']
        show some (HO.lst (List.replicate i (V.bl true) ++ [V.bl (if false = true then !inV (V.str z) (ns.map V.str) else inV (V.str z) (ns.map V.str))])) = _
        rw [if_neg Bool.false_ne_true, inV_str (hm z (List.mem_of_getElem? hz))]
    rintro Hc ⟨q1, q2⟩
    have s3 : Same H Hc := s2.trans q2
    refine ⟨D2, List.replicate l.length true, rfl, SqL.of ?_, true, by rw [e0], iteT ?_⟩
    · rw [q1, List.map_replicate, List.length_map]
    refine ⟨_, rfl, t, l, rfl, SqT.of (s3 _ _ ht), by omega, hu, _, rfl, t, _, rfl, .inr (SqT.of (s3 _ _ ht)), rfl, ?_⟩
    rw [List.length_map, decide_eq_true rfl]
    exact k _ s3
end
end Nt
set_option Elab.async false
set_option linter.all false
set_option maxRecDepth 100000
set_option maxHeartbeats 4000000
namespace Nt
open PySem PySem.Spec PyProof.Rows L2
theorem putK_app {nd : Nd} {n : Str} {v : V} (h : n ∉ nms nd) : putK (ndK nd) (Sum.inr n) v = ndK nd ++ [(Sum.inr n, v)] := by
  refine putK_new _ ?_
  unfold valV
  rw [Option.map_eq_none_iff, List.find?_eq_none]
  intro kv hk
  obtain ⟨e, he, rfl⟩ := List.mem_map.mp hk
  have ne : ¬ e.1 = n := fun z => h (z ▸ List.mem_map.mpr ⟨e, he, rfl⟩)
  simp [ne]
theorem len_sub {α : Type} [DecidableEq α] : ∀ {l m : List α}, l.Nodup → (∀ x ∈ l, x ∈ m) → l.length ≤ m.length
  | [], _, _, _ => Nat.zero_le _
  | x :: l, m, un, h => by
    have un' := List.nodup_cons.mp un
    have hx : x ∈ m := h x List.mem_cons_self
    have ih := len_sub (m := m.erase x) un'.2 fun y hy => (List.mem_erase_of_ne fun (e : y = x) => un'.1 (e ▸ hy)).mpr (h y (List.mem_cons_of_mem _ hy))
    have e := List.length_erase_of_mem hx
    have pos := List.length_pos_of_mem hx
    rw [List.length_cons]
    omega
theorem c_tupT {X : Cx} {K : PySem.W.Frag} (e : X.K = K) : CallR X (.type "tuple") (fun xs H Q => ∃ a ys, xs = [.ref a] ∧ SqT K H a ys ∧ Q (.ref a) H) := e ▸ call_tupleT
theorem c_tupOf {X : Cx} {K : PySem.W.Frag} (e : X.K = K) : CallR X (.type "tuple") (fun xs H Q => ∃ p ys, xs = [.ref p] ∧ ((SqL K H p ys ∧ ∀ l, H l = none → Q (.ref l) (upd H l (.tup ys))) ∨ (SqT K H p ys ∧ Q (.ref p) H))) := e ▸ call_tuple_of
theorem c_len {X : Cx} {K : PySem.W.Frag} (e : X.K = K) : CallR X (.builtin "len") (fun xs H Q => ∃ p ys, xs = [.ref p] ∧ (SqL K H p ys ∨ SqT K H p ys) ∧ Q (.int ys.length) H) := e ▸ call_len_seq
theorem c_ixL {X : Cx} {K : PySem.W.Frag} (e : X.K = K) : IxR X (rIxL K) := e ▸ ix_list
theorem c_all {X : Cx} {K : PySem.W.Frag} (calm : X.calm = true) (e : X.K = K) : CallR X (.builtin "all") (rAll K) := e ▸ cr_all calm
/-- kept_needs: the needs anew, by names ascending -/
def spKept : Sp := fun vs H Q _ => ∃ (d : Addr) (nd : Nd), vs = [.ref d] ∧ NdAt H d nd ∧ Good nd ∧
  ∀ (d' : Addr) (nd' : Nd) (H' : Hp), H d' = none → NdAt H' d' nd' → Good nd' → (∀ e, e ∈ nd' ↔ e ∈ nd) → sortedS (nms nd') = true → Same H H' → Q (.ref d') H'
section
variable {P : Program} {w : World} {K : PySem.W.Frag} {mg : Str → Option Value} {base : Heap}
theorem scKept : FnScope ["needs", "names", "name"] ["needs"] (defScope sKept) := ⟨rfl, rfl, rfl, by decide +kernel, rfl, by decide +kernel, by decide +kernel⟩
theorem ok_kept {f fT fA : Addr} {fd fdT fdA : FuncData} (F : Fun K "kept_needs" "kept_needs" sKept f fd) (B : Blt mg) (GT : FnOk P w K mg base CX0 2 fT fdT ["needs"] spIsTable) (gT : mg "is_table" = some (.ref fT)) (kT : PySem.W.keepIn K (.ref fT) = true) (bT : Binds K fdT ["needs"] [])
    (GA : FnOk P w K mg base CX0 2 fA fdA ["value", "names"] spAre) (gA : mg "are_needs" = some (.ref fA)) (kA : PySem.W.keepIn K (.ref fA) = true) (bA : Binds K fdA ["value", "names"] []) : FnOk P w K mg base CX0 3 f fd ["needs"] spKept := by
  refine F.ok scKept (fun vs H Q E h => ?_) (fun cdv A outer s H vs Q E hr h => ?_)
  · obtain ⟨d, nd, rfl, _⟩ := h
    rfl
  · obtain ⟨d, nd, rfl, D, G, k⟩ := h
    have nd0 := scKept.nd
    have hu := hu_of hr
    refine ⟨_, pss_cons (ps_if (pt_not (pt_val (pe_call GT hr (by rfl) gT kT bT .nil pass0 (pa_cons (pv 0) pa_nil)))) (pss_one ps_never) pss_nil)
      (pss_cons (ps_set (i := 1) nd0 rfl (Or.inl rfl) (pe_callBK (cr_sortBy rfl) (by rfl) B.sorted (by decide +kernel) (pa_cons (pv 0) pa_nil) (pk_cons (pe_bltn (v := .ty "str") (by rfl) B.str (by decide +kernel) rfl) pk_nil)))
      (pss_cons (ps_for PassesOwn.never rfl (pi_list (pv 1)) (pg_name (i := 2) nd0 rfl (Or.inl rfl))
        (pss_one (ps_if (pt_not (pt_val (pe_call GA hr (by rfl) gA kA bA .nil pass0 (pa_cons (pe_dget hu (pv 0) (pv 2) (fun _ _ => rfl)) (pa_cons (pv 1) pa_nil))))) (pss_one ps_never) pss_nil)))
      (pss_one (ps_ret (pe_dc (own := [("name", 2)]) (g := gName 2) (tt := tYes) (by rfl) nd0 (pi_list (pv 1)) (blkOk_by (own := [("name", 2)]) (N := ["needs", "names", "name"]) (sc := defScope sKept) (by decide +kernel))
        (fun _ _ _ _ _ => pg_name (i := 2) nd0 rfl (Or.inl rfl)) (fun _ _ _ _ _ => pts_nil) (fun _ _ _ _ _ => pv 2)
        (fun _ _ _ _ _ => pe_callTy (c_tupT (K := K) rfl) (by rfl) B.tuple (by decide +kernel) (pa_cons (pe_dget hu (pv 0) (pv 2) (fun _ _ => rfl)) pa_nil))))))), ?_⟩
    refine ⟨_, rfl, d, nd, rfl, D, G, fun Ha s1 => ⟨_, rfl, iteF ?_⟩⟩
    have D1 := D.same s1
    have keys : (ndK nd).map (·.1) = (nms nd).map Sum.inr := by
      unfold ndK nms
      rw [List.map_map, List.map_map] <;> rfl
    refine ⟨_, rfl, d, ndK nd, nms nd, rfl, rfl, .inl D1.1, keys, ?_, fun ys p perm sorted new => ?_⟩
    · have e : (nms nd).length = nd.length := List.length_map ..
      have := G.five
      omega
    have s2 : Same H (upd Ha p (.lst (ys.map V.str))) := s1.trans (same_new new)
    have hp : upd Ha p (.lst (ys.map V.str)) p = some (.lst (ys.map V.str)) := upd_same
    generalize upd Ha p (.lst (ys.map V.str)) = Hb at s2 hp
    refine ⟨_, rfl, p, rfl, ⟨_, SqL.of hp⟩, for_it walk_list (fun i σ H' => Same Hb H' ∧ ∃ v, σ = [some (.ref d), some (.ref p), v]) ⟨Same.refl _, none, rfl⟩ (fun i σ H' _ q => SqL.of (q.1 _ _ hp)) ?_ ?_⟩
    · rintro i x σ H1 H2 hi ⟨q1, v, rfl⟩ ⟨rfl, hx⟩
      obtain ⟨n, hn, rfl⟩ : ∃ z, ys[i]? = some z ∧ V.str z = x := by simpa using hx
      have inn : n ∈ nms nd := perm.mem_iff.mp (List.mem_of_getElem? hn)
      have ent := mem_look G.nn inn
      have s3 : Same H H2 := s2.trans q1
      have D3 := D.same s3
      refine ⟨_, rfl, _, rfl, d, _, rfl, (val_name G.nn inn) ▸ DGet.k (k := Sum.inr n) D3.1, _, rfl, _, p, (look nd n).2, ys, rfl, D3.2 _ ent, q1 _ _ hp, ?_, G.du _ ent, fun y hy => ?_, fun y hy => perm.mem_iff.mpr (G.sub _ ent y hy), fun H' s4 => ⟨_, rfl, iteF ⟨Same.trans q1 s4, _, rfl⟩⟩⟩
      · have sub : ∀ y ∈ (look nd n).2, y ∈ nms nd := G.sub _ ent
        have few : (look nd n).2.length ≤ (nms nd).length := len_sub (G.du _ ent) sub
        have e : (nms nd).length = nd.length := List.length_map ..
        have := G.five
        omega
      · obtain ⟨e, he, rfl⟩ := mem_nms (G.sub _ ent y hy)
        exact G.ok e he
    rintro σ Hc ⟨q1, v, rfl⟩
    have s3 : Same H Hc := s2.trans q1
    refine ⟨_, rfl, p, rfl, ⟨_, SqL.of (q1 _ _ hp)⟩, fun N hN => dc_it walk_list (fun i H' => H' N = some (.dK (ndK (turned nd (ys.take i)))) ∧ Same Hc H') ⟨upd_same, same_new hN⟩ (fun i H' _ q => SqL.of (q.2 _ _ (q1 _ _ hp))) ?_ ?_⟩
    · rintro i x H1 H2 hi ⟨r1, r2⟩ ⟨rfl, hx⟩
      obtain ⟨n, hn, rfl⟩ : ∃ z, ys[i]? = some z ∧ V.str z = x := by simpa using hx
      have inn : n ∈ nms nd := perm.mem_iff.mp (List.mem_of_getElem? hn)
      have ent := mem_look G.nn inn
      have s4 : Same H H2 := s3.trans r2
      have D4 := D.same s4
      refine ⟨rfl, _, rfl, _, rfl, _, rfl, d, _, rfl, (val_name G.nn inn) ▸ DGet.k (k := Sum.inr n) D4.1, _, _, rfl, SqT.of (D4.2 _ ent), _, Sum.inr n, rfl, r1, ?_, ?_, Same.mut r2 hN⟩
      · rw [ndK_len]
        have e : (turned nd (ys.take i)).length ≤ ys.length := by
          unfold turned
          rw [List.length_map, List.length_take]
          omega
        have e2 : ys.length = nd.length := by rw [perm.length_eq]; exact List.length_map ..
        have := G.five
        exact small1000 (by omega)
      · have un : n ∉ nms (turned nd (ys.take i)) := by
          rw [nms_turned]
          exact unlike_take (perm.nodup_iff.mpr G.nn) hn
        rw [upd_same, putK_app un]
        have et : ys.take (i + 1) = ys.take i ++ [n] := by rw [List.take_add_one, hn] <;> rfl
        rw [et]
        unfold turned ndK
        rw [List.map_append, List.map_append] <;> rfl
    rintro Hd ⟨r1, r2⟩
    rw [List.length_map, List.take_length] at r1
    have s4 : Same H Hd := s3.trans r2
    refine k N (turned nd ys) Hd (s3.free hN) ⟨r1, fun e he => (D.same s4).2 e (mem_turned G.nn perm he)⟩ (G.turned perm) (fun e => ⟨mem_turned G.nn perm, turned_mem G.nn perm⟩) ?_ s4
    rw [nms_turned]
    exact sorted
end
end Nt
set_option Elab.async false
set_option linter.all false
set_option maxRecDepth 100000
set_option maxHeartbeats 4000000
namespace Nt
open PySem PySem.Spec PyProof.Rows L2
abbrev sPairs : Stmt := inClass (top 12) 10
abbrev sLe : Stmt := inClass (top 12) 6
theorem p_tup {X : Cx} {K : PySem.W.Frag} {tg ex : Expr} {te : TE} (e : X.K = K) (he : PE X ex te) : PI X tg ex (iTup K te) := e ▸ pi_tup he
theorem p_list {X : Cx} {K : PySem.W.Frag} {tg ex : Expr} {te : TE} (e : X.K = K) (he : PE X ex te) : PI X tg ex (iList K te) := e ▸ pi_list he
theorem p_fld {X : Cx} {K : PySem.W.Frag} {o : Expr} {f : Str} {pos : Pos} {te : TE} (e : X.K = K) (he : PE X o te) (hb : attributeBase o f X.env (eval o X.env) = eval o X.env) : PE X (.Attribute o f pos) (tFld K te f) := e ▸ pe_fld he hb
/-- a walk's turns, whatever a turn does -/
theorem run_it {J : It} {n : Nat} {G : Hp → Prop} {Y : Nat → Hp → V → Hp → Prop} (w : Walk J n G Y) {B : V → Hp → (Hp → Prop) → Prop} {H0 : Hp} {Qd : Hp → Prop} (Pv : Nat → Hp → Prop) (h0 : Pv 0 H0) (hG : ∀ i H, i ≤ n → Pv i H → G H)
    (hs : ∀ i x H H', i < n → Pv i H → Y i H x H' → B x H' (Pv (i + 1))) (hd : ∀ H, Pv n H → Qd H) :
    ∃ W : Nat → Nat → Hp → Prop, (∃ m, W 0 m H0) ∧ ∀ i m H, W i m H → (J.stop i H ∧ Qd H) ∨ (J.go i H ∧ ∃ Nx : Hp → Prop, (∀ H', Nx H' → ∃ m', m' < m ∧ W (i + 1) m' H') ∧ ∀ x H', J.yld i H x H' → B x H' Nx) := by
  refine ⟨fun i m H => m + i = n ∧ Pv i H, ⟨n, rfl, h0⟩, fun i m H p => ?_⟩
  obtain ⟨e, p⟩ := p
  have q := hG i H (by omega) p
  by_cases c : i < n
  · exact .inr ⟨w.goes i H c q, Pv (i + 1), fun H' p' => ⟨n - (i + 1), by omega, by omega, p'⟩, fun x H' y => hs i x H H' c p (w.yields i H x H' c q y)⟩
  · obtain rfl : i = n := by omega
    exact .inl ⟨w.stops H q, hd H p⟩
/-! ### a net -/
def fl (d : Addr) : List (Str × V) := [("_needs", .ref d)]
def NetAt (C : Addr) (H : Hp) (x : Addr) (nd : Nd) : Prop := ∃ dx d, H x = some (.ins C dx (fl d)) ∧ NdAt H d nd
theorem NetAt.same {C : Addr} {H H' : Hp} {x : Addr} {nd : Nd} (s : Same H H') (h : NetAt C H x nd) : NetAt C H' x nd := by
  obtain ⟨dx, d, h1, h2⟩ := h
  exact ⟨dx, d, s _ _ h1, h2.same s⟩
theorem fl_get (d : Addr) : (fl d).lookup ("_needs" : Str) = some (.ref d) := by
  unfold fl
  rw [List.lookup_cons, beq_self_eq_true]
theorem fl_no (d : Addr) {m : Str} (h : (m == ("_needs" : Str)) = false) : (fl d).lookup m = none := by
  unfold fl
  rw [List.lookup_cons, h] <;> rfl
def pairsN (nd : Nd) : List (Str × Str) := nd.flatMap fun e => e.2.2.map fun x => (e.1, x)
theorem pairsN_snoc (nd : Nd) (e : Str × Addr × List Str) : pairsN (nd ++ [e]) = pairsN nd ++ e.2.2.map fun x => (e.1, x) := by
  unfold pairsN
  rw [List.flatMap_append] <;> simp
theorem pairsN_len : ∀ {nd : Nd}, (∀ e ∈ nd, e.2.2.length ≤ 5) → (pairsN nd).length ≤ 5 * nd.length
  | [], _ => Nat.zero_le _
  | e :: nd, h => by
    have ih := pairsN_len (nd := nd) fun e' he => h e' (List.mem_cons_of_mem _ he)
    have h1 := h e List.mem_cons_self
    have e2 : (pairsN (e :: nd)).length = e.2.2.length + (pairsN nd).length := by
      unfold pairsN
      rw [List.flatMap_cons, List.length_append, List.length_map]
    rw [e2, List.length_cons]
    omega
theorem Good.few {nd : Nd} (G : Good nd) : ∀ e ∈ nd, e.2.2.length ≤ 5 := fun e he => by
  have few := len_sub (G.du e he) (G.sub e he)
  have e1 : (nms nd).length = nd.length := List.length_map ..
  have := G.five
  omega
/-- a list of pairs stands at l -/
def PrsAt (H : Hp) (l : Addr) (ps : List (Str × Str)) : Prop := ∃ bs : List (Addr × Str × Str), H l = some (.lst (bs.map fun b => V.ref b.1)) ∧ bs.map (·.2) = ps ∧ ∀ b ∈ bs, H b.1 = some (.tup [.str b.2.1, .str b.2.2])
/-- what the top has written of the class -/
structure NetC (K : PySem.W.Frag) (mg : Str → Option Value) (C : Addr) : Prop where
  cl : Cls K C
  nA : NoAttr K C "_needs"
  ic : C8.InsC K C
  mg : mg "Net" = some (.ref C)
def spInit (C : Addr) : Sp := fun vs H Q _ => ∃ (x dx d : Addr) (nd : Nd), vs = [.ref x, .ref d] ∧ H x = some (.ins C dx []) ∧ NdAt H d nd ∧ Good nd ∧
  ∀ (nd' : Nd) (H' : Hp), NetAt C H' x nd' → Good nd' → (∀ e, e ∈ nd' ↔ (e ∈ nd)) → sortedS (nms nd') = true → But x H H' → Q .non H'
def spNames (C : Addr) : Sp := fun vs H Q _ => ∃ (x : Addr) (nd : Nd), vs = [.ref x] ∧ NetAt C H x nd ∧ ∀ l H', H l = none → H' l = some (.lst ((nms nd).map V.str)) → Same H H' → Q (.ref l) H'
def spPairs (C : Addr) : Sp := fun vs H Q _ => ∃ (x : Addr) (nd : Nd), vs = [.ref x] ∧ NetAt C H x nd ∧ Good nd ∧ ∀ l H', H l = none → PrsAt H' l (pairsN nd) → Same H H' → Q (.ref l) H'
section
variable {P : Program} {w : World} {K : PySem.W.Frag} {mg : Str → Option Value} {base : Heap}
theorem scInit : FnScope ["self", "needs"] ["self", "needs"] (defScope sInit) := ⟨rfl, rfl, rfl, by decide +kernel, rfl, by decide +kernel, by decide +kernel⟩
theorem ok_init {C f fK : Addr} {fd fdK : FuncData} (F : Fun K "__init__" "Net.__init__" sInit f fd) (T : NetC K mg C) (GK : FnOk P w K mg base CX0 3 fK fdK ["needs"] spKept) (gK : mg "kept_needs" = some (.ref fK)) (kK : PySem.W.keepIn K (.ref fK) = true) (bK : Binds K fdK ["needs"] []) :
    FnOk P w K mg base CX0 4 f fd ["self", "needs"] (spInit C) := by
  refine F.ok scInit (fun vs H Q E h => ?_) (fun cdv A outer s H vs Q E hr h => ?_)
  · obtain ⟨x, dx, d, nd, rfl, _⟩ := h
    rfl
  · obtain ⟨x, dx, d, nd, rfl, hx, D, G, k⟩ := h
    refine ⟨_, pss_one (ps_fld (pv 0) (pe_call GK hr (by rfl) gK kK bK .nil pass0 (pa_cons (pv 1) pa_nil)) rfl), ?_⟩
    refine ⟨_, rfl, d, nd, rfl, D, G, fun d' nd' H' new D' G' mem sorted s1 => ?_⟩
    refine ⟨_, rfl, x, C, dx, [], rfl, s1 _ _ hx, T.cl, T.nA, (by show 0 < 1000; decide), ?_⟩
    have ne : d' ≠ x := fun z => by
      rw [z, hx] at new
      cases new
    have keep : ∀ q o, H' q = some o → q ≠ x → upd H' x (.ins C dx (fl d')) q = some o := fun q o h n => by rw [upd_ne n]; exact h
    refine k nd' _ ⟨dx, d', upd_same, keep _ _ D'.1 ne, fun e he => keep _ _ (D'.2 e he) fun z => ?_⟩ G' mem sorted fun q o h n => keep q o (s1 q o h) n
    have q := D'.2 e he
    rw [z, s1 _ _ hx] at q
    cases q
theorem scNames : FnScope ["self"] ["self"] (defScope sNames) := ⟨rfl, rfl, rfl, by decide +kernel, rfl, by decide +kernel, by decide +kernel⟩
theorem ndK_keys (nd : Nd) : (ndK nd).map (fun kv => kV kv.1) = (nms nd).map V.str := by
  unfold ndK nms
  rw [List.map_map, List.map_map] <;> rfl
theorem ok_names {C f : Addr} {fd : FuncData} (F : Fun K "names" "Net.names" sNames f fd) (B : Blt mg) (T : NetC K mg C) : FnOk P w K mg base CX0 1 f fd ["self"] (spNames C) := by
  refine F.ok scNames (fun vs H Q E h => ?_) (fun cdv A outer s H vs Q E hr h => ?_)
  · obtain ⟨x, nd, rfl, _⟩ := h
    rfl
  · obtain ⟨x, nd, rfl, ⟨dx, d, hx, D⟩, k⟩ := h
    refine ⟨_, pss_one (ps_ret (pe_callTy (call_list_dK (by rfl)) (by rfl) B.list (by decide +kernel) (pa_cons (pe_fld (pv 0) rfl) pa_nil))), ?_⟩
    refine ⟨_, rfl, x, C, dx, _, _, rfl, hx, T.cl, T.nA, fl_get d, d, ndK nd, rfl, D.1, fun l hl => ?_⟩
    rw [ndK_keys]
    exact k l _ hl upd_same (same_new hl)
theorem scPairs : FnScope ["self", "name", "need"] ["self"] (defScope sPairs) := ⟨rfl, rfl, rfl, by decide +kernel, rfl, by decide +kernel, by decide +kernel⟩
theorem ok_pairs {C f : Addr} {fd : FuncData} (F : Fun K "pairs" "Net.pairs" sPairs f fd) (T : NetC K mg C) : FnOk P w K mg base CX0 1 f fd ["self"] (spPairs C) := by
  refine F.ok scPairs (fun vs H Q E h => ?_) (fun cdv A outer s H vs Q E hr h => ?_)
  · obtain ⟨x, nd, rfl, _⟩ := h
    rfl
  · obtain ⟨x, nd, rfl, ⟨dx, d, hx, D⟩, G, k⟩ := h
    have nd0 := scPairs.nd
    have hu := hu_of hr
    refine ⟨_, pss_one (ps_ret (pe_lock (pe_lc2 (own := [("name", 1), ("need", 2)]) (vs1 := [2]) (g := gName 1) (tt := tYes) (g1 := gName 2) (tt1 := tYes) (by rfl) nd0 (pi_keys (pe_fld (pv 0) rfl)) (blkOk_by (own := [("name", 1), ("need", 2)]) (N := ["self", "name", "need"]) (sc := defScope sPairs) (by decide +kernel)) (by decide)
      (fun _ _ _ _ _ => pg_name (i := 1) nd0 rfl (Or.inl rfl)) (fun _ _ _ _ _ => pts_nil) (fun _ _ _ _ _ => p_tup (K := K) rfl (pe_dget hu (p_fld (K := K) rfl (pv 0) rfl) (pv 1) (fun _ _ => rfl)))
      (fun _ _ _ _ _ => pg_name (i := 2) nd0 rfl (Or.inl rfl)) (fun _ _ _ _ _ => pts_nil) (fun _ _ _ _ _ => pe_tup (pa_cons (pv 1) (pa_cons (pv 2) pa_nil)))))), ?_⟩
    refine ⟨d, _, D.1, mut_dK, fun od => ⟨_, rfl, x, C, dx, _, _, rfl, (upd_ne (ne_of hx D.1 (by intro z; cases z))).trans hx, T.cl, T.nA, fl_get d, d, od, rfl, .inl ⟨ndK nd, upd_same, fun L hL => ?_⟩⟩⟩
    have keep : Same (upd H d (.frz od (.dK (ndK nd)))) (upd (upd H d (.frz od (.dK (ndK nd)))) L (.lst [])) := same_new hL
    have hx0 : upd H d (.frz od (.dK (ndK nd))) x = some (.ins C dx (fl d)) := (upd_ne (ne_of hx D.1 (by intro z; cases z))).trans hx
    have ht0 : Tups (upd H d (.frz od (.dK (ndK nd)))) nd := fun e he => by
      rw [upd_ne (ne_of (D.2 e he) D.1 (by intro z; cases z))]
      exact D.2 e he
    have hd0 : upd H d (.frz od (.dK (ndK nd))) d = some (.frz od (.dK (ndK nd))) := upd_same
    have back : ∀ {H'}, Same (upd H d (.frz od (.dK (ndK nd)))) H' → Same H (upd H' d (.dK (ndK nd))) := fun s => same_lock D.1 s
    have free0 : ∀ q, upd H d (.frz od (.dK (ndK nd))) q = none → H q = none := fun q h => by
      have ne : q ≠ d := fun z => by
        rw [z, upd_same] at h
        cases h
      rw [upd_ne ne] at h
      exact h
    generalize upd H d (.frz od (.dK (ndK nd))) = H0 at hL keep hx0 ht0 hd0 back free0
    refine run_it walk_keys (fun i H' => PrsAt H' L (pairsN (nd.take i)) ∧ Same H0 H') ⟨⟨[], upd_same, rfl, fun _ h => by cases h⟩, keep⟩ (fun i H' _ q => q.2 _ _ hd0) ?_ ?_
    · rintro i y H1 H2 hi ⟨p1, p2⟩ ⟨rfl, k0, v0, hk, rfl⟩
      obtain ⟨e, he, rfl, rfl⟩ := ndK_get hk
      have mem := List.mem_of_getElem? he
      refine ⟨rfl, _, rfl, x, C, dx, _, _, rfl, p2 _ _ hx0, T.cl, T.nA, fl_get d, _, rfl, d, _, rfl, (val_ent G.nn mem) ▸ .inl ⟨_, Sum.inr e.1, .inr ⟨od, p2 _ _ hd0⟩, rfl, rfl⟩, e.2.1, rfl, ⟨_, SqT.of (p2 _ _ (ht0 e mem))⟩, ?_⟩
      refine run_it walk_tup (fun j H' => PrsAt H' L (pairsN (nd.take i) ++ (e.2.2.take j).map fun x => (e.1, x)) ∧ Same H0 H') ⟨by simpa using p1, p2⟩ (fun j H' _ q => SqT.of (q.2 _ _ (ht0 e mem))) ?_ ?_
      · rintro j z H3 H4 hj ⟨⟨bs, b1, b2, b3⟩, q2⟩ ⟨rfl, hz⟩
        obtain ⟨n, hn, rfl⟩ : ∃ z', e.2.2[j]? = some z' ∧ V.str z' = z := by simpa using hz
        refine ⟨rfl, _, rfl, _, rfl, (by show 2 ≤ sizeLine; decide), fun t ht => ⟨_, (upd_ne (ne_of_none b1 ht)).trans b1, ?_, ⟨bs ++ [(t, e.1, n)], ?_, ?_, ?_⟩, Same.mut (q2.trans (same_new ht)) hL⟩⟩
        · have len : bs.length = (pairsN (nd.take i)).length + j := by
            have h1 := congrArg List.length b2
            rw [List.length_map, List.length_append, List.length_map, List.length_take] at h1
            have h2 : j < e.2.2.length := (List.getElem?_eq_some_iff.mp hn).1
            omega
          have h3 := pairsN_len (nd := nd.take i) fun e' he' => G.few e' (List.mem_of_mem_take he')
          rw [List.length_take] at h3
          have h4 := G.few e mem
          have h5 := G.five
          have h2 : j < e.2.2.length := (List.getElem?_eq_some_iff.mp hn).1
          rw [List.length_map]
          exact small1000 (by omega)
        · rw [upd_same, List.map_append] <;> rfl
        · have et : e.2.2.take (j + 1) = e.2.2.take j ++ [n] := by rw [List.take_add_one, hn] <;> rfl
          rw [List.map_append, b2, et, List.map_append, List.append_assoc] <;> rfl
        · intro b hb
          have nL : ∀ {q : Addr} {o : HO}, H4 q = some o → (∀ xs, o ≠ .lst xs) → q ≠ L := fun h1 h2 z => by
            rw [z, b1] at h1
            exact h2 _ (Option.some.inj h1).symm
          have tL : t ≠ L := fun z => by
            rw [z, b1] at ht
            cases ht
          rcases List.mem_append.mp hb with hb | hb
          · have hb3 := b3 b hb
            rw [upd_ne (nL hb3 (fun xs z => by cases z)), upd_ne (ne_of_none hb3 ht)]
            exact hb3
          · have e1 := List.mem_singleton.mp hb
            subst e1
            exact (upd_ne tL).trans upd_same
      · rintro H3 ⟨q1, q2⟩
        rw [List.length_map, List.take_length] at q1
        have et : nd.take (i + 1) = nd.take i ++ [e] := by rw [List.take_add_one, he] <;> rfl
        refine ⟨?_, q2⟩
        rw [et, pairsN_snoc]
        exact q1
    · rintro H1 ⟨p1, p2⟩
      rw [ndK_len, List.take_length] at p1
      have at0 := p2 _ _ hd0
      have Ld : L ≠ d := fun z => by
        rw [z, hd0] at hL
        cases hL
      obtain ⟨bs, b1, b2, b3⟩ := p1
      refine ⟨at0, k L _ ?_ ⟨bs, (upd_ne Ld).trans b1, b2, fun b hb => ?_⟩ (back p2)⟩
      · exact free0 L hL
      · have hb3 := b3 b hb
        rw [upd_ne fun z => ?_]
        · exact hb3
        · rw [z, at0] at hb3
          cases hb3
end
end Nt
set_option Elab.async false
set_option linter.all false
set_option maxRecDepth 100000
set_option maxHeartbeats 4000000
namespace Nt
open PySem PySem.Spec PyProof.Rows L2
/-! ### rows of texts, ascending -/
theorem rising_le : ∀ {l : List Str} {p : Str}, risingS p l = true → (∀ x ∈ l, p.cps.toList ≤ x.cps.toList) ∧ l.Pairwise (fun a b => a.cps.toList ≤ b.cps.toList)
  | [], _, _ => ⟨(fun _ h => nomatch h), List.Pairwise.nil⟩
  | y :: l, p, h => by
    have h' : (!ltCps y.cps.toList p.cps.toList && risingS y l) = true := h
    rw [Bool.and_eq_true] at h'
    obtain ⟨h1, h2⟩ := h'
    obtain ⟨i1, i2⟩ := rising_le h2
    have le : p.cps.toList ≤ y.cps.toList := by
      rw [ltCps_eq] at h1
      simpa using h1
    refine ⟨fun x hx => ?_, List.pairwise_cons.mpr ⟨i1, i2⟩⟩
    rcases List.mem_cons.mp hx with e | hx
    · rw [e]
      exact le
    · exact List.le_trans le (i1 x hx)
theorem sorted_le {l : List Str} (h : sortedS l = true) : l.Pairwise (fun a b => a.cps.toList ≤ b.cps.toList) := by
  cases l with
  | nil => exact .nil
  | cons x r =>
    obtain ⟨h1, h2⟩ := rising_le (show risingS x r = true from h)
    exact List.pairwise_cons.mpr ⟨h1, h2⟩
theorem str_le {a b : Str} (h1 : a.cps.toList ≤ b.cps.toList) (h2 : b.cps.toList ≤ a.cps.toList) : a = b := by
  have e : a.cps.toList = b.cps.toList := List.le_antisymm h1 h2
  obtain ⟨⟨x⟩⟩ := a
  obtain ⟨⟨y⟩⟩ := b
  have e' : x = y := e
  subst e'
  rfl
theorem sorted_same {l m : List Str} (hl : sortedS l = true) (hm : sortedS m = true) (ul : l.Nodup) (um : m.Nodup) (h : ∀ x, x ∈ l ↔ x ∈ m) : l = m :=
  List.Perm.eq_of_pairwise (fun a b _ _ => str_le) (sorted_le hl) (sorted_le hm) ((List.perm_ext_iff_of_nodup ul um).mpr h)
/-! ### rows as data -/
theorem eqv_strs : ∀ (a b : List Str), PyData.eqvAll (a.map .str) (b.map .str) = decide (a = b)
  | [], [] => rfl
  | [], _ :: _ => rfl
  | _ :: _, [] => rfl
  | x :: a, y :: b => by
    show (x == y && PyData.eqvAll (a.map .str) (b.map .str)) = _
    rw [eqv_strs a b]
    by_cases h : x = y
    · subst h
      by_cases h2 : a = b
      · subst h2
        simp
      · simp [h2]
    · have : (x == y) = false := by simpa using h
      rw [this]
      simp [h]
theorem dp_strs {K : PySem.W.Frag} {H : Hp} : ∀ (l : List Str), DpAll K H (l.map V.str) (l.map PyData.str)
  | [] => .nil
  | x :: l => .cons (.str x) (dp_strs l)
def pd (p : Str × Str) : PyData := .tuple [.str p.1, .str p.2]
theorem eqv_pd (p q : Str × Str) : PyData.eqv (pd p) (pd q) = decide (p = q) := by
  show (p.1 == q.1 && (p.2 == q.2 && true)) = _
  obtain ⟨a, b⟩ := p
  obtain ⟨c, d⟩ := q
  by_cases h1 : a = c
  · subst h1
    by_cases h2 : b = d
    · subst h2
      simp
    · have : (b == d) = false := by simpa using h2
      simp [this, h2]
  · have : (a == c) = false := by simpa using h1
    simp [this, h1]
theorem any_pd (ps : List (Str × Str)) (p : Str × Str) : ((ps.map pd).any fun z => PyData.eqv z (pd p)) = decide (p ∈ ps) := by
  rw [List.any_map]
  by_cases h : p ∈ ps
  · rw [decide_eq_true h, List.any_eq_true]
    exact ⟨p, h, by show PyData.eqv (pd p) (pd p) = true; rw [eqv_pd]; simp⟩
  · rw [decide_eq_false h, List.any_eq_false]
    intro q hq
    show ¬ PyData.eqv (pd q) (pd p) = true
    rw [eqv_pd]
    simp
    intro e
    exact h (e ▸ hq)
theorem dp_pd {K : PySem.W.Frag} {H : Hp} {b : Addr} {p : Str × Str} (h : H b = some (.tup [.str p.1, .str p.2])) : Dp K H (.ref b) (pd p) := .tup (SqT.of h) (.cons (.str _) (.cons (.str _) .nil))
theorem dp_prs {K : PySem.W.Frag} {H : Hp} : ∀ {bs : List (Addr × Str × Str)}, (∀ b ∈ bs, H b.1 = some (.tup [.str b.2.1, .str b.2.2])) → DpAll K H (bs.map fun b => V.ref b.1) ((bs.map (·.2)).map pd)
  | [], _ => .nil
  | b :: bs, h => .cons (dp_pd (h b List.mem_cons_self)) (dp_prs fun b' hb => h b' (List.mem_cons_of_mem _ hb))
theorem PrsAt.dp {K : PySem.W.Frag} {H : Hp} {l : Addr} {ps : List (Str × Str)} (h : PrsAt H l ps) : Dp K H (.ref l) (.list (ps.map pd)) := by
  obtain ⟨bs, h1, rfl, h3⟩ := h
  exact .lst (SqL.of h1) (dp_prs h3)
theorem PrsAt.same {H H' : Hp} {l : Addr} {ps : List (Str × Str)} (s : Same H H') (h : PrsAt H l ps) : PrsAt H' l ps := by
  obtain ⟨bs, h1, h2, h3⟩ := h
  exact ⟨bs, s _ _ h1, h2, fun b hb => s _ _ (h3 b hb)⟩
/-- texts that can be laid -/
def Lay (x : Str) : Prop := PyData.canLay0 (.str x) = true
theorem lay_strs : ∀ {l : List Str}, (∀ x ∈ l, Lay x) → PyData.canLayAll0 (l.map .str) = true
  | [], _ => rfl
  | x :: l, h => by
    show (PyData.canLay0 (.str x) && PyData.canLayAll0 (l.map .str)) = true
    rw [h x List.mem_cons_self, lay_strs fun y hy => h y (List.mem_cons_of_mem _ hy)] <;> rfl
theorem deep_strs : ∀ (l : List Str), PyData.depthAll (l.map .str) = 0
  | [] => rfl
  | x :: l => by
    show max 0 (PyData.depthAll (l.map .str)) = 0
    rw [deep_strs l] <;> rfl
theorem shaped_strs {l : List Str} (h : ∀ x ∈ l, Lay x) : SeqAt.shaped (.list (l.map .str)) = true := by
  unfold SeqAt.shaped
  rw [Bool.and_eq_true]
  refine ⟨lay_strs h, decide_eq_true ?_⟩
  show PyData.depthAll (l.map .str) + 1 ≤ 64
  rw [deep_strs]
  decide
theorem shaped_pd {p : Str × Str} (h1 : Lay p.1) (h2 : Lay p.2) : SeqAt.shaped (pd p) = true := by
  unfold SeqAt.shaped
  rw [Bool.and_eq_true]
  refine ⟨?_, decide_eq_true (show (1 : Nat) ≤ 64 by decide)⟩
  show (PyData.canLay0 (.str p.1) && (PyData.canLay0 (.str p.2) && true)) = true
  rw [h1, h2] <;> rfl
theorem lay_pds : ∀ {ps : List (Str × Str)}, (∀ p ∈ ps, Lay p.1 ∧ Lay p.2) → PyData.canLayAll0 (ps.map pd) = true
  | [], _ => rfl
  | p :: ps, h => by
    show (PyData.canLay0 (pd p) && PyData.canLayAll0 (ps.map pd)) = true
    obtain ⟨h1, h2⟩ := h p List.mem_cons_self
    rw [SeqAt.canLay_of_shaped (shaped_pd h1 h2), lay_pds fun q hq => h q (List.mem_cons_of_mem _ hq)] <;> rfl
theorem deep_pds : ∀ (ps : List (Str × Str)), PyData.depthAll (ps.map pd) ≤ 1
  | [] => Nat.zero_le _
  | p :: ps => by
    show max 1 (PyData.depthAll (ps.map pd)) ≤ 1
    have := deep_pds ps
    omega
theorem shaped_pds {ps : List (Str × Str)} (h : ∀ p ∈ ps, Lay p.1 ∧ Lay p.2) : SeqAt.shaped (.list (ps.map pd)) = true := by
  unfold SeqAt.shaped
  rw [Bool.and_eq_true]
  refine ⟨lay_pds h, decide_eq_true ?_⟩
  show PyData.depthAll (ps.map pd) + 1 ≤ 64
  have := deep_pds ps
  omega
theorem Good.lay {nd : Nd} (G : Good nd) {n : Str} (h : n ∈ nms nd) : Lay n := by
  obtain ⟨e, he, rfl⟩ := mem_nms h
  exact (G.ok e he).2.2.2.2
theorem mem_pairs {nd : Nd} {p : Str × Str} : p ∈ pairsN nd ↔ ∃ e ∈ nd, e.1 = p.1 ∧ p.2 ∈ e.2.2 := by
  unfold pairsN
  rw [List.mem_flatMap]
  constructor
  · rintro ⟨e, he, hp⟩
    obtain ⟨x, hx, rfl⟩ := List.mem_map.mp hp
    exact ⟨e, he, rfl, hx⟩
  · rintro ⟨e, he, h1, h2⟩
    exact ⟨e, he, List.mem_map.mpr ⟨p.2, h2, by rw [h1]⟩⟩
theorem Good.layP {nd : Nd} (G : Good nd) : ∀ p ∈ pairsN nd, Lay p.1 ∧ Lay p.2 := fun p hp => by
  obtain ⟨e, he, h1, h2⟩ := mem_pairs.mp hp
  exact ⟨h1 ▸ G.lay (List.mem_map.mpr ⟨e, he, rfl⟩), G.lay (G.sub e he _ h2)⟩
/-- the first net is below the other -/
def Below (A B : Nd) : Prop := (∀ n, n ∈ nms A ↔ n ∈ nms B) ∧ ∀ p ∈ pairsN A, p ∈ pairsN B
def spLe (C : Addr) : Sp := fun vs H Q _ => ∃ (x y : Addr) (A B : Nd), vs = [.ref x, .ref y] ∧ NetAt C H x A ∧ NetAt C H y B ∧ Good A ∧ Good B ∧ sortedS (nms A) = true ∧ sortedS (nms B) = true ∧
  ∀ (b : Bool) (H' : Hp), (b = true ↔ Below A B) → Same H H' → Q (.bl b) H'
theorem in_deep {X : Cx} {K : PySem.W.Frag} (e : X.K = K) (hu : X.A.units + 65 < cLine) : OpR X (compareOp .In) (rInD K) := e ▸ op_inD hu
section
variable {P : Program} {w : World} {K : PySem.W.Frag} {mg : Str → Option Value} {base : Heap}
theorem scLe : FnScope ["self", "other", "others", "pair"] ["self", "other"] (defScope sLe) := ⟨rfl, rfl, rfl, by decide +kernel, rfl, by decide +kernel, by decide +kernel⟩
theorem ok_le {C f fN fP : Addr} {fd fdN fdP : FuncData} (F : Fun K "__le__" "Net.__le__" sLe f fd) (B : Blt mg) (T : NetC K mg C) (GN : FnOk P w K mg base CX0 1 fN fdN ["self"] (spNames C)) (mN : Meth K C "names" fN) (bN : Binds K fdN ["self"] [])
    (GP : FnOk P w K mg base CX0 1 fP fdP ["self"] (spPairs C)) (mP : Meth K C "pairs" fP) (bP : Binds K fdP ["self"] []) : FnOk P w K mg base CX0 2 f fd ["self", "other"] (spLe C) := by
  refine F.ok scLe (fun vs H Q E h => ?_) (fun cdv A outer s H vs Q E hr h => ?_)
  · obtain ⟨x, y, A, B, rfl, _⟩ := h
    rfl
  · obtain ⟨x, y, NA, NB, rfl, hx, hy, GA, GB, sa, sb, k⟩ := h
    have nd0 := scLe.nd
    have h65 : (A.deeper (envOfC "Net.__le__" (defScope sLe) s.heap.objs.size f cdv)).units + 65 < cLine := by
      have := hr.un
      omega
    refine ⟨_, pss_cons (ps_if (pt_not (pt_val (pe_callB (C8.call_isC T.ic) (by rfl) B.isi boot_isinstance (pa_cons (pv 1) (pa_cons (pe_glob (v := .ref C) (by rfl) T.mg rfl) pa_nil))))) (pss_one ps_never) pss_nil)
      (pss_cons (ps_set (i := 2) nd0 rfl (Or.inr rfl) (pe_meth0 (pv 1) T.cl mP GP hr bP .nil pass0))
      (pss_one (ps_ret (pe_and (pe_cmpR (op_eqD hr.units) (pe_meth0 (pv 0) T.cl mN GN hr bN .nil pass0) (pe_meth0 (pv 1) T.cl mN GN hr bN .nil pass0) (nomark _))
        (pe_one (pe_callB (cr_all rfl) (by rfl) B.all (by decide +kernel) (pa_cons (pe_lc (own := [("pair", 3)]) (g := gName 3) (tt := tYes) (by rfl) nd0 (pi_list (pe_meth0 (pv 0) T.cl mP GP hr bP .nil pass0)) (blkOk_by (own := [("pair", 3)]) (N := ["self", "other", "others", "pair"]) (sc := defScope sLe) (by decide +kernel))
          (fun _ _ _ _ _ => pg_name (i := 3) nd0 rfl (Or.inl rfl)) (fun _ _ _ _ _ => pts_nil) (fun _ _ _ _ _ => pe_cmpR (in_deep (K := K) rfl h65) (pv 3) (pv 2) (by rfl))) pa_nil))))))), ?_⟩
    obtain ⟨dx, d1, hx1, D1⟩ := id hx
    obtain ⟨dy, d2, hy1, D2⟩ := id hy
    have noP : ∀ d, (fl d).lookup ("pairs" : Str) = none := fun d => fl_no d (by decide +kernel)
    have noN : ∀ d, (fl d).lookup ("names" : Str) = none := fun d => fl_no d (by decide +kernel)
    refine ⟨_, rfl, y, dy, _, rfl, hy1, _, rfl, iteF ?_⟩
    refine ⟨_, rfl, y, dy, _, rfl, hy1, noP d2, y, NB, rfl, hy, GB, fun l1 Ha n1 P1 s1 => ?_⟩
    refine ⟨_, rfl, x, dx, _, rfl, s1 _ _ hx1, noN d1, x, NA, rfl, hx.same s1, fun l2 Hb n2 e2 s2 => ?_⟩
    have s12 := s1.trans s2
    refine ⟨_, rfl, y, dy, _, rfl, s12 _ _ hy1, noN d2, y, NB, rfl, hy.same s12, fun l3 Hc n3 e3 s3 => ?_⟩
    have s13 := s12.trans s3
    refine ⟨.list ((nms NA).map .str), .list ((nms NB).map .str), .lst (SqL.of (s3 _ _ e2)) (dp_strs _), .lst (SqL.of e3) (dp_strs _), shaped_strs fun n => GA.lay, shaped_strs fun n => GB.lay, _, rfl, ?_⟩
    have ev : PyData.eqv (.list ((nms NA).map .str)) (.list ((nms NB).map .str)) = decide (nms NA = nms NB) := eqv_strs _ _
    rw [ev]
    by_cases hn : nms NA = nms NB
    · rw [decide_eq_true hn]
      refine iteT ?_
      refine ⟨_, rfl, x, dx, _, rfl, s13 _ _ hx1, noP d1, x, NA, rfl, hx.same s13, GA, fun l4 Hd n4 P4 s4 => ?_⟩
      have P1d := (P1.same (s2.trans s3)).same s4
      obtain ⟨bs, b1, b2, b3⟩ := P4
      have few : bs.length ≤ 25 := by
        have h1 := congrArg List.length b2
        rw [List.length_map] at h1
        have h2 := pairsN_len GA.few
        have h3 := GA.five
        omega
      refine ⟨l4, rfl, ⟨_, SqL.of b1⟩, fun N hN => lc_it walk_list (fun i H' => H' N = some (.lst (((pairsN NA).take i).map fun p => V.bl (decide (p ∈ pairsN NB)))) ∧ Same Hd H') ⟨upd_same, same_new hN⟩ (fun i H' _ q => SqL.of (q.2 _ _ b1)) ?_ ?_⟩
      · rintro i z H1 H2 hi ⟨p1, p2⟩ ⟨rfl, hz⟩
        obtain ⟨b, hb, rfl⟩ : ∃ b, bs[i]? = some b ∧ V.ref b.1 = z := by simpa using hz
        have mem := List.mem_of_getElem? hb
        have hp : (pairsN NA)[i]? = some b.2 := by rw [← b2, List.getElem?_map, hb] <;> rfl
        have lay := GA.layP b.2 (List.mem_of_getElem? hp)
        refine ⟨rfl, _, rfl, _, rfl, pd b.2, (pairsN NB).map pd, dp_pd (p2 _ _ (b3 b mem)), (P1d.same p2).dp, shaped_pd lay.1 lay.2, shaped_pds GB.layP, _, p1, ?_, upd_same.trans ?_, Same.mut p2 hN⟩
        · rw [List.length_map, List.length_take]
          exact small1000 (by rw [List.length_map] at hi; omega)
        · rw [any_pd, List.take_add_one, hp, List.map_append] <;> rfl
      · rintro He ⟨p1, p2⟩
        have full : (pairsN NA).take (bs.map fun b => V.ref b.1).length = pairsN NA := by
          rw [← b2]
          exact List.take_of_length_le (by rw [List.length_map, List.length_map]; exact Nat.le_refl _)
        rw [full] at p1
        refine ⟨N, (pairsN NA).map fun p => decide (p ∈ pairsN NB), rfl, SqL.of (by rw [p1, List.map_map] <;> rfl), ?_⟩
        refine k _ _ ?_ ((s13.trans s4).trans p2)
        rw [List.all_map, List.all_eq_true]
        constructor
        · exact fun h => ⟨fun n => by rw [hn], fun p hp => of_decide_eq_true (h p hp)⟩
        · exact fun h p hp => decide_eq_true (h.2 p hp)
    · rw [decide_eq_false hn]
      refine iteF (k false _ ⟨(fun z => nomatch z), fun h => ?_⟩ s13)
      exact absurd (sorted_same sa sb GA.nn GB.nn h.1) hn
end
end Nt
set_option Elab.async false
set_option linter.all false
set_option maxRecDepth 100000
set_option maxHeartbeats 4000000
namespace Nt
open PySem PySem.Spec PyProof.Rows L2
abbrev sOrder : Stmt := inClass (top 12) 15
/-- the names of the row of those that are ready -/
def scReady : Scope := { kind := .function, names := [(".0", .local), ("name", .local), ("all", .globalImplicit), ("placed", .free), ("self", .free)], isGenerator := false, isCoroutine := false }
/-- each one's needs stand ahead of it -/
def Pl (nd : Nd) (ps : List Str) : Prop := ∀ (i : Nat) (n : Str), ps[i]? = some n → ∀ m, (n, m) ∈ pairsN nd → m ∈ ps.take i
/-- a net can be made in some order -/
def Wf (nd : Nd) : Prop := ∃ ps : List Str, (∀ n ∈ nms nd, n ∈ ps) ∧ Pl nd ps
theorem first_of {α : Type} (p : α → Prop) : ∀ {qs : List α}, (∃ n ∈ qs, p n) → ∃ (i : Nat) (n : α), qs[i]? = some n ∧ p n ∧ ∀ m ∈ qs.take i, ¬ p m
  | [], h => by
    obtain ⟨n, hn, _⟩ := h
    cases hn
  | q :: qs, h => by
    by_cases c : p q
    · exact ⟨0, q, rfl, c, (fun m hm => nomatch hm)⟩
    · obtain ⟨n, hn, pn⟩ := h
      have hn' : n ∈ qs := by
        rcases List.mem_cons.mp hn with e | hn
        · exact absurd (e ▸ pn) c
        · exact hn
      obtain ⟨i, n', h1, h2, h3⟩ := first_of p (qs := qs) ⟨n, hn', pn⟩
      refine ⟨i + 1, n', h1, h2, fun m hm => ?_⟩
      rcases List.mem_cons.mp (show m ∈ q :: qs.take i from hm) with e | hm
      · rw [e]
        exact c
      · exact h3 m hm
theorem all_in {α : Type} [DecidableEq α] {l m : List α} (un : l.Nodup) (sub : ∀ x ∈ l, x ∈ m) (h : m.length ≤ l.length) : ∀ x ∈ m, x ∈ l := fun x hx => by
  by_cases c : x ∈ l
  · exact c
  · have := len_sub (l := x :: l) (m := m) (List.nodup_cons.mpr ⟨c, un⟩) fun y hy => by
      rcases List.mem_cons.mp hy with e | hy
      · rw [e]
        exact hx
      · exact sub y hy
    rw [List.length_cons] at this
    omega
theorem inV_dec (x : Str) (l : List Str) : inV (.str x) (l.map V.str) = decide (x ∈ l) := by
  by_cases h : x ∈ l
  · rw [inV_str h, decide_eq_true h]
  · rw [decide_eq_false h]
    unfold inV
    rw [List.any_map, List.any_eq_false]
    intro y hy e
    have : y = x := by simpa [eqV] using e
    exact h (this ▸ hy)
/-- who can be made now -/
def rdy (ps : List Str) (e : Str × Addr × List Str) : Bool := decide (e.1 ∉ ps) && e.2.2.all fun m => decide (m ∈ ps)
theorem stuck {nd : Nd} {ps : List Str} (G : Good nd) (less : ∃ n ∈ nms nd, n ∉ ps) (none : ∀ e ∈ nd, rdy ps e = false) : ¬ Wf nd := by
  rintro ⟨qs, h1, h2⟩
  obtain ⟨n, hn, hp⟩ := less
  obtain ⟨i, n', a1, ⟨a2, a3⟩, a4⟩ := first_of (fun n => n ∈ nms nd ∧ n ∉ ps) (qs := qs) ⟨n, h1 n hn, hn, hp⟩
  obtain ⟨e, he, rfl⟩ := mem_nms a2
  have f := none e he
  have t : rdy ps e = true := by
    unfold rdy
    rw [Bool.and_eq_true, List.all_eq_true]
    refine ⟨decide_eq_true a3, fun m hm => decide_eq_true ?_⟩
    have q := h2 i e.1 a1 m (mem_pairs.mpr ⟨e, he, rfl, hm⟩)
    by_cases c : m ∈ ps
    · exact c
    · exact absurd ⟨G.sub e he m hm, c⟩ (a4 m q)
  rw [t] at f
  cases f
theorem Pl.snoc {nd : Nd} {ps : List Str} {e : Str × Addr × List Str} (un : (nms nd).Nodup) (p : Pl nd ps) (he : e ∈ nd) (r : rdy ps e = true) : Pl nd (ps ++ [e.1]) := fun i n hn m hm => by
  unfold rdy at r
  rw [Bool.and_eq_true, List.all_eq_true] at r
  by_cases c : i < ps.length
  · rw [List.getElem?_append_left c] at hn
    rw [List.take_append_of_le_length (Nat.le_of_lt c)]
    exact p i n hn m hm
  · have hl : i < (ps ++ [e.1]).length := (List.getElem?_eq_some_iff.mp hn).1
    rw [List.length_append, List.length_singleton] at hl
    obtain rfl : i = ps.length := by omega
    have hn' : e.1 = n := by simpa using hn
    obtain ⟨e', he', h1, h2⟩ := mem_pairs.mp hm
    have ee : e'.2 = e.2 := by
      have q1 := look_ent un he'
      have q2 := look_ent un he
      rw [show e'.1 = e.1 from h1.trans hn'.symm, q2] at q1
      exact q1.symm
    rw [ee] at h2
    simpa using of_decide_eq_true (r.2 m h2)
def spOrder (C : Addr) : Sp := fun vs H Q _ => ∃ (x : Addr) (nd : Nd), vs = [.ref x] ∧ NetAt C H x nd ∧ Good nd ∧
  (¬ Wf nd → ∀ H', Same H H' → Q .non H') ∧ (Wf nd → ∀ l H', Same H H' → Q (.ref l) H')
section
variable {P : Program} {w : World} {K : PySem.W.Frag} {mg : Str → Option Value} {base : Heap}
theorem scOrder : FnScope ["self", "placed", "ready", "name", "need"] ["self"] (defScope sOrder) := ⟨rfl, rfl, rfl, by decide +kernel, rfl, by decide +kernel, by decide +kernel⟩
theorem ok_order {C f : Addr} {fd : FuncData} (F : Fun K "order" "Net.order" sOrder f fd) (B : Blt mg) (T : NetC K mg C) : FnOk P w K mg base CX0 1 f fd ["self"] (spOrder C) := by
  refine F.ok scOrder (fun vs H Q E h => ?_) (fun cdv A outer s H vs Q E hr h => ?_)
  · obtain ⟨x, nd, rfl, _⟩ := h
    rfl
  · obtain ⟨x, nd, rfl, hx, G, k0, k1⟩ := h
    have nd0 := scOrder.nd
    have hu := hu_of hr
    refine ⟨_, pss_cons (ps_set (i := 1) nd0 rfl (Or.inr rfl) (pe_lst pa_nil))
      (pss_cons (ps_while PassesOwn.never (pt_cmpR op_lt (pe_callB call_len_seq (by rfl) B.len PySem.boot_len (pa_cons (pv 1) pa_nil)) (pe_callB call_lenD (by rfl) B.len PySem.boot_len (pa_cons (pe_fld (pv 0) rfl) pa_nil)) (nomark _))
        (pss_cons (ps_lock (ps_setLc (i := 2) (own := [("name", 3)]) (g := gName 3) (by rfl) nd0 rfl rfl (sw_true rfl rfl rfl (by decide +kernel)) (pi_keys (pe_fld (pv 0) rfl)) (blkOk_by (own := [("name", 3)]) (N := ["self", "placed", "ready", "name", "need"]) (sc := defScope sOrder) (by decide +kernel))
          (fun _ _ _ _ _ => pg_name (i := 3) nd0 rfl (Or.inl rfl))
          (fun _ _ _ _ _ => pts_one (PW.pt (pw_and (pt_cmpR (nin_seq (K := K) rfl) (pv 3) (pv 1) (by rfl)) (pw_and1 (pt_val (pe_callB (c_all (K := K) (by rfl) rfl) (by rfl) B.all (by decide +kernel) (pa_cons (pe_lc (own := [("need", 4)]) (g := gName 4) (tt := tYes) (by rfl) nd0
            (p_tup (K := K) rfl (pe_dget hu (p_fld (K := K) rfl (pv 0) rfl) (pv 3) (fun _ _ => rfl))) (blkOk_by (own := [("need", 4)]) (N := ["self", "placed", "ready", "name", "need"]) (sc := relS scReady (defScope sOrder)) (by decide +kernel))
            (fun _ _ _ _ _ => pg_name (i := 4) nd0 rfl (Or.inl rfl)) (fun _ _ _ _ _ => pts_nil) (fun _ _ _ _ _ => pe_cmpR (in_seq (K := K) rfl) (pv 4) (pv 1) (by rfl))) pa_nil)))))))
          (fun _ _ _ _ _ => pv 3)))
        (pss_cons (ps_if (pt_not (pt_truth (pv 2) (by intro _; rfl))) (pss_one (ps_ret pe_non)) pss_nil)
        (pss_one (ps_expr (pe_bm PySem.F.plainAttrs_list PySem.F.slot_list_append PySem.F.type_list_append mt_append (pv 1) (pa_cons (pe_ix ix_list (pv 2) pe_int (fun _ _ => rfl)) pa_nil)))))))
      (pss_one (ps_ret (pv 1)))), ?_⟩
    obtain ⟨dx, d, hx1, D⟩ := id hx
    refine ⟨Nat.zero_le _, fun pl hpl => ?_⟩
    have len0 : (nms nd).length = nd.length := List.length_map ..
    have five := G.five
    refine ⟨fun m σ H' => ∃ (ps : List Str) (v : Option V), σ = [some (.ref x), some (.ref pl), v, none, none] ∧ H' pl = some (.lst (ps.map V.str)) ∧ Same H H' ∧ ps.Nodup ∧ (∀ n ∈ ps, n ∈ nms nd) ∧ Pl nd ps ∧ m + ps.length = nd.length,
      ⟨nd.length, [], none, rfl, upd_same, same_new hpl, List.nodup_nil, (fun n h => nomatch h), (fun i n h => nomatch h), rfl⟩, ?_⟩
    rintro m σ H1 ⟨ps, v, rfl, h1, s1, un, sub, pls, cnt⟩
    have D1 := D.same s1
    have x1 := s1 _ _ hx1
    refine ⟨_, rfl, pl, _, rfl, .inl (SqL.of h1), _, rfl, x, C, dx, _, _, rfl, x1, T.cl, T.nA, fl_get d, d, _, rfl, D1.1, _, _, rfl, rfl, _, rfl, ?_⟩
    rw [List.length_map, ndK_len]
    refine ite2 (fun c => ?_) (fun c => ?_)
    · have less : ps.length < nd.length := by
        have := of_decide_eq_true c
        omega
      refine ⟨fun σ' H' => ∃ (ps' : List Str) (v : Option V), σ' = [some (.ref x), some (.ref pl), v, none, none] ∧ H' pl = some (.lst (ps'.map V.str)) ∧ Same H H' ∧ ps'.Nodup ∧ (∀ n ∈ ps', n ∈ nms nd) ∧ Pl nd ps' ∧ ps'.length = ps.length + 1, ?_, ?_⟩
      · rintro σ' H' ⟨ps', v', q1, q2, q3, q4, q5, q6, q7⟩
        exact ⟨m - 1, by omega, ps', v', q1, q2, q3, q4, q5, q6, by omega⟩
      · have xd : x ≠ d := ne_of x1 D1.1 (by intro z; cases z)
        have pd : pl ≠ d := ne_of h1 D1.1 (by intro z; cases z)
        refine ⟨d, _, D1.1, mut_dK, fun od => ⟨_, rfl, x, C, dx, _, _, rfl, (upd_ne xd).trans x1, T.cl, T.nA, fl_get d, d, od, rfl, .inl ⟨ndK nd, upd_same, fun L hL => ?_⟩⟩⟩
        have back : ∀ {H'}, Same (upd H1 d (.frz od (.dK (ndK nd)))) H' → Same H1 (upd H' d (.dK (ndK nd))) := fun s => same_lock D1.1 s
        have f1 : upd H1 d (.frz od (.dK (ndK nd))) x = some (.ins C dx (fl d)) := (upd_ne xd).trans x1
        have f2 : upd H1 d (.frz od (.dK (ndK nd))) pl = some (.lst (ps.map V.str)) := (upd_ne pd).trans h1
        have f3 : Tups (upd H1 d (.frz od (.dK (ndK nd)))) nd := fun e he => (upd_ne (ne_of (D1.2 e he) D1.1 (by intro z; cases z))).trans (D1.2 e he)
        have f4 : upd H1 d (.frz od (.dK (ndK nd))) d = some (.frz od (.dK (ndK nd))) := upd_same
        generalize upd H1 d (.frz od (.dK (ndK nd))) = H0 at hL back f1 f2 f3 f4
        refine run_it walk_keys (fun i H' => H' L = some (.lst ((((nd.take i).filter (rdy ps)).map (·.1)).map V.str)) ∧ Same H0 H') ⟨upd_same, same_new hL⟩ (fun i H' _ q => q.2 _ _ f4) ?_ ?_
        · rintro i y H2 H3 hi ⟨p1, p2⟩ ⟨rfl, k', v', hk, rfl⟩
          obtain ⟨e, he, rfl, rfl⟩ := ndK_get hk
          have mem := List.mem_of_getElem? he
          have et : nd.take (i + 1) = nd.take i ++ [e] := by rw [List.take_add_one, he] <;> rfl
          have skip : rdy ps e = false → (((nd.take (i + 1)).filter (rdy ps)).map (·.1)).map V.str = (((nd.take i).filter (rdy ps)).map (·.1)).map V.str := fun r => by
            rw [et, List.filter_append, List.filter_cons_of_neg (by rw [r]; exact Bool.false_ne_true), List.filter_nil, List.append_nil]
          have take : rdy ps e = true → (((nd.take (i + 1)).filter (rdy ps)).map (·.1)).map V.str = (((nd.take i).filter (rdy ps)).map (·.1)).map V.str ++ [V.str e.1] := fun r => by
            rw [et, List.filter_append, List.filter_cons_of_pos r, List.filter_nil, List.map_append, List.map_append] <;> rfl
          refine ⟨rfl, _, rfl, _, rfl, pl, _, rfl, .inl (SqL.of (p2 _ _ f2)), rfl, flat_strL ps, !decide (e.1 ∈ ps), congrArg V.bl ((if_pos rfl).trans (congrArg not (inV_dec e.1 ps))), ?_⟩
          by_cases c1 : e.1 ∈ ps
          · have r : rdy ps e = false := by
              unfold rdy
              rw [decide_eq_false (fun h => h c1)] <;> rfl
            rw [decide_eq_true c1]
            refine iteF (iteF ⟨?_, p2⟩)
            rw [skip r]
            exact p1
          · rw [decide_eq_false c1]
            refine iteT ?_
            refine ⟨_, rfl, x, C, dx, _, _, rfl, p2 _ _ f1, T.cl, T.nA, fl_get d, _, rfl, d, _, rfl, (val_ent G.nn mem) ▸ .inl ⟨_, Sum.inr e.1, .inr ⟨od, p2 _ _ f4⟩, rfl, rfl⟩, e.2.1, rfl, ⟨_, SqT.of (p2 _ _ (f3 e mem))⟩, fun N hN =>
              lc_it walk_tup (fun j H' => H' N = some (.lst ((e.2.2.take j).map fun m => V.bl (decide (m ∈ ps)))) ∧ Same H3 H') ⟨upd_same, same_new hN⟩ (fun j H' _ q => SqT.of (q.2 _ _ (p2 _ _ (f3 e mem)))) ?_ ?_⟩
            · rintro j z H4 H5 hj ⟨q1, q2⟩ ⟨rfl, hz⟩
              obtain ⟨m, hm, rfl⟩ : ∃ z', e.2.2[j]? = some z' ∧ V.str z' = z := by simpa using hz
              refine ⟨rfl, _, rfl, _, rfl, pl, _, rfl, .inl (SqL.of (q2 _ _ (p2 _ _ f2))), rfl, flat_strL ps, _, q1, ?_, upd_same.trans ?_, Same.mut q2 hN⟩
              · rw [List.length_map, List.length_take]
                have := G.few e mem
                exact small1000 (by omega)
              · have ev : (if false = true then !inV (V.str m) (ps.map V.str) else inV (V.str m) (ps.map V.str)) = decide (m ∈ ps) := (if_neg Bool.false_ne_true).trans (inV_dec _ _)
                rw [ev, List.take_add_one, hm, List.map_append] <;> rfl
            · rintro H4 ⟨q1, q2⟩
              rw [List.length_map, List.take_length] at q1
              refine ⟨N, e.2.2.map fun m => decide (m ∈ ps), rfl, SqL.of (by rw [q1, List.map_map] <;> rfl), _, rfl, ?_⟩
              have L4 := q2 _ _ p1
              have s4 : Same H0 H4 := Same.trans p2 q2
              have r : rdy ps e = (e.2.2.map fun m => decide (m ∈ ps)).all id := by
                unfold rdy
                rw [decide_eq_true c1, List.all_map] <;> rfl
              rw [← r]
              cases hr2 : rdy ps e with
              | true =>
                refine iteT ⟨_, rfl, _, L4, ?_, upd_same.trans ?_, Same.mut s4 hL⟩
                · rw [List.length_map, List.length_map]
                  have h1 := List.length_filter_le (rdy ps) (nd.take i)
                  rw [List.length_take] at h1
                  exact small1000 (by omega)
                · exact congrArg (fun l => some (HO.lst l)) (take hr2).symm
              | false =>
                refine iteF ⟨?_, s4⟩
                rw [skip hr2]
                exact L4
        · rintro H2 ⟨p1, p2⟩
          rw [ndK_len, List.take_length] at p1
          have a4 := p2 _ _ f4
          have Ld : L ≠ d := fun z => by
            rw [z, f4] at hL
            cases hL
          have sb := back p2
          refine ⟨a4, ?_⟩
          have hL2 : upd H2 d (.dK (ndK nd)) L = some (.lst (((nd.filter (rdy ps)).map (·.1)).map V.str)) := (upd_ne Ld).trans p1
          have s2 : Same H (upd H2 d (.dK (ndK nd))) := s1.trans sb
          have pl2 := sb _ _ h1
          generalize upd H2 d (.dK (ndK nd)) = Hn at hL2 s2 pl2
          refine ⟨_, rfl, !((((nd.filter (rdy ps)).map (·.1)).map V.str)).isEmpty, .inl ⟨_, SqL.of hL2, rfl⟩, ?_⟩
          cases hf : nd.filter (rdy ps) with
          | nil =>
            refine iteT (k0 (stuck (ps := ps) G ?_ fun e he => ?_) _ s2)
            · refine Classical.byContradiction fun no => ?_
              have all : ∀ n ∈ nms nd, n ∈ ps := fun n hn => Classical.byContradiction fun c => no ⟨n, hn, c⟩
              have := len_sub G.nn all
              omega
            · rw [List.filter_eq_nil_iff] at hf
              cases r : rdy ps e with
              | true => exact absurd r (hf e he)
              | false => rfl
          | cons e es =>
            refine iteF ?_
            have eIn : e ∈ nd.filter (rdy ps) := by rw [hf]; exact List.mem_cons_self
            obtain ⟨mem, r⟩ := List.mem_filter.mp eIn
            rw [hf] at hL2
            refine ⟨_, rfl, .inl ⟨rfl, _, SqL.of pl2⟩, _, rfl, L, _, _, .str e.1, rfl, rfl, SqL.of hL2, atI_nat (j := 0) rfl, pl, _, _, rfl, rfl, pl2, ?_, ?_⟩
            · rw [List.length_map]
              exact small1000 (by omega)
            · have new : e.1 ∉ ps := by
                unfold rdy at r
                rw [Bool.and_eq_true] at r
                exact of_decide_eq_true r.1
              refine ⟨ps ++ [e.1], _, rfl, upd_same.trans (by rw [List.map_append] <;> rfl), Same.mut s2 hpl, ?_, ?_, pls.snoc G.nn mem r, by rw [List.length_append] <;> rfl⟩
              · rw [List.nodup_append]
                refine ⟨un, List.nodup_cons.mpr ⟨(fun h => nomatch h), List.nodup_nil⟩, fun a ha b hb e2 => ?_⟩
                rw [List.mem_singleton.mp hb] at e2
                exact new (e2 ▸ ha)
              · intro n hn
                rcases List.mem_append.mp hn with hn | hn
                · exact sub n hn
                · rw [List.mem_singleton.mp hn]
                  exact List.mem_map.mpr ⟨e, mem, rfl⟩
    · have full : nd.length ≤ ps.length := by
        rcases Nat.lt_or_ge ps.length nd.length with q | q
        · exact absurd (decide_eq_true (show ((ps.length : Nat) : Int) < (nd.length : Int) by omega)) c
        · exact q
      exact ⟨_, rfl, k1 ⟨ps, all_in un sub (by omega), pls⟩ pl _ s1⟩
end
end Nt
set_option Elab.async false
set_option linter.all false
set_option maxRecDepth 100000
set_option maxHeartbeats 4000000
namespace Nt
open PySem PySem.Spec PyProof.Rows L2
abbrev sNeeds : Stmt := top 17
def menuN : List (List Str) := [["a", "b", "c"], ["y", "x", "zz"], ["p", "q", "r", "s"], ["abcdefgh"], ["m", "n"]]
instance (z : Str) : Decidable (NmOk z) := by unfold NmOk; infer_instance
theorem menu_ok : ∀ ns ∈ menuN, ns.Nodup ∧ 1 ≤ ns.length ∧ ns.length ≤ 5 ∧ ∀ n ∈ ns, NmOk n := by decide +kernel
theorem PoolAt.ne {H : Hp} {p q : Addr} {o : HO} (h : PoolAt H p) (e : H q = some o) (n : ∀ a b : Int, o ≠ .lst [.int a, .int b]) : q ≠ p := fun z => by
  obtain ⟨a, b, h1, _⟩ := h
  rw [z, h1] at e
  exact n a b (Option.some.inj e).symm
theorem PoolAt.new {H : Hp} {p q : Addr} (h : PoolAt H p) (e : H q = none) : q ≠ p := fun z => by
  obtain ⟨a, b, h1, _⟩ := h
  rw [z, h1] at e
  cases e
theorem PoolAt.same' {H : Hp} {p q : Addr} {o : HO} {H0 : Hp} (h : PoolAt H p) (e : H0 q = none) (hp0 : PoolAt H0 p) : PoolAt (L2.upd H q o) p := by
  obtain ⟨a, b, h1, h2⟩ := h
  have ne := hp0.new e
  exact ⟨a, b, (upd_ne (Ne.symm ne)).trans h1, h2⟩
theorem strs_pool {ns : List Str} (a b : Int) : (HO.lst (ns.map V.str)) ≠ .lst [.int a, .int b] := fun z => by
  cases ns with
  | nil => cases z
  | cons x l => cases z
theorem But.mut {p q : Addr} {H H' : Hp} {o : HO} (b : But p H H') (h : H q = none) : But p H (L2.upd H' q o) := fun r u e n => by
  rw [upd_ne (ne_of_none e h)]
  exact b r u e n
theorem But.free {p q : Addr} {H H' : Hp} (b : But p H H') (n : q ≠ p) (h : H' q = none) : H q = none := by
  cases e : H q with
  | none => rfl
  | some o =>
    rw [b q o e n] at h
    cases h
theorem cut_take (xs : List V) (i : Nat) : cutV xs none (some (i : Int)) = xs.take i := by
  unfold cutV
  rw [HT.sIx_none, HT.sIx_nat, List.drop_zero, Nat.sub_zero]
  by_cases h : i ≤ xs.length
  · rw [Nat.min_eq_left h]
  · rw [Nat.min_eq_right (by omega), List.take_length, List.take_of_length_le (by omega)]
/-- needs are drawn -/
def spNeeds : Sp := fun vs H Q _ => ∃ (p : Addr) (rings : Bool), vs = [.ref p, .bl rings] ∧ PoolAt H p ∧
  ∀ (d : Addr) (nd : Nd) (H' : Hp), H d = none → NdAt H' d nd → Good nd → PoolAt H' p → But p H H' → Q (.ref d) H'
section
variable {P : Program} {w : World} {K : PySem.W.Frag} {mg : Str → Option Value} {base : Heap}
theorem scNeeds : FnScope ["pool", "rings", "names", "found", "at", "name", "others", "other"] ["pool", "rings"] (defScope sNeeds) := ⟨rfl, rfl, rfl, by decide +kernel, rfl, by decide +kernel, by decide +kernel⟩
theorem ok_needs {f fO fT : Addr} {fd fdO fdT : FuncData} (F : Fun K "_law_needs" "_law_needs" sNeeds f fd) (B : Blt mg) (GO : FnOk P w K mg base CX0 2 fO fdO ["pool", "some"] (spOne K)) (gO : mg "_law_one" = some (.ref fO)) (kO : PySem.W.keepIn K (.ref fO) = true) (bO : Binds K fdO ["pool", "some"] [])
    (GT : FnOk P w K mg base CX0 1 fT fdT ["pool", "many"] spTake) (gT : mg "_law_take" = some (.ref fT)) (kT : PySem.W.keepIn K (.ref fT) = true) (bT : Binds K fdT ["pool", "many"] []) : FnOk P w K mg base CX0 3 f fd ["pool", "rings"] spNeeds := by
  refine F.ok scNeeds (fun vs H Q E h => ?_) (fun cdv A outer s H vs Q E hr h => ?_)
  · obtain ⟨p, rings, rfl, _⟩ := h
    rfl
  · obtain ⟨p, rings, rfl, hp, k⟩ := h
    have nd0 := scNeeds.nd
    have hu := hu_of hr
    have hr1 : Room 1 _ := hr.mono (by decide)
    refine ⟨_, C8.pss_cut (ps_set (i := 2) nd0 rfl (Or.inl rfl) (pe_call GO hr (by rfl) gO kO bO .nil pass0 (pa_cons (pv 0) (pa_cons (pe_lst
        (pa_cons (pe_lst (pa_cons pe_str (pa_cons pe_str (pa_cons pe_str pa_nil)))) (pa_cons (pe_lst (pa_cons pe_str (pa_cons pe_str (pa_cons pe_str pa_nil)))) (pa_cons (pe_lst (pa_cons pe_str (pa_cons pe_str (pa_cons pe_str (pa_cons pe_str pa_nil)))))
          (pa_cons (pe_lst (pa_cons pe_str pa_nil)) (pa_cons (pe_lst (pa_cons pe_str (pa_cons pe_str pa_nil))) pa_nil)))))) pa_nil))))
      (pss_cons (ps_set (i := 3) nd0 rfl (Or.inl rfl) pe_dnewK)
      (pss_cons (ps_for PassesOwn.never rfl (pi_enum (by rfl) B.enum (pa_cons (pv 2) pa_nil)) (pg_tup rfl (pgs_cons (pg_name (i := 4) nd0 rfl (Or.inl rfl)) (pgs_cons (pg_name (i := 5) nd0 rfl (Or.inl rfl)) pgs_nil)))
        (C8.pss_cut (ps_set (i := 6) nd0 rfl (Or.inl rfl) (pe_ifExp (pt_val (pv 1)) (pv 2) (pe_slice sl_list (pv 2) po_none (po_some (pv 4)))))
        (pss_one (ps_dput hu (pv 3) (pv 5) (pe_callTy call_tuple_of (by rfl) B.tuple (by decide +kernel) (pa_cons (pe_lc (own := [("other", 7)]) (g := gName 7) (by rfl) nd0 (pi_list (pv 6)) (blkOk_by (own := [("other", 7)]) (N := ["pool", "rings", "names", "found", "at", "name", "others", "other"]) (sc := defScope sNeeds) (by decide +kernel))
          (fun _ _ _ _ _ => pg_name (i := 7) nd0 rfl (Or.inl rfl)) (fun _ _ _ _ _ => pts_one (pt_cmpR op_eq (pe_call GT hr1 (by rfl) gT kT bT .nil pass0 (pa_cons (pv 0) (pa_cons pe_int pa_nil))) pe_int (nomark _))) (fun _ _ _ _ _ => pv 7)) pa_nil)) rfl))))
      (pss_one (ps_ret (pv 3))))), ?_⟩
    refine ⟨fun σ H' => ∃ (a : Addr) (ns : List Str), ns ∈ menuN ∧ σ = [some (.ref p), some (.bl rings), some (.ref a), none, none, none, none, none] ∧ H' a = some (.lst (ns.map V.str)) ∧ PoolAt H' p ∧ But p H H', ?_, ?_⟩
    · refine ⟨_, rfl, (by show 3 ≤ sizeLine; decide), fun l1 h1 => ⟨(by show 3 ≤ sizeLine; decide), fun l2 h2 => ⟨(by show 4 ≤ sizeLine; decide), fun l3 h3 => ⟨(by show 1 ≤ sizeLine; decide), fun l4 h4 => ⟨(by show 2 ≤ sizeLine; decide), fun l5 h5 => ⟨(by show 5 ≤ sizeLine; decide), fun l h => ?_⟩⟩⟩⟩⟩⟩
      have e1 : upd H l1 (.lst [.str "a", .str "b", .str "c"]) l1 = _ := upd_same
      have s1 : Same H (upd H l1 (.lst [.str "a", .str "b", .str "c"])) := same_new h1
      generalize upd H l1 (.lst [V.str "a", V.str "b", V.str "c"]) = Ha at *
      have e2 : upd Ha l2 (.lst [.str "y", .str "x", .str "zz"]) l2 = _ := upd_same
      have s2 : Same Ha (upd Ha l2 (.lst [.str "y", .str "x", .str "zz"])) := same_new h2
      generalize upd Ha l2 (.lst [V.str "y", V.str "x", V.str "zz"]) = Hb at *
      have e3 : upd Hb l3 (.lst [.str "p", .str "q", .str "r", .str "s"]) l3 = _ := upd_same
      have s3 : Same Hb (upd Hb l3 (.lst [.str "p", .str "q", .str "r", .str "s"])) := same_new h3
      generalize upd Hb l3 (.lst [V.str "p", V.str "q", V.str "r", V.str "s"]) = Hc at *
      have e4 : upd Hc l4 (.lst [.str "abcdefgh"]) l4 = _ := upd_same
      have s4 : Same Hc (upd Hc l4 (.lst [.str "abcdefgh"])) := same_new h4
      generalize upd Hc l4 (.lst [V.str "abcdefgh"]) = Hd at *
      have e5 : upd Hd l5 (.lst [.str "m", .str "n"]) l5 = _ := upd_same
      have s5 : Same Hd (upd Hd l5 (.lst [.str "m", .str "n"])) := same_new h5
      generalize upd Hd l5 (.lst [V.str "m", V.str "n"]) = He at *
      have e6 : upd He l (.lst [.ref l1, .ref l2, .ref l3, .ref l4, .ref l5]) l = _ := upd_same
      have s6 : Same He (upd He l (.lst [.ref l1, .ref l2, .ref l3, .ref l4, .ref l5])) := same_new h
      have hpE : PoolAt He p := ((((hp.same s1).same s2).same s3).same s4).same s5
      have lp : l ≠ p := hpE.new h
      generalize upd He l (.lst [V.ref l1, V.ref l2, V.ref l3, V.ref l4, V.ref l5]) = Hf at *
      have hpF := hpE.same s6
      have sF : Same H Hf := ((((s1.trans s2).trans s3).trans s4).trans s5).trans s6
      have k1 := s6 _ _ (s5 _ _ (s4 _ _ (s3 _ _ (s2 _ _ e1))))
      have k2 := s6 _ _ (s5 _ _ (s4 _ _ (s3 _ _ e2)))
      have k3 := s6 _ _ (s5 _ _ (s4 _ _ e3))
      have k4 := s6 _ _ (s5 _ _ e4)
      have k5 := s6 _ _ e5
      refine ⟨p, l, _, rfl, hpF, SqL.of e6, lp, (by show 0 < 5; decide), (by show 5 ≤ 1000; decide), fun j v H' hj pool' but => ?_⟩
      have fin : ∀ (a : Addr) (ns : List Str), ns ∈ menuN → v = .ref a → Hf a = some (.lst (ns.map V.str)) → ∃ (a : Addr) (ns : List Str), ns ∈ menuN ∧ [some (.ref p), some (.bl rings), some v, none, none, none, none, none] = [some (.ref p), some (.bl rings), some (V.ref a), none, none, none, none, none] ∧ H' a = some (.lst (ns.map V.str)) ∧ PoolAt H' p ∧ But p H H' :=
        fun a ns m e h => ⟨a, ns, m, by rw [e], but _ _ h (hpF.ne h (strs_pool (ns := ns))), pool', (Same.but sF).trans but⟩
      rcases j with _ | _ | _ | _ | _ | j
      · exact fin l1 ["a", "b", "c"] (by decide +kernel) (Option.some.inj hj).symm k1
      · exact fin l2 ["y", "x", "zz"] (by decide +kernel) (Option.some.inj hj).symm k2
      · exact fin l3 ["p", "q", "r", "s"] (by decide +kernel) (Option.some.inj hj).symm k3
      · exact fin l4 ["abcdefgh"] (by decide +kernel) (Option.some.inj hj).symm k4
      · exact fin l5 ["m", "n"] (by decide +kernel) (Option.some.inj hj).symm k5
      · cases hj
    · rintro σ H1 ⟨a, ns, menu, rfl, ha, hp1, b1⟩ d hd
      obtain ⟨nsU, ns1, ns5, nsN⟩ := menu_ok ns menu
      have dp : d ≠ p := hp1.new hd
      have hd0 : H d = none := b1.free dp hd
      have ap : a ≠ p := hp1.ne ha (strs_pool (ns := ns))
      have s2 : Same H1 (upd H1 d (.dK [])) := same_new hd
      refine ⟨_, rfl, a, _, rfl, SqL.of (s2 _ _ ha), for_it walk_enum (fun i σ H' => ∃ (ndi : Nd) (v4 v5 v6 : Option V), σ = [some (.ref p), some (.bl rings), some (.ref a), some (.ref d), v4, v5, v6, none] ∧ H' a = some (.lst (ns.map V.str)) ∧ PoolAt H' p ∧ But p H H' ∧ H' d = some (.dK (ndK ndi)) ∧ Tups H' ndi ∧ nms ndi = ns.take i ∧ ∀ e ∈ ndi, e.2.2.Nodup ∧ ∀ x ∈ e.2.2, x ∈ ns)
        ⟨[], none, none, none, rfl, s2 _ _ ha, hp1.same s2, b1.trans (Same.but s2), upd_same, (fun e h => nomatch h), rfl, (fun e h => nomatch h)⟩ (fun i σ H' _ ⟨_, _, _, _, _, q, _⟩ => SqL.of q) ?_ ?_⟩
      · rintro i y σ H2 H3 hi ⟨ndi, v4, v5, v6, rfl, ha2, hp2, b2, hd2, ht2, nm, ok2⟩ ⟨T, x1, y1, rfl, hT, rfl, hx1, hy1⟩
        obtain rfl : V.int (i : Nat) = x1 := Option.some.inj hx1
        obtain ⟨n, hn, rfl⟩ : ∃ z', ns[i]? = some z' ∧ V.str z' = y1 := by simpa using hy1
        have s3 : Same H2 (upd H2 T (.tup [.int (i : Nat), .str n])) := same_new hT
        refine ⟨T, _, rfl, SqT.of upd_same, rfl, _, _, rfl, _, _, rfl, rfl, ?_⟩
        generalize upd H2 T (.tup [V.int (i : Nat), V.str n]) = H3 at s3
        refine ⟨fun σ' H' => ∃ (o : Addr) (os : List Str), σ' = [some (.ref p), some (.bl rings), some (.ref a), some (.ref d), some (.int (i : Nat)), some (.str n), some (.ref o), none] ∧ H' o = some (.lst (os.map V.str)) ∧ os.Nodup ∧ (∀ x ∈ os, x ∈ ns) ∧ Same H3 H', ?_, ?_⟩
        · refine ⟨_, rfl, rings, rfl, ?_⟩
          cases rings with
          | true => exact iteT ⟨_, rfl, a, ns, rfl, s3 _ _ ha2, nsU, fun x h => h, Same.refl _⟩
          | false =>
            refine iteF ⟨_, rfl, _, rfl, _, rfl, a, _, rfl, SqL.of (s3 _ _ ha2), fun o ho => ⟨o, ns.take i, rfl, ?_, nsU.sublist (List.take_sublist i ns), fun x h => List.mem_of_mem_take h, same_new ho⟩⟩
            rw [upd_same, cut_take, List.map_take]
        · rintro σ' H4 ⟨o, os, rfl, ho, osU, osS, s4⟩
          have s24 : Same H2 H4 := s3.trans s4
          have hp4 := hp2.same s24
          have op : o ≠ p := hp4.ne ho (strs_pool (ns := os))
          have len : os.length ≤ 5 := Nat.le_trans (len_sub osU osS) ns5
          refine ⟨_, rfl, o, rfl, ⟨_, SqL.of ho⟩, fun L hL => lc_it walk_list (fun j H' => ∃ l : List Str, H' L = some (.lst (l.map V.str)) ∧ l.Nodup ∧ (∀ x ∈ l, x ∈ os.take j) ∧ l.length ≤ j ∧ PoolAt H' p ∧ But p H4 H')
            ⟨[], upd_same, List.nodup_nil, (fun x h => nomatch h), Nat.le_refl _, hp4.same (same_new hL), Same.but (same_new hL)⟩ (fun j H' _ ⟨_, _, _, _, _, _, q⟩ => SqL.of (q _ _ ho op)) ?_ ?_⟩
          · rintro j z H5 H6 hj ⟨l, q1, q2, q3, q3b, q4, q5⟩ ⟨rfl, hz⟩
            obtain ⟨m, hm, rfl⟩ : ∃ z', os[j]? = some z' ∧ V.str z' = z := by simpa using hz
            have et : os.take (j + 1) = os.take j ++ [m] := by rw [List.take_add_one, hm] <;> rfl
            have nL : L ≠ p := hp4.new hL
            refine ⟨rfl, _, rfl, p, 3, rfl, q4, by decide, by decide, fun r H' r0 r1 pool' but => ⟨rfl, _, rfl, ?_⟩⟩
            have qL := but _ _ q1 nL
            refine ite2 (fun _ => ?_) (fun _ => ?_)
            · have new : m ∉ l := fun h => unlike_take osU hm (q3 m h)
              refine ⟨_, rfl, _, qL, ?_, l ++ [m], upd_same.trans (by rw [List.map_append] <;> rfl), ?_, ?_, ?_, pool'.same' hL hp4, But.mut (q5.trans but) hL⟩
              · rw [List.length_map] at hj ⊢
                exact small1000 (by omega)
              · rw [List.nodup_append]
                refine ⟨q2, List.nodup_cons.mpr ⟨(fun h => nomatch h), List.nodup_nil⟩, fun a ha b hb e2 => ?_⟩
                rw [List.mem_singleton.mp hb] at e2
                exact new (e2 ▸ ha)
              · intro x hx
                rw [et]
                rcases List.mem_append.mp hx with hx | hx
                · exact List.mem_append_left _ (q3 x hx)
                · exact List.mem_append_right _ hx
              · rw [List.length_append, List.length_singleton]
                omega
            · exact ⟨l, qL, q2, fun x hx => by rw [et]; exact List.mem_append_left _ (q3 x hx), by omega, pool', q5.trans but⟩
          · rintro H5 ⟨l, q1, q2, q3, q3b, q4, q5⟩
            rw [List.length_map] at q3 q3b
            refine ⟨L, _, rfl, .inl ⟨SqL.of q1, fun t ht => ?_⟩⟩
            have s6 : Same H5 (upd H5 t (.tup (l.map V.str))) := same_new ht
            have at6 : upd H5 t (.tup (l.map V.str)) t = some (.tup (l.map V.str)) := upd_same
            generalize upd H5 t (.tup (l.map V.str)) = H6 at s6 at6
            have b26 : But p H2 H6 := ((Same.but s24).trans q5).trans (Same.but s6)
            have d6 := b26 _ _ hd2 dp
            have nlen : ndi.length = i := by
              have h1 := congrArg List.length nm
              have h2 : i < ns.length := (List.getElem?_eq_some_iff.mp hn).1
              rw [List.length_take, Nat.min_eq_left (Nat.le_of_lt h2)] at h1
              rw [← h1]
              exact (List.length_map ..).symm
            refine ⟨_, rfl, _, rfl, d, _, rfl, DPut.k (k := Sum.inr n) d6 ?_, ndi ++ [(n, t, l)], _, _, _, rfl, ?_, ?_, ?_, upd_same.trans ?_, ?_, ?_, ?_⟩
            · rw [ndK_len, nlen]
              have h2 : i < ns.length := (List.getElem?_eq_some_iff.mp hn).1
              exact small1000 (by omega)
            · have q := b26 _ _ ha2 ap
              exact (upd_ne (ne_of q d6 (by intro z; cases z))).trans q
            · obtain ⟨u, v, g1, g2⟩ := q4.same s6
              exact ⟨u, v, (upd_ne dp.symm).trans g1, g2⟩
            · exact But.mut (b2.trans b26) hd0
            · have un : n ∉ nms ndi := by
                rw [nm]
                exact unlike_take nsU hn
              exact congrArg (fun l => some (HO.dK l)) ((putK_app un).trans (by unfold ndK; rw [List.map_append] <;> rfl))
            · intro e he
              have d6' : ∀ {q : Addr} {xs : List V}, H6 q = some (.tup xs) → q ≠ d := fun h => ne_of h d6 (by intro z; cases z)
              rcases List.mem_append.mp he with he | he
              · have g := b26 _ _ (ht2 e he) (hp2.ne (ht2 e he) (fun a b z => by cases z))
                exact (upd_ne (d6' g)).trans g
              · rw [List.mem_singleton.mp he]
                exact (upd_ne (d6' at6)).trans at6
            · unfold nms
              rw [List.map_append, List.take_add_one, hn]
              exact congrArg (· ++ [n]) nm
            · intro e he
              rcases List.mem_append.mp he with he | he
              · exact ok2 e he
              · rw [List.mem_singleton.mp he]
                exact ⟨q2, fun x hx => osS x (List.mem_of_mem_take (q3 x hx))⟩
      · rintro σ H2 ⟨ndi, v4, v5, v6, rfl, ha2, hp2, b2, hd2, ht2, nm, ok2⟩
        rw [List.length_map, List.take_length] at nm
        have len : ndi.length = ns.length := by
          rw [← nm]
          exact (List.length_map ..).symm
        refine ⟨_, rfl, k d ndi H2 hd0 ⟨hd2, ht2⟩ ⟨by omega, by omega, by rw [nm]; exact nsU, fun e he => nsN _ (by rw [← nm]; exact List.mem_map.mpr ⟨e, he, rfl⟩), fun e he => (ok2 e he).1, fun e he x hx => by rw [nm]; exact (ok2 e he).2 x hx⟩ hp2 b2⟩
end
end Nt
set_option Elab.async false
set_option linter.all false
set_option maxRecDepth 100000
set_option maxHeartbeats 4000000
namespace Nt
open PySem PySem.Spec PyProof.Rows L2
abbrev sTurned : Stmt := top 18
/-- the needs with those of one name put anew -/
def patch (nd : Nd) (n : Str) (t : Addr) (l : List Str) : Nd := nd.map fun e => if e.1 = n then (e.1, t, l) else e
theorem nms_patch (nd : Nd) (n : Str) (t : Addr) (l : List Str) : nms (patch nd n t l) = nms nd := by
  unfold nms patch
  rw [List.map_map]
  refine List.map_congr_left fun e _ => ?_
  show (if e.1 = n then (e.1, t, l) else e).1 = e.1
  split <;> rfl
theorem mem_patch {nd : Nd} {n : Str} {t : Addr} {l : List Str} {e} (h : e ∈ patch nd n t l) : e ∈ nd ∨ (e = (n, t, l) ∧ n ∈ nms nd) := by
  obtain ⟨e0, h0, rfl⟩ := List.mem_map.mp h
  by_cases c : e0.1 = n
  · rw [if_pos c]
    exact .inr ⟨by rw [c], List.mem_map.mpr ⟨e0, h0, c⟩⟩
  · rw [if_neg c]
    exact .inl h0
theorem putK_patch {nd : Nd} {n : Str} (t : Addr) (l : List Str) (h : n ∈ nms nd) : putK (ndK nd) (Sum.inr n) (V.ref t) = ndK (patch nd n t l) := by
  obtain ⟨e, he, en⟩ := mem_nms h
  unfold putK
  rw [if_pos]
  · unfold ndK patch
    rw [List.map_map, List.map_map]
    refine List.map_congr_left fun x _ => ?_
    show (if (Sum.inr x.1 : Key) = Sum.inr n then _ else _) = _
    by_cases c : x.1 = n
    · rw [if_pos (by rw [c])]
      show _ = (Sum.inr (if x.1 = n then (x.1, t, l) else x).1, V.ref (if x.1 = n then (x.1, t, l) else x).2.1)
      rw [if_pos c]
    · rw [if_neg (fun z => c (Sum.inr.inj z))]
      show _ = (Sum.inr (if x.1 = n then (x.1, t, l) else x).1, V.ref (if x.1 = n then (x.1, t, l) else x).2.1)
      rw [if_neg c]
  · rw [List.any_eq_true]
    exact ⟨(Sum.inr e.1, V.ref e.2.1), List.mem_map.mpr ⟨e, he, rfl⟩, by rw [en]; simp⟩
/-- a net's needs are turned -/
def spTurned : Sp := fun vs H Q _ => ∃ (p d : Addr) (nd : Nd), vs = [.ref p, .ref d] ∧ PoolAt H p ∧ NdAt H d nd ∧ Good nd ∧
  ∀ (d' : Addr) (nd' : Nd) (H' : Hp), H d' = none → NdAt H' d' nd' → Good nd' → PoolAt H' p → But p H H' → Q (.ref d') H'
section
variable {P : Program} {w : World} {K : PySem.W.Frag} {mg : Str → Option Value} {base : Heap}
theorem scTurned : FnScope ["pool", "needs", "found", "name", "need"] ["pool", "needs"] (defScope sTurned) := ⟨rfl, rfl, rfl, by decide +kernel, rfl, by decide +kernel, by decide +kernel⟩
theorem ok_turned {f fO fT : Addr} {fd fdO fdT : FuncData} (F : Fun K "_law_turned" "_law_turned" sTurned f fd) (B : Blt mg) (GO : FnOk P w K mg base CX0 2 fO fdO ["pool", "some"] (spOne K)) (gO : mg "_law_one" = some (.ref fO)) (kO : PySem.W.keepIn K (.ref fO) = true) (bO : Binds K fdO ["pool", "some"] [])
    (GT : FnOk P w K mg base CX0 1 fT fdT ["pool", "many"] spTake) (gT : mg "_law_take" = some (.ref fT)) (kT : PySem.W.keepIn K (.ref fT) = true) (bT : Binds K fdT ["pool", "many"] []) : FnOk P w K mg base CX0 3 f fd ["pool", "needs"] spTurned := by
  refine F.ok scTurned (fun vs H Q E h => ?_) (fun cdv A outer s H vs Q E hr h => ?_)
  · obtain ⟨p, d, nd, rfl, _⟩ := h
    rfl
  · obtain ⟨p, d, nd, rfl, hp, D, G, k⟩ := h
    have nd0 := scTurned.nd
    have hu := hu_of hr
    have hr1 : Room 1 _ := hr.mono (by decide)
    refine ⟨_, pss_cons (ps_set (i := 2) nd0 rfl (Or.inl rfl) pe_dnewK)
      (C8.pss_cut (ps_lock (ps_for PassesOwn.never rfl (pi_keys (pv 1)) (pg_name (i := 3) nd0 rfl (Or.inl rfl))
        (pss_one (ps_dput hu (pv 2) (pv 3) (pe_callTy call_tuple_of (by rfl) B.tuple (by decide +kernel) (pa_cons (pe_lc (own := [("need", 4)]) (g := gName 4) (by rfl) nd0 (pi_tup (pe_dget hu (pv 1) (pv 3) (fun _ _ => rfl))) (blkOk_by (own := [("need", 4)]) (N := ["pool", "needs", "found", "name", "need"]) (sc := defScope sTurned) (by decide +kernel))
          (fun _ _ _ _ _ => pg_name (i := 4) nd0 rfl (Or.inl rfl)) (fun _ _ _ _ _ => pts_one (pt_cmpR op_gt (pe_call GT hr1 (by rfl) gT kT bT .nil pass0 (pa_cons (pv 0) (pa_cons pe_int pa_nil))) pe_int (nomark _))) (fun _ _ _ _ _ => pv 4)) pa_nil)) rfl))))
      (pss_cons (ps_par (i := 3) (j := 4) (by rfl) nd0 rfl rfl (by decide) rfl rfl (pa_cons (pe_call GO hr (by rfl) gO kO bO .nil pass0 (pa_cons (pv 0) (pa_cons (pe_callTy (call_list_dK (by rfl)) (by rfl) B.list (by decide +kernel) (pa_cons (pv 1) pa_nil)) pa_nil)))
          (pa_cons (pe_call GO hr (by rfl) gO kO bO .nil pass0 (pa_cons (pv 0) (pa_cons (pe_callTy (call_list_dK (by rfl)) (by rfl) B.list (by decide +kernel) (pa_cons (pv 1) pa_nil)) pa_nil))) pa_nil)) (by rfl))
      (pss_cons (ps_if (PW.pt (pw_and (pt_cmpR op_notIn_seq (pv 4) (pe_dget hu (pv 2) (pv 3) (fun _ _ => rfl)) (by rfl)) (pw_and1 (pt_cmpR op_eq (pe_call GT hr1 (by rfl) gT kT bT .nil pass0 (pa_cons (pv 0) (pa_cons pe_int pa_nil))) pe_int (nomark _)))))
        (pss_one (ps_dput hu (pv 2) (pv 3) (pe_op op_catA (pe_dget hu (pv 2) (pv 3) (fun _ _ => rfl)) (pe_tup (pa_cons (pv 4) pa_nil))) rfl)) pss_nil)
      (pss_one (ps_ret (pv 2)))))), ?_⟩
    intro d2 hd2
    have nd5 := G.five
    have d2p : d2 ≠ p := hp.new hd2
    have d2d : d2 ≠ d := fun z => by
      rw [z, D.1] at hd2
      cases hd2
    refine ⟨fun σ H' => ∃ (nd2 : Nd) (v3 : Option V), σ = [some (.ref p), some (.ref d), some (.ref d2), v3, none] ∧ PoolAt H' p ∧ But p H H' ∧ NdAt H' d2 nd2 ∧ Good nd2 ∧ nms nd2 = nms nd, ?_, ?_⟩
    · have ld : upd H d2 (.dK []) d = some (.dK (ndK nd)) := (upd_ne d2d.symm).trans D.1
      refine ⟨d, _, ld, mut_dK, fun od => ?_⟩
      have f0 : upd (upd H d2 (.dK [])) d (.frz od (.dK (ndK nd))) d = some (.frz od (.dK (ndK nd))) := upd_same
      have f1 : upd (upd H d2 (.dK [])) d (.frz od (.dK (ndK nd))) d2 = some (.dK []) := (upd_ne d2d).trans upd_same
      have f2 : ∀ q o, H q = some o → q ≠ d → upd (upd H d2 (.dK [])) d (.frz od (.dK (ndK nd))) q = some o := fun q o h n => by
        rw [upd_ne n, upd_ne (ne_of_none h hd2)]
        exact h
      generalize upd (upd H d2 (.dK [])) d (.frz od (.dK (ndK nd))) = H0 at f0 f1 f2
      have dp : d ≠ p := D.ne hp
      have hp0 : PoolAt H0 p := by
        obtain ⟨a, b, h1, h2⟩ := hp
        exact ⟨a, b, f2 _ _ h1 dp.symm, h2⟩
      have t0 : Tups H0 nd := fun e he => f2 _ _ (D.2 e he) (ne_of (D.2 e he) D.1 (by intro z; cases z))
      refine ⟨_, rfl, d, od, rfl, .inl ⟨ndK nd, f0, for_it walk_keys (fun i σ H' => ∃ (nd2 : Nd) (v3 : Option V), σ = [some (.ref p), some (.ref d), some (.ref d2), v3, none] ∧ PoolAt H' p ∧ (∀ q o, H0 q = some o → q ≠ p → q ≠ d2 → H' q = some o) ∧ H' d2 = some (.dK (ndK nd2)) ∧ Tups H' nd2 ∧ nms nd2 = (nms nd).take i ∧ ∀ e ∈ nd2, e.2.2.Nodup ∧ ∀ x ∈ e.2.2, x ∈ nms nd)
        ⟨[], none, rfl, hp0, fun q o h _ _ => h, f1, (fun e h => nomatch h), rfl, (fun e h => nomatch h)⟩ (fun i σ H' _ ⟨_, _, _, _, q, _⟩ => q _ _ f0 dp d2d.symm) ?_ ?_⟩⟩
      · rintro i y σ H2 H3 hi ⟨nd2, v3, rfl, hp2, keep, hd3, ht3, nm, ok3⟩ ⟨rfl, k0, v0, hk, rfl⟩
        obtain ⟨e, he, rfl, rfl⟩ := ndK_get hk
        have mem := List.mem_of_getElem? he
        have hn : (nms nd)[i]? = some e.1 := by
          unfold nms
          rw [List.getElem?_map, he] <;> rfl
        have e0 := t0 e mem
        have ep : e.2.1 ≠ p := hp0.ne e0 (fun a b z => by cases z)
        have ed2 : e.2.1 ≠ d2 := ne_of e0 f1 (by intro z; cases z)
        have eU := G.du e mem
        have e5 := G.few e mem
        have at0 : H3 e.2.1 = some (.tup (e.2.2.map V.str)) := keep _ _ e0 ep ed2
        refine ⟨_, rfl, _, rfl, d, _, rfl, (val_ent G.nn mem) ▸ .inl ⟨_, Sum.inr e.1, .inr ⟨od, keep _ _ f0 dp d2d.symm⟩, rfl, rfl⟩, e.2.1, rfl, ⟨_, SqT.of at0⟩, fun L hL => ?_⟩
        have nL : L ≠ p := hp2.new hL
        refine lc_it walk_tup (fun j H' => ∃ l : List Str, H' L = some (.lst (l.map V.str)) ∧ l.Nodup ∧ (∀ x ∈ l, x ∈ e.2.2.take j) ∧ l.length ≤ j ∧ PoolAt H' p ∧ But p H3 H')
          ⟨[], upd_same, List.nodup_nil, (fun x h => nomatch h), Nat.le_refl _, hp2.same (same_new hL), Same.but (same_new hL)⟩ (fun j H' _ ⟨_, _, _, _, _, _, q⟩ => SqT.of (q _ _ at0 ep)) ?_ ?_
        · rintro j z H5 H6 hj ⟨l, q1, q2, q3, q3b, q4, q5⟩ ⟨rfl, hz⟩
          obtain ⟨m, hm, rfl⟩ : ∃ z', e.2.2[j]? = some z' ∧ V.str z' = z := by simpa using hz
          have et : e.2.2.take (j + 1) = e.2.2.take j ++ [m] := by rw [List.take_add_one, hm] <;> rfl
          refine ⟨rfl, _, rfl, p, 4, rfl, q4, by decide, by decide, fun r H' r0 r1 pool' but => ⟨_, _, rfl, rfl, _, rfl, ?_⟩⟩
          have qL := but _ _ q1 nL
          refine ite2 (fun _ => ?_) (fun _ => ?_)
          · have new : m ∉ l := fun h => unlike_take eU hm (q3 m h)
            refine ⟨_, rfl, _, qL, ?_, l ++ [m], upd_same.trans (by rw [List.map_append] <;> rfl), ?_, ?_, ?_, pool'.same' hL hp2, But.mut (q5.trans but) hL⟩
            · rw [List.length_map] at hj ⊢
              exact small1000 (by omega)
            · rw [List.nodup_append]
              refine ⟨q2, List.nodup_cons.mpr ⟨(fun h => nomatch h), List.nodup_nil⟩, fun a ha b hb e2 => ?_⟩
              rw [List.mem_singleton.mp hb] at e2
              exact new (e2 ▸ ha)
            · intro x hx
              rw [et]
              rcases List.mem_append.mp hx with hx | hx
              · exact List.mem_append_left _ (q3 x hx)
              · exact List.mem_append_right _ hx
            · rw [List.length_append, List.length_singleton]
              omega
          · exact ⟨l, qL, q2, fun x hx => by rw [et]; exact List.mem_append_left _ (q3 x hx), by omega, pool', q5.trans but⟩
        · rintro H5 ⟨l, q1, q2, q3, q3b, q4, q5⟩
          rw [List.length_map] at q3 q3b
          refine ⟨L, _, rfl, .inl ⟨SqL.of q1, fun t ht => ?_⟩⟩
          have s6 : Same H5 (upd H5 t (.tup (l.map V.str))) := same_new ht
          have at6 : upd H5 t (.tup (l.map V.str)) t = some (.tup (l.map V.str)) := upd_same
          generalize upd H5 t (.tup (l.map V.str)) = H6 at s6 at6
          have b26 : But p H3 H6 := q5.trans (Same.but s6)
          have d6 := b26 _ _ hd3 d2p
          have nlen : nd2.length = i := by
            have h1 := congrArg List.length nm
            have h2 : i < (nms nd).length := (List.getElem?_eq_some_iff.mp hn).1
            rw [List.length_take, Nat.min_eq_left (Nat.le_of_lt h2)] at h1
            rw [← h1]
            exact (List.length_map ..).symm
          refine ⟨_, rfl, _, rfl, d2, _, rfl, DPut.k (k := Sum.inr e.1) d6 ?_, nd2 ++ [(e.1, t, l)], _, rfl, ?_, fun q o h n1 n2 => (upd_ne n2).trans (b26 _ _ (keep q o h n1 n2) n1), upd_same.trans ?_, ?_, ?_, ?_⟩
          · rw [ndK_len, nlen]
            rw [ndK_len] at hi
            exact small1000 (by omega)
          · obtain ⟨u, v, g1, g2⟩ := q4.same s6
            exact ⟨u, v, (upd_ne d2p.symm).trans g1, g2⟩
          · have un : e.1 ∉ nms nd2 := by
              rw [nm]
              exact unlike_take G.nn hn
            exact congrArg (fun l => some (HO.dK l)) ((putK_app un).trans (by unfold ndK; rw [List.map_append] <;> rfl))
          · intro e' he'
            have d6' : ∀ {q : Addr} {xs : List V}, H6 q = some (.tup xs) → q ≠ d2 := fun h => ne_of h d6 (by intro z; cases z)
            rcases List.mem_append.mp he' with he' | he'
            · have g := b26 _ _ (ht3 e' he') (hp2.ne (ht3 e' he') (fun a b z => by cases z))
              exact (upd_ne (d6' g)).trans g
            · rw [List.mem_singleton.mp he']
              exact (upd_ne (d6' at6)).trans at6
          · have nmA : nms (nd2 ++ [(e.1, t, l)]) = nms nd2 ++ [e.1] := by unfold nms; rw [List.map_append] <;> rfl
            rw [nmA, nm, List.take_add_one, hn] <;> rfl
          · intro e' he'
            rcases List.mem_append.mp he' with he' | he'
            · exact ok3 e' he'
            · rw [List.mem_singleton.mp he']
              exact ⟨q2, fun x hx => G.sub e mem x (List.mem_of_mem_take (q3 x hx))⟩
      · rintro σ H2 ⟨nd2, v3, rfl, hp2, keep, hd3, ht3, nm, ok3⟩
        have full : (nms nd).take (ndK nd).length = nms nd := List.take_of_length_le (by rw [ndK_len]; exact Nat.le_of_eq (List.length_map ..))
        rw [full] at nm
        have len : nd2.length = nd.length := by
          have h1 := congrArg List.length nm
          unfold nms at h1
          rw [List.length_map, List.length_map] at h1
          exact h1
        have at0 := keep _ _ f0 dp d2d.symm
        refine ⟨at0, nd2, v3, rfl, ?_, ?_, ⟨(upd_ne d2d).trans hd3, fun e he => (upd_ne (fun z => ?_)).trans (ht3 e he)⟩, ⟨by rw [len]; exact G.one, by rw [len]; exact G.five, by rw [nm]; exact G.nn, fun e he => ?_, fun e he => (ok3 e he).1, fun e he x hx => by rw [nm]; exact (ok3 e he).2 x hx⟩, nm⟩
        · obtain ⟨a, b, g1, g2⟩ := hp2
          exact ⟨a, b, (upd_ne dp.symm).trans g1, g2⟩
        · intro q o h n
          by_cases c : q = d
          · subst c
            rw [D.1] at h
            cases h
            exact upd_same
          · exact (upd_ne c).trans (keep _ _ (f2 q o h c) n (ne_of_none h hd2))
        · have g := ht3 e he
          rw [z, at0] at g
          cases g
        · have : e.1 ∈ nms nd := by
            rw [← nm]
            exact List.mem_map.mpr ⟨e, he, rfl⟩
          obtain ⟨e', he', ee⟩ := mem_nms this
          rw [← ee]
          exact G.ok e' he'
    · rintro σ H1 ⟨nd2, v3, rfl, hp1, b1, D2, G2, nm⟩
      have dp : d ≠ p := D.ne hp
      have hd1 := b1 _ _ D.1 dp
      have nlen : (nms nd).length = nd.length := List.length_map ..
      have one := G.one
      refine ⟨_, rfl, _, rfl, d, _, rfl, hd1, fun l1 hl1 => ?_⟩
      have s2 : Same H1 (upd H1 l1 (.lst ((ndK nd).map fun kv => kV kv.1))) := same_new hl1
      have e2 : upd H1 l1 (.lst ((ndK nd).map fun kv => kV kv.1)) l1 = some (.lst ((nms nd).map V.str)) := by rw [upd_same, ndK_keys]
      generalize upd H1 l1 (.lst ((ndK nd).map fun kv => kV kv.1)) = H2 at s2 e2
      refine ⟨p, l1, _, rfl, hp1.same s2, SqL.of e2, hp1.new hl1, by rw [List.length_map]; omega, by rw [List.length_map]; omega, fun j1 v1 H3 hj1 hp3 b3 => ?_⟩
      obtain ⟨n, hn, rfl⟩ : ∃ z', (nms nd)[j1]? = some z' ∧ V.str z' = v1 := by simpa using hj1
      have b13 : But p H1 H3 := (Same.but s2).trans b3
      refine ⟨_, rfl, _, rfl, d, _, rfl, b13 _ _ hd1 dp, fun l2 hl2 => ?_⟩
      have s4 : Same H3 (upd H3 l2 (.lst ((ndK nd).map fun kv => kV kv.1))) := same_new hl2
      have e4 : upd H3 l2 (.lst ((ndK nd).map fun kv => kV kv.1)) l2 = some (.lst ((nms nd).map V.str)) := by rw [upd_same, ndK_keys]
      generalize upd H3 l2 (.lst ((ndK nd).map fun kv => kV kv.1)) = H4 at s4 e4
      refine ⟨p, l2, _, rfl, hp3.same s4, SqL.of e4, hp3.new hl2, by rw [List.length_map]; omega, by rw [List.length_map]; omega, fun j2 v2 H5 hj2 hp5 b5 => ?_⟩
      obtain ⟨m, hm, rfl⟩ : ∃ z', (nms nd)[j2]? = some z' ∧ V.str z' = v2 := by simpa using hj2
      have b15 : But p H1 H5 := (b13.trans (Same.but s4)).trans b5
      have D5 := D2.but hp1 b15
      have nIn : n ∈ nms nd2 := by rw [nm]; exact List.mem_of_getElem? hn
      have mIn : m ∈ nms nd2 := by rw [nm]; exact List.mem_of_getElem? hm
      have ent := mem_look G2.nn nIn
      refine ⟨_, _, rfl, ?_⟩
      have at5 := D5.2 _ ent
      have dg : ∀ {Hx : Hp}, Hx d2 = some (.dK (ndK nd2)) → DGet Hx d2 (.str n) (some (.ref (look nd2 n).1)) := fun h => (val_name G2.nn nIn) ▸ DGet.k (k := Sum.inr n) h
      refine ⟨_, rfl, _, rfl, _, rfl, d2, _, rfl, dg D5.1, _, _, rfl, .inr (SqT.of at5), rfl, flat_strL _, !decide (m ∈ (look nd2 n).2), congrArg V.bl ((if_pos rfl).trans (congrArg not (inV_dec m _))), ?_⟩
      by_cases c : m ∈ (look nd2 n).2
      · rw [decide_eq_true c]
        exact iteF ⟨_, rfl, k d2 nd2 H5 hd2 D5 G2 hp5 (b1.trans b15)⟩
      · rw [decide_eq_false c]
        refine iteT ⟨_, rfl, p, 2, rfl, hp5, by decide, by decide, fun r H6 r0 r1 hp6 b6 => ⟨rfl, _, rfl, ?_⟩⟩
        have b16 := b15.trans b6
        have D6 := D5.but hp5 b6
        refine ite2 (fun _ => ?_) (fun _ => ⟨_, rfl, k d2 nd2 H6 hd2 D6 G2 hp6 (b1.trans b16)⟩)
        have U : ((look nd2 n).2 ++ [m]).Nodup := by
          rw [List.nodup_append]
          refine ⟨G2.du _ ent, List.nodup_cons.mpr ⟨(fun h => nomatch h), List.nodup_nil⟩, fun a ha b hb e => ?_⟩
          rw [List.mem_singleton.mp hb] at e
          exact c (e ▸ ha)
        have fin : ∀ (t : Addr) (H7 : Hp), Same H6 H7 → H7 t = some (.tup (((look nd2 n).2 ++ [m]).map V.str)) → Q (.ref d2) (upd H7 d2 (.dK (putK (ndK nd2) (Sum.inr n) (.ref t)))) := fun t H7 s7 e7 => by
          rw [putK_patch t ((look nd2 n).2 ++ [m]) nIn]
          have D7 := D6.same s7
          have len : (patch nd2 n t ((look nd2 n).2 ++ [m])).length = nd2.length := List.length_map ..
          have ne7 : ∀ {q : Addr} {xs : List V}, H7 q = some (.tup xs) → q ≠ d2 := fun h => ne_of h D7.1 (by intro z; cases z)
          refine k d2 (patch nd2 n t ((look nd2 n).2 ++ [m])) _ hd2 ⟨upd_same, fun e he => ?_⟩ ⟨by rw [len]; exact G2.one, by rw [len]; exact G2.five, by rw [nms_patch]; exact G2.nn, fun e he => ?_, fun e he => ?_, fun e he x hx => ?_⟩ ?_ ?_
          · rcases mem_patch he with he | ⟨rfl, _⟩
            · exact (upd_ne (ne7 (D7.2 e he))).trans (D7.2 e he)
            · exact (upd_ne (ne7 e7)).trans e7
          · rcases mem_patch he with he | ⟨rfl, _⟩
            · exact G2.ok e he
            · exact (show NmOk n from G2.ok (n, look nd2 n) ent)
          · rcases mem_patch he with he | ⟨rfl, _⟩
            · exact G2.du e he
            · exact U
          · rw [nms_patch]
            rcases mem_patch he with he | ⟨rfl, _⟩
            · exact G2.sub e he x hx
            · rcases List.mem_append.mp hx with hx | hx
              · exact G2.sub _ ent x hx
              · rw [List.mem_singleton.mp hx]
                exact mIn
          · obtain ⟨a, b, g1, g2⟩ := hp6.same s7
            exact ⟨a, b, (upd_ne d2p.symm).trans g1, g2⟩
          · exact But.mut ((b1.trans b16).trans (Same.but s7)) hd2
        have few := G2.few _ ent
        refine ⟨_, rfl, _, rfl, d2, _, rfl, dg D6.1, _, rfl, (by show 1 ≤ sizeLine; decide), fun t1 ht1 => ?_⟩
        have s7 : Same H6 (upd H6 t1 (.tup [.str m])) := same_new ht1
        have e7 : upd H6 t1 (.tup [.str m]) t1 = some (.tup [.str m]) := upd_same
        generalize upd H6 t1 (.tup [V.str m]) = H7 at s7 e7
        have put : ∀ (t : Addr) (H8 : Hp), Same H6 H8 → DPut H8 d2 (.str n) (.ref t) (upd H8 d2 (.dK (putK (ndK nd2) (Sum.inr n) (.ref t)))) := fun t H8 s8 => DPut.k (k := Sum.inr n) (D6.same s8).1 (small1000 (by rw [ndK_len]; have := G2.five; omega))
        refine ⟨_, _, _, _, rfl, rfl, SqT.of (s7 _ _ (D6.2 _ ent)), SqT.of e7, ?_, fun e => ?_, fun _ e => (by cases e), fun _ _ t ht => ?_⟩
        · rw [List.length_map]
          exact Nat.le_of_lt (small1000 (by show (look nd2 n).2.length + 1 ≤ 1000; have : (look nd2 n).2.length ≤ 5 := few; omega))
        · have nil : (look nd2 n).2 = [] := List.map_eq_nil_iff.mp e
          exact ⟨_, rfl, _, rfl, d2, _, rfl, put t1 H7 s7, _, rfl, fin t1 H7 s7 (by rw [nil]; exact e7)⟩
        · have s8 : Same H6 (upd H7 t (.tup (((look nd2 n).2.map V.str) ++ [V.str m]))) := s7.trans (same_new ht)
          exact ⟨_, rfl, _, rfl, d2, _, rfl, put t _ s8, _, rfl, fin t _ s8 (upd_same.trans (by rw [List.map_append] <;> rfl))⟩
end
end Nt
set_option Elab.async false
set_option linter.all false
set_option maxRecDepth 100000
set_option maxHeartbeats 4000000
namespace Nt
open PySem PySem.Spec PyProof.Rows L2
abbrev sBelow : Stmt := top 19
theorem ne_deep {X : Cx} {K : PySem.W.Frag} (e : X.K = K) (hu : X.A.units + 64 < cLine) : OpR X (compareOp .NotEq) (rNeD K) := e ▸ op_neD hu
theorem eq_deep {X : Cx} {K : PySem.W.Frag} (e : X.K = K) (hu : X.A.units + 64 < cLine) : OpR X (compareOp .Eq) (rEqD K) := e ▸ op_eqD hu
theorem NdAt.rd {H : Hp} {d : Addr} {nd : Nd} (h : NdAt H d nd) : Rd H d (.dK (ndK nd)) := .inl h.1
/-- the needs of a name that are not the other's -/
def more (B : Nd) (e : Str × Addr × List Str) : List Str := e.2.2.filter fun x => decide (x ∉ (look B e.1).2)
theorem below_more {A B : Nd} (GB : Good B) (same : ∀ n, n ∈ nms A ↔ n ∈ nms B) : (A.filter fun e => !decide (more B e = [])).map (·.1) = [] ↔ Below A B := by
  rw [List.map_eq_nil_iff, List.filter_eq_nil_iff]
  constructor
  · refine fun h => ⟨same, fun p hp => ?_⟩
    obtain ⟨e, he, h1, h2⟩ := mem_pairs.mp hp
    have none : more B e = [] := by
      have q := h e he
      simpa using q
    have nB : e.1 ∈ nms B := (same _).mp (List.mem_map.mpr ⟨e, he, rfl⟩)
    refine mem_pairs.mpr ⟨_, mem_look GB.nn nB, h1, ?_⟩
    have q := List.filter_eq_nil_iff.mp none p.2 h2
    simpa using q
  · intro h e he
    have nB : e.1 ∈ nms B := (same _).mp (List.mem_map.mpr ⟨e, he, rfl⟩)
    have none : more B e = [] := by
      unfold more
      rw [List.filter_eq_nil_iff]
      intro x hx
      have q := h.2 (e.1, x) (mem_pairs.mpr ⟨e, he, rfl, hx⟩)
      obtain ⟨e', he', h1, h2⟩ := mem_pairs.mp q
      have l1 := look_ent GB.nn he'
      rw [show e'.1 = e.1 from h1] at l1
      rw [l1]
      simpa using h2
    rw [none]
    simp
def spBelow : Sp := fun vs H Q _ => ∃ (d1 d2 : Addr) (A B : Nd), vs = [.ref d1, .ref d2] ∧ NdAt H d1 A ∧ NdAt H d2 B ∧ Good A ∧ Good B ∧ ∀ (b : Bool) (H' : Hp), (b = true ↔ Below A B) → Same H H' → Q (.bl b) H'
def scOuter : Scope := { kind := .function, names := [(".0", .local), ("name", .cell), ("one", .free), ("other", .free)], isGenerator := false, isCoroutine := false }
section
variable {P : Program} {w : World} {K : PySem.W.Frag} {mg : Str → Option Value} {base : Heap}
theorem scBelow : FnScope ["one", "other", "name", "need"] ["one", "other"] (defScope sBelow) := ⟨rfl, rfl, rfl, by decide +kernel, rfl, by decide +kernel, by decide +kernel⟩
theorem names_go {K : PySem.W.Frag} {a b d : Addr} {i : Nat} {H : Hp} {nd : Nd} {Q : VK} (h0 : (L2.start ["one", "other", "name", "need"] [V.ref a, V.ref b])[i]? = some (some (.ref d))) (hi : i ≠ 2) (D : NdAt H d nd) (G : Good nd)
    (q : ∀ (l : Addr) (ys : List Str) (H' : Hp), H' l = some (.lst (ys.map V.str)) → sortedS ys = true → ys.Nodup → (∀ x, x ∈ ys ↔ x ∈ nms nd) → Same H H' → Q (.ref l) H') :
    tCB (rSortedS K) (tCons (tLockE (tLc (iKeys (tVar i)) (gName 2) tYes (tCB (fun xs H Q => ∃ a, xs = [V.str a] ∧ Q (V.str a) H) (tCons (tVar 2) tNil)) (List.map (fun x => x.snd) [(Str.ofString "name", 2)]))) tNil) (L2.start ["one", "other", "name", "need"] [V.ref a, V.ref b]) H Q := by
  refine ⟨d, _, D.1, mut_dK, fun od => ⟨_, h0, d, od, rfl, .inl ⟨ndK nd, upd_same, fun L hL => lc_it walk_keys (fun j H' => H' L = some (.lst (((nms nd).take j).map V.str)) ∧ Same (upd H d (.frz od (.dK (ndK nd)))) H') ⟨upd_same, same_new hL⟩ (fun j H' _ p => p.2 _ _ upd_same) ?_ ?_⟩⟩⟩
  · rintro j x H1 H2 hj ⟨p1, p2⟩ ⟨rfl, k0, v0, hk, rfl⟩
    obtain ⟨e, he, rfl, rfl⟩ := ndK_get hk
    have hn : (nms nd)[j]? = some e.1 := by
      unfold nms
      rw [List.getElem?_map, he] <;> rfl
    refine ⟨rfl, _, rfl, e.1, rfl, _, p1, ?_, upd_same.trans ?_, Same.mut p2 hL⟩
    · rw [List.length_map, List.length_take]
      exact small1000 (by rw [ndK_len] at hj; have := G.five; omega)
    · rw [List.take_add_one, hn, List.map_append] <;> rfl
  · rintro H' ⟨p1, p2⟩
    have full : (nms nd).take (ndK nd).length = nms nd := List.take_of_length_le (by rw [ndK_len]; exact Nat.le_of_eq (List.length_map ..))
    rw [full] at p1
    have nLd : L ≠ d := fun z => by
      rw [z, upd_same] at hL
      cases hL
    have s1 := same_lock D.1 p2
    refine ⟨p2 _ _ upd_same, L, nms nd, rfl, SqL.of ((upd_ne nLd).trans p1), ?_, fun ys p pm srt hp => q p ys _ upd_same srt (pm.nodup_iff.mpr G.nn) (fun x => pm.mem_iff) (s1.trans (same_new hp))⟩
    have := G.five
    have e : (nms nd).length = nd.length := List.length_map ..
    omega
theorem ok_below {f : Addr} {fd : FuncData} (F : Fun K "_law_below" "_law_below" sBelow f fd) (B : Blt mg) : FnOk P w K mg base CX0 1 f fd ["one", "other"] spBelow := by
  refine F.ok scBelow (fun vs H Q E h => ?_) (fun cdv A outer s H vs Q E hr h => ?_)
  · obtain ⟨d1, d2, A, B, rfl, _⟩ := h
    rfl
  · obtain ⟨d1, d2, NA, NB, rfl, D1, D2, GA, GB, k⟩ := h
    have nd0 := scBelow.nd
    have hu := hu_of hr
    refine ⟨_, pss_cons (ps_if (pt_cmpR (ne_deep (K := K) rfl hr.units)
        (pe_callB cr_sortedS (by rfl) B.sorted (by decide +kernel) (pa_cons (pe_lock (pe_lc (own := [("name", 2)]) (g := gName 2) (tt := tYes) (by rfl) nd0 (pi_keys (pv 0)) (blkOk_by (own := [("name", 2)]) (N := ["one", "other", "name", "need"]) (sc := defScope sBelow) (by decide +kernel))
          (fun _ _ _ _ _ => pg_name (i := 2) nd0 rfl (Or.inl rfl)) (fun _ _ _ _ _ => pts_nil) (fun _ _ _ _ _ => pe_callTy SkE.call_str_str (by rfl) B.str (by decide +kernel) (pa_cons (pv 2) pa_nil)))) pa_nil))
        (pe_callB cr_sortedS (by rfl) B.sorted (by decide +kernel) (pa_cons (pe_lock (pe_lc (own := [("name", 2)]) (g := gName 2) (tt := tYes) (by rfl) nd0 (pi_keys (pv 1)) (blkOk_by (own := [("name", 2)]) (N := ["one", "other", "name", "need"]) (sc := defScope sBelow) (by decide +kernel))
          (fun _ _ _ _ _ => pg_name (i := 2) nd0 rfl (Or.inl rfl)) (fun _ _ _ _ _ => pts_nil) (fun _ _ _ _ _ => pe_callTy SkE.call_str_str (by rfl) B.str (by decide +kernel) (pa_cons (pv 2) pa_nil)))) pa_nil)) (nomark _)) (pss_one (ps_ret pe_bl)) pss_nil)
      (pss_one (ps_ret (pe_cmpR (eq_deep (K := K) rfl hr.units) (pe_lock (pe_lc (own := [("name", 2)]) (g := gName 2) (by rfl) nd0 (pi_keys (pv 0)) (blkOk_by (own := [("name", 2)]) (N := ["one", "other", "name", "need"]) (sc := defScope sBelow) (by decide +kernel))
          (fun _ _ _ _ _ => pg_name (i := 2) nd0 rfl (Or.inr rfl))
          (fun _ _ _ _ _ => pts_one (pt_cmpR (ne_deep (K := K) rfl hr.units) (pe_lc (own := [("need", 3)]) (g := gName 3) (by rfl) nd0 (p_tup (K := K) rfl (pe_dget hu (pv 0) (pv 2) (fun _ _ => rfl))) (blkOk_by (own := [("need", 3)]) (N := ["one", "other", "name", "need"]) (sc := relS scOuter (defScope sBelow)) (by decide +kernel))
            (fun _ _ _ _ _ => pg_name (i := 3) nd0 rfl (Or.inl rfl)) (fun _ _ _ _ _ => pts_one (pt_cmpR (nin_seq (K := K) rfl) (pv 3) (pe_dget hu (pv 1) (pv 2) (fun _ _ => rfl)) (by rfl))) (fun _ _ _ _ _ => pv 3)) (pe_lst pa_nil) (nomark _)))
          (fun _ _ _ _ _ => pv 2))) (pe_lst pa_nil) (nomark _)))), ?_⟩
    refine names_go rfl (by decide) D1 GA fun l1 ys Ha a1 sy uy my s1 => ?_
    refine names_go rfl (by decide) (D2.same s1) GB fun l2 zs Hb a2 sz uz mz s2 => ?_
    have s12 := s1.trans s2
    refine ⟨.list (ys.map .str), .list (zs.map .str), .lst (SqL.of (s2 _ _ a1)) (dp_strs _), .lst (SqL.of a2) (dp_strs _), shaped_strs fun n h => GA.lay ((my n).mp h), shaped_strs fun n h => GB.lay ((mz n).mp h), _, rfl, ?_⟩
    have ev : PyData.eqv (.list (ys.map .str)) (.list (zs.map .str)) = decide (ys = zs) := eqv_strs _ _
    rw [ev]
    by_cases hn : ys = zs
    · rw [decide_eq_true hn]
      refine iteF ?_
      have same : ∀ n, n ∈ nms NA ↔ n ∈ nms NB := fun n => by rw [← my, ← mz, hn]
      have D1b := D1.same s12
      have D2b := D2.same s12
      refine ⟨d1, _, D1b.1, mut_dK, fun od => ?_⟩
      have f0 : upd Hb d1 (.frz od (.dK (ndK NA))) d1 = some (.frz od (.dK (ndK NA))) := upd_same
      have back : ∀ {H'}, Same (upd Hb d1 (.frz od (.dK (ndK NA)))) H' → Same Hb (upd H' d1 (.dK (ndK NA))) := fun s => same_lock D1b.1 s
      have r0 : Rd (upd Hb d1 (.frz od (.dK (ndK NA)))) d2 (.dK (ndK NB)) := by
        by_cases e : d2 = d1
        · subst e
          have q := D1b.1.symm.trans D2b.1
          exact .inr ⟨od, f0.trans (congrArg (fun o => o.map (HO.frz od)) q)⟩
        · exact .inl ((upd_ne e).trans D2b.1)
      have tA : Tups (upd Hb d1 (.frz od (.dK (ndK NA)))) NA := fun e he => by
        rw [upd_ne (ne_of (D1b.2 e he) D1b.1 (by intro z; cases z))]
        exact D1b.2 e he
      have tB : Tups (upd Hb d1 (.frz od (.dK (ndK NA)))) NB := fun e he => by
        rw [upd_ne (ne_of (D2b.2 e he) D1b.1 (by intro z; cases z))]
        exact D2b.2 e he
      have free0 : ∀ q, upd Hb d1 (.frz od (.dK (ndK NA))) q = none → q ≠ d1 := fun q h z => by
        rw [z, upd_same] at h
        cases h
      generalize upd Hb d1 (.frz od (.dK (ndK NA))) = H0 at f0 back r0 tA tB free0
      have r2 : ∀ {H'}, Same H0 H' → Rd H' d2 (.dK (ndK NB)) := fun s => by
        rcases r0 with h | ⟨o, h⟩
        · exact .inl (s _ _ h)
        · exact .inr ⟨o, s _ _ h⟩
      refine ⟨_, rfl, d1, od, rfl, .inl ⟨ndK NA, f0, fun L hL => lc_it walk_keys (fun i H' => H' L = some (.lst ((((NA.take i).filter fun e => !decide (more NB e = [])).map (·.1)).map V.str)) ∧ Same H0 H') ⟨upd_same, same_new hL⟩ (fun i H' _ p => p.2 _ _ f0) ?_ ?_⟩⟩
      · rintro i x H1 H2 hi ⟨p1, p2⟩ ⟨rfl, k0, v0, hk, rfl⟩
        obtain ⟨e, he, rfl, rfl⟩ := ndK_get hk
        have mem := List.mem_of_getElem? he
        have nB : e.1 ∈ nms NB := (same _).mp (List.mem_map.mpr ⟨e, mem, rfl⟩)
        have mB := mem_look GB.nn nB
        have at1 := p2 _ _ (tA e mem)
        have at2 := p2 _ _ (tB _ mB)
        have e5 := GA.few e mem
        refine ⟨rfl, _, rfl, _, rfl, d1, _, rfl, (val_ent GA.nn mem) ▸ .inl ⟨_, Sum.inr e.1, .inr ⟨od, p2 _ _ f0⟩, rfl, rfl⟩, e.2.1, rfl, ⟨_, SqT.of at1⟩, fun E hE => ?_⟩
        refine lc_it walk_tup (fun j H' => H' E = some (.lst (((e.2.2.take j).filter fun x => decide (x ∉ (look NB e.1).2)).map V.str)) ∧ Same H2 H') ⟨upd_same, same_new hE⟩ (fun j H' _ q => SqT.of (q.2 _ _ at1)) ?_ ?_
        · rintro j z H3 H4 hj ⟨q1, q2⟩ ⟨rfl, hz⟩
          obtain ⟨n, hn, rfl⟩ : ∃ z', e.2.2[j]? = some z' ∧ V.str z' = z := by simpa using hz
          have et : e.2.2.take (j + 1) = e.2.2.take j ++ [n] := by rw [List.take_add_one, hn] <;> rfl
          refine ⟨rfl, _, rfl, _, rfl, _, rfl, d2, _, rfl, (val_ent GB.nn mB) ▸ .inl ⟨_, Sum.inr e.1, r2 (p2.trans q2), rfl, rfl⟩, _, _, rfl, .inr (SqT.of (q2 _ _ at2)), rfl, ?_, _, rfl, ?_⟩
          · exact flat_strL _
          · rw [show (if true = true then !inV (V.str n) ((look NB e.1).2.map V.str) else inV (V.str n) ((look NB e.1).2.map V.str)) = !inV (V.str n) ((look NB e.1).2.map V.str) from rfl, inV_dec, et, List.filter_append]
            by_cases c : n ∈ (look NB e.1).2
            · rw [decide_eq_true c]
              refine iteF ⟨?_, q2⟩
              rw [List.filter_cons_of_neg (by simpa using c), List.filter_nil, List.append_nil]
              exact q1
            · rw [decide_eq_false c]
              refine iteT ⟨_, rfl, _, q1, ?_, upd_same.trans ?_, Same.mut q2 hE⟩
              · rw [List.length_map]
                have h1 := List.length_filter_le (fun x => decide (x ∉ (look NB e.1).2)) (e.2.2.take j)
                rw [List.length_take] at h1
                exact small1000 (by omega)
              · rw [List.filter_cons_of_pos (by simpa using c), List.filter_nil, List.map_append] <;> rfl
        · rintro H3 ⟨q1, q2⟩
          rw [List.length_map, List.take_length] at q1
          refine ⟨Nat.zero_le _, fun t ht => ?_⟩
          have s3 : Same H2 (upd H3 t (.lst [])) := q2.trans (same_new ht)
          have q1t : upd H3 t (.lst []) E = some (.lst ((more NB e).map V.str)) := (upd_ne (ne_of_none q1 ht)).trans q1
          have at3 : upd H3 t (.lst []) t = some (.lst []) := upd_same
          generalize upd H3 t (.lst []) = H5 at s3 q1t at3
          refine ⟨.list ((more NB e).map .str), .list ([].map .str), .lst (SqL.of q1t) (dp_strs _), .lst (SqL.of at3) (dp_strs []), shaped_strs fun n h => GA.lay (GA.sub e mem _ ((List.mem_filter.mp h).1)), shaped_strs (fun n h => nomatch h), _, rfl, ?_⟩
          have ev2 : PyData.eqv (.list ((more NB e).map .str)) (.list ([].map .str)) = decide (more NB e = []) := eqv_strs _ _
          rw [ev2]
          have et : NA.take (i + 1) = NA.take i ++ [e] := by rw [List.take_add_one, he] <;> rfl
          rw [et, List.filter_append]
          by_cases c : more NB e = []
          · rw [decide_eq_true c]
            refine iteF ⟨?_, p2.trans s3⟩
            rw [List.filter_cons_of_neg (by simpa using c), List.filter_nil, List.append_nil]
            exact s3 _ _ p1
          · rw [decide_eq_false c]
            refine iteT ⟨_, rfl, _, s3 _ _ p1, ?_, upd_same.trans ?_, Same.mut (p2.trans s3) hL⟩
            · rw [List.length_map, List.length_map]
              have h1 := List.length_filter_le (fun e => !decide (more NB e = [])) (NA.take i)
              rw [List.length_take] at h1
              have := GA.five
              exact small1000 (by omega)
            · rw [List.filter_cons_of_pos (by simpa using c), List.filter_nil, List.map_append, List.map_append] <;> rfl
      · rintro H3 ⟨p1, p2⟩
        have full : NA.take (ndK NA).length = NA := List.take_of_length_le (by rw [ndK_len]; exact Nat.le_refl _)
        rw [full] at p1
        have nLd := free0 _ hL
        refine ⟨p2 _ _ f0, Nat.zero_le _, fun t ht => ?_⟩
        have s3 := (back p2).trans (same_new (o := .lst []) ht)
        have q1 : upd H3 d1 (.dK (ndK NA)) L = _ := (upd_ne nLd).trans p1
        have q1t : upd (upd H3 d1 (.dK (ndK NA))) t (.lst []) L = _ := (upd_ne (ne_of_none q1 ht)).trans q1
        refine ⟨.list ((((NA.filter fun e => !decide (more NB e = [])).map (·.1))).map .str), .list ([].map .str), .lst (SqL.of q1t) (dp_strs _), .lst (SqL.of upd_same) (dp_strs []), shaped_strs fun n h => ?_, shaped_strs (fun n h => nomatch h), ?_⟩
        · obtain ⟨e, he, rfl⟩ := List.mem_map.mp h
          exact GA.lay (List.mem_map.mpr ⟨e, (List.mem_filter.mp he).1, rfl⟩)
        have ev2 : PyData.eqv (.list ((((NA.filter fun e => !decide (more NB e = [])).map (·.1))).map .str)) (.list ([].map .str)) = decide (((NA.filter fun e => !decide (more NB e = [])).map (·.1)) = []) := eqv_strs _ _
        rw [ev2]
        exact k _ _ (by rw [decide_eq_true_eq]; exact below_more GB same) (s12.trans s3)
    · rw [decide_eq_false hn]
      refine iteT (k false _ ⟨(fun z => nomatch z), fun h => ?_⟩ s12)
      exact absurd (sorted_same sy sz uy uz fun x => by rw [my, mz]; exact h.1 x) hn
end
end Nt
set_option Elab.async false
set_option linter.all false
set_option maxRecDepth 100000
set_option maxHeartbeats 4000000
namespace Nt
open PySem PySem.Spec PyProof.Rows L2
abbrev sLaw : Stmt := top 20
/-! ### x <= y by an own def -/
def rOwnI (C : Addr) (sp : Sp) (E : XK) : R2 := fun x y H Q => ∃ a dx fs b dy gs, x = .ref a ∧ y = .ref b ∧ H a = some (.ins C dx fs) ∧ H b = some (.ins C dy gs) ∧ sp [x, y] H Q E
theorem op_ownI {X : Cx} {CX : CXT} {C g : Addr} {n : Nat} {sp : Sp} {E : XK} {op : CmpOp} (hop : ∀ a b, compareOp op a b = richCompare op a b) (hs : PySem.W.findIn X.K (.ref C) (cmpInfo op).2.1 = some (some (.ref g))) (hf : PySem.W.isFn X.K (.ref g) = true)
    (F : FnR X.prog X.w X.K X.mg X.base CX n g sp) (hr : Room n X.A) (hx : Passes CX X E) : OpR X (compareOp op) (rOwnI C sp E) := by
  intro pins s σ H x y v u Q I rx ry h
  obtain ⟨a, dx, fs, b, dy, gs, rfl, rfl, ha, hb, q⟩ := h
  cases (show v = Value.ref a from rx)
  cases (show u = Value.ref b from ry)
  obtain ⟨mA, J, _⟩ := ins_get I.hok ha
  obtain ⟨mB, J', _⟩ := ins_get I.hok hb
  obtain ⟨od, J, _⟩ := J.look
  obtain ⟨od', J', _⟩ := J'.look
  obtain ⟨m, hF⟩ := I.fr
  rw [hop]
  refine PySem.W.cmp_K (op := op) (tb := .ref C) hr.units0 hF I.ok.mod.kin J J'.type (by simp [PySem.W.notFirst]) hs hf ?_
  refine wpAny_mono (wpAny_call (run_fnR (us := [.ref a, .ref b]) (vs := [.ref a, .ref b]) F hr hx I (.cons rfl (.cons rfl .nil)) q)) (fun w s' z => ?_) fun _ _ x => x
  obtain ⟨z', H', I', rz, qz⟩ := z
  exact SlX.cmpback rz ⟨z', H', I', rz, qz⟩
/-! ### nets that are below one another -/
theorem below_wf {A B : Nd} (h : Below A B) (w : Wf B) : Wf A := by
  obtain ⟨ps, h1, h2⟩ := w
  exact ⟨ps, fun n hn => h1 n ((h.1 n).mp hn), fun i n hi m hm => h2 i n hi m (h.2 _ hm)⟩
theorem pairs_nodup {A : Nd} (G : Good A) : (pairsN A).Nodup := by
  unfold pairsN List.Nodup
  rw [List.pairwise_flatMap]
  constructor
  · intro e he
    rw [List.pairwise_map]
    exact (G.du e he).imp fun ne q => ne (congrArg Prod.snd q)
  · have h := G.nn
    unfold nms List.Nodup at h
    rw [List.pairwise_map] at h
    refine h.imp fun ne x hx y hy q => ?_
    obtain ⟨_, _, e1⟩ := List.mem_map.mp hx
    obtain ⟨_, _, e2⟩ := List.mem_map.mp hy
    exact ne ((congrArg Prod.fst e1).trans ((congrArg Prod.fst q).trans (congrArg Prod.fst e2).symm))
theorem pairs_len {A B : Nd} (GA : Good A) (GB : Good B) (h : Below A B) (h' : Below B A) : (pairsN A).length = (pairsN B).length :=
  ((List.perm_ext_iff_of_nodup (pairs_nodup GA) (pairs_nodup GB)).mpr fun p => ⟨h.2 p, h'.2 p⟩).length_eq
theorem mem_nms_of {A A' : Nd} (h : ∀ e, e ∈ A' ↔ e ∈ A) (n : Str) : n ∈ nms A' ↔ n ∈ nms A := by
  unfold nms
  rw [List.mem_map, List.mem_map]
  exact ⟨fun ⟨e, he, q⟩ => ⟨e, (h e).mp he, q⟩, fun ⟨e, he, q⟩ => ⟨e, (h e).mpr he, q⟩⟩
theorem mem_pairs_of {A A' : Nd} (h : ∀ e, e ∈ A' ↔ e ∈ A) (p : Str × Str) : p ∈ pairsN A' ↔ p ∈ pairsN A := by
  rw [mem_pairs, mem_pairs]
  exact ⟨fun ⟨e, he, q⟩ => ⟨e, (h e).mp he, q⟩, fun ⟨e, he, q⟩ => ⟨e, (h e).mpr he, q⟩⟩
theorem below_of {A A' B B' : Nd} (hA : ∀ e, e ∈ A' ↔ e ∈ A) (hB : ∀ e, e ∈ B' ↔ e ∈ B) : Below A' B' ↔ Below A B := by
  unfold Below
  constructor
  · exact fun h => ⟨fun n => by rw [← mem_nms_of hA, ← mem_nms_of hB]; exact h.1 n, fun p hp => (mem_pairs_of hB p).mp (h.2 p ((mem_pairs_of hA p).mpr hp))⟩
  · exact fun h => ⟨fun n => by rw [mem_nms_of hA, mem_nms_of hB]; exact h.1 n, fun p hp => (mem_pairs_of hB p).mpr (h.2 p ((mem_pairs_of hA p).mp hp))⟩
/-- a net of such needs -/
def NetOf (C : Addr) (H : Hp) (x : Addr) (nd : Nd) : Prop := ∃ nd', NetAt C H x nd' ∧ Good nd' ∧ (∀ e, e ∈ nd' ↔ e ∈ nd) ∧ sortedS (nms nd') = true
theorem NetOf.same {C : Addr} {H H' : Hp} {x : Addr} {nd : Nd} (s : Same H H') (h : NetOf C H x nd) : NetOf C H' x nd := by
  obtain ⟨nd', h1, h2⟩ := h
  exact ⟨nd', h1.same s, h2⟩
def spLaw (K : PySem.W.Frag) : Sp := fun vs H Q _ => ∃ (a : Addr) (ns : List Int), vs = [.ref a] ∧ SqL K H a (ns.map V.int) ∧ ns.length ≤ 63 ∧ ∀ H', Q (.bl true) H'
theorem ne_bl (a b : Bool) : (!decide (V.bl a = V.bl b)) = (a != b) := by cases a <;> cases b <;> rfl
theorem notin_deep {X : Cx} {K : PySem.W.Frag} (e : X.K = K) (hu : X.A.units + 65 < cLine) : OpR X (compareOp .NotIn) (rNotInD K) := e ▸ op_notInD hu
theorem but2 {H0 H H' : Hp} {p : Addr} (s : Same H0 H) (hp : H0 p = none) (b : But p H H') : Same H0 H' := fun q o h => b q o (s q o h) (ne_of_none h hp)
/-- three rows of needs -/
structure Three (H : Hp) (r : Addr) (ds : List Addr) (nds : List Nd) : Prop where
  at_ : H r = some (.lst (ds.map V.ref))
  d3 : ds.length = 3
  n3 : nds.length = 3
  ok : ∀ (i : Nat) (d : Addr) (nd : Nd), ds[i]? = some d → nds[i]? = some nd → NdAt H d nd ∧ Good nd
theorem Three.same {H H' : Hp} {r : Addr} {ds : List Addr} {nds : List Nd} (s : Same H H') (h : Three H r ds nds) : Three H' r ds nds :=
  ⟨s _ _ h.at_, h.d3, h.n3, fun i d nd h1 h2 => ⟨(h.ok i d nd h1 h2).1.same s, (h.ok i d nd h1 h2).2⟩⟩
theorem NetAt.lst {C : Addr} {H : Hp} {x L : Addr} {nd : Nd} {xs : List V} {o : HO} (hL : H L = some (.lst xs)) (h : NetAt C H x nd) : NetAt C (upd H L o) x nd := by
  obtain ⟨dx, d, h1, h2, h3⟩ := h
  exact ⟨dx, d, (upd_ne (ne_of h1 hL (by intro z; cases z))).trans h1, (upd_ne (ne_of h2 hL (by intro z; cases z))).trans h2, fun e he => (upd_ne (ne_of (h3 e he) hL (by intro z; cases z))).trans (h3 e he)⟩
theorem NetOf.lst {C : Addr} {H : Hp} {x L : Addr} {nd : Nd} {xs : List V} {o : HO} (hL : H L = some (.lst xs)) (h : NetOf C H x nd) : NetOf C (upd H L o) x nd := by
  obtain ⟨nd', h1, h2⟩ := h
  exact ⟨nd', h1.lst hL, h2⟩
/-- three nets of them -/
structure Nets (C : Addr) (H : Hp) (L : Addr) (xs : List Addr) (nds : List Nd) : Prop where
  at_ : H L = some (.lst (xs.map V.ref))
  x3 : xs.length = 3
  ok : ∀ (i : Nat) (x : Addr) (nd : Nd), xs[i]? = some x → nds[i]? = some nd → NetOf C H x nd
theorem Nets.same {C : Addr} {H H' : Hp} {L : Addr} {xs : List Addr} {nds : List Nd} (s : Same H H') (h : Nets C H L xs nds) : Nets C H' L xs nds :=
  ⟨s _ _ h.at_, h.x3, fun i x nd h1 h2 => (h.ok i x nd h1 h2).same s⟩
theorem ref_at {xs : List Addr} {i : Nat} {x : Addr} (h : xs[i]? = some x) : (xs.map V.ref)[i]? = some (V.ref x) := by
  rw [List.getElem?_map, h] <;> rfl
/-- the defs that law calls -/
structure LawFs (P : Program) (w : World) (K : PySem.W.Frag) (mg : Str → Option Value) (base : Heap) (C : Addr) where
  (fP fT fN fU fB fI fL fO fR : Addr) (dP dT dN dU dB dI dL dO dR : FuncData)
  GP : FnOk P w K mg base CX0 1 fP dP ["script", "k"] (spPool K)
  GT : FnOk P w K mg base CX0 1 fT dT ["pool", "many"] spTake
  GN : FnOk P w K mg base CX0 3 fN dN ["pool", "rings"] spNeeds
  GU : FnOk P w K mg base CX0 3 fU dU ["pool", "needs"] spTurned
  GB : FnOk P w K mg base CX0 1 fB dB ["one", "other"] spBelow
  GI : FnOk P w K mg base CX0 4 fI dI ["self", "needs"] (spInit C)
  GL : FnOk P w K mg base CX0 2 fL dL ["self", "other"] (spLe C)
  GO : FnOk P w K mg base CX0 1 fO dO ["self"] (spOrder C)
  GR : FnOk P w K mg base CX0 1 fR dR ["self"] (spPairs C)
  gP : mg "_law_pool" = some (.ref fP)
  gT : mg "_law_take" = some (.ref fT)
  gN : mg "_law_needs" = some (.ref fN)
  gU : mg "_law_turned" = some (.ref fU)
  gB : mg "_law_below" = some (.ref fB)
  kP : PySem.W.keepIn K (.ref fP) = true
  kT : PySem.W.keepIn K (.ref fT) = true
  kN : PySem.W.keepIn K (.ref fN) = true
  kU : PySem.W.keepIn K (.ref fU) = true
  kB : PySem.W.keepIn K (.ref fB) = true
  bP : Binds K dP ["script", "k"] []
  bT : Binds K dT ["pool", "many"] []
  bN : Binds K dN ["pool", "rings"] []
  bU : Binds K dU ["pool", "needs"] []
  bB : Binds K dB ["one", "other"] []
  bI : Binds K dI ["self", "needs"] []
  bL : Binds K dL ["self", "other"] []
  bO : Binds K dO ["self"] []
  bR : Binds K dR ["self"] []
  mI : Mk K C fI
  mO : Meth K C "order" fO
  mR : Meth K C "pairs" fR
  sL : PySem.W.findIn K (.ref C) "__le__" = some (some (.ref fL))
  iL : PySem.W.isFn K (.ref fL) = true
section
variable {P : Program} {w : World} {K : PySem.W.Frag} {mg : Str → Option Value} {base : Heap}
theorem scLaw : FnScope ["script", "k", "pool", "first", "rows", "nets", "at", "beside", "due", "some", "needs", "pair"] ["script"] (defScope sLaw) := ⟨rfl, rfl, rfl, by decide +kernel, rfl, by decide +kernel, by decide +kernel⟩
theorem ok_law {C f : Addr} {fd : FuncData} (F : Fun K "law" "law" sLaw f fd) (B : Blt mg) (T : NetC K mg C) (L : LawFs P w K mg base C) : FnOk P w K mg base CX0 6 f fd ["script"] (spLaw K) := by
  refine F.ok scLaw (fun vs H Q E h => ?_) (fun cdv A outer s H vs Q E hr h => ?_)
  · obtain ⟨a, ns, rfl, _⟩ := h
    rfl
  · obtain ⟨a, ns, rfl, hS, h63, k⟩ := h
    have nd0 := scLaw.nd
    have hu := hu_of hr
    have hr1 : Room 1 _ := hr.mono (by decide)
    have hr2 : Room 2 _ := hr.mono (by decide)
    have hr3 : Room 3 _ := hr.mono (by decide)
    have h65 : (A.deeper (envOfC (Str.ofString "law") (defScope sLaw) s.heap.objs.size f cdv)).units + 65 < cLine := by
      have := hr.un
      omega
    refine ⟨_, pss_cons (ps_for PassesOwn.never rfl (pi_range1 (by rfl) B.range (pa_cons (pe_callB (call_max2 rfl) (by rfl) B.max (by decide +kernel) (pa_cons pe_int (pa_cons (pe_callB (call_min2 rfl) (by rfl) B.min (by decide +kernel) (pa_cons pe_int (pa_cons (pe_callB (c_len (K := K) rfl) (by rfl) B.len PySem.boot_len (pa_cons (pv 0) pa_nil)) pa_nil))) pa_nil))) pa_nil)) (pg_name (i := 1) nd0 rfl (Or.inl rfl))
      (pss_cons (ps_set (i := 2) nd0 rfl (Or.inl rfl) (pe_call L.GP hr1 (by rfl) L.gP L.kP L.bP .nil pass0 (pa_cons (pv 0) (pa_cons (pv 1) pa_nil))))
      (C8.pss_cut (ps_set (i := 3) nd0 rfl (Or.inl rfl) (pe_call L.GN hr3 (by rfl) L.gN L.kN L.bN .nil pass0 (pa_cons (pv 2) (pa_cons (pe_cmpR op_eq (pe_call L.GT hr1 (by rfl) L.gT L.kT L.bT .nil pass0 (pa_cons (pv 2) (pa_cons pe_int pa_nil))) pe_int (nomark _)) pa_nil))))
      (C8.pss_cut (ps_set (i := 4) nd0 rfl (Or.inl rfl) (pe_lst (pa_cons (pv 3) (pa_cons (pe_call L.GU hr3 (by rfl) L.gU L.kU L.bU .nil pass0 (pa_cons (pv 2) (pa_cons (pv 3) pa_nil))) (pa_cons (pe_call L.GN hr3 (by rfl) L.gN L.kN L.bN .nil pass0 (pa_cons (pv 2) (pa_cons pe_bl pa_nil))) pa_nil)))))
      (pss_cons (ps_set (i := 5) nd0 rfl (Or.inr rfl) (pe_lc (own := [("needs", 10)]) (g := gName 10) (tt := tYes) (by rfl) nd0 (p_list (K := K) rfl (pv 4)) (blkOk_by (own := [("needs", 10)]) (N := ["script", "k", "pool", "first", "rows", "nets", "at", "beside", "due", "some", "needs", "pair"]) (sc := defScope sLaw) (by decide +kernel))
          (fun _ _ _ _ _ => pg_name (i := 10) nd0 rfl (Or.inl rfl)) (fun _ _ _ _ _ => pts_nil) (fun _ _ _ _ _ => pe_make L.mI L.GI hr (by rfl) T.mg L.bI .nil pass0 (pa_cons (pv 10) pa_nil))))
      (pss_one (ps_for PassesOwn.never rfl (pi_range1 (by rfl) B.range (pa_cons pe_int pa_nil)) (pg_name (i := 6) nd0 rfl (Or.inl rfl))
        (pss_one (ps_for PassesOwn.never rfl (pi_range1 (by rfl) B.range (pa_cons pe_int pa_nil)) (pg_name (i := 7) nd0 rfl (Or.inr rfl))
          (pss_cons (ps_set (i := 8) nd0 rfl (Or.inl rfl) (pe_call L.GB hr1 (by rfl) L.gB L.kB L.bB .nil pass0 (pa_cons (pe_ix (c_ixL (K := K) rfl) (pv 4) (pv 6) (fun _ _ => rfl)) (pa_cons (pe_ix (c_ixL (K := K) rfl) (pv 4) (pv 7) (fun _ _ => rfl)) pa_nil))))
          (C8.pss_cut (ps_if (pt_cmpR op_ne (pe_cmpR (op_ownI (op := .LtE) (fun _ _ => rfl) L.sL L.iL (L.GL.raw L.bL .nil) hr2 pass0) (pe_ix (c_ixL (K := K) rfl) (pv 5) (pv 6) (fun _ _ => rfl)) (pe_ix (c_ixL (K := K) rfl) (pv 5) (pv 7) (fun _ _ => rfl)) (nomark _)) (pv 8) (nomark _)) (pss_one (ps_ret pe_bl)) pss_nil)
          (C8.pss_cut (ps_if (PW.pt (pw_and (pt_val (pv 8)) (pw_and (pt_cmp (pc_notN (pe_meth0 (pe_ix (c_ixL (K := K) rfl) (pv 5) (pv 7) (fun _ _ => rfl)) T.cl L.mO L.GO hr1 L.bO .nil pass0))) (pw_and1 (pt_cmp (pc_isN (pe_meth0 (pe_ix (c_ixL (K := K) rfl) (pv 5) (pv 6) (fun _ _ => rfl)) T.cl L.mO L.GO hr1 L.bO .nil pass0))))))) (pss_one (ps_ret pe_bl)) pss_nil)
          (pss_one (ps_if (PW.pt (pw_and (pt_val (pv 8)) (pw_and1 (pt_val (pe_call L.GB hr1 (by rfl) L.gB L.kB L.bB .nil pass0 (pa_cons (pe_ix (c_ixL (K := K) rfl) (pv 4) (pv 7) (fun _ _ => rfl)) (pa_cons (pe_ix (c_ixL (K := K) rfl) (pv 4) (pv 6) (fun _ _ => rfl)) pa_nil)))))))
            (pss_cons (ps_setLc (i := 9) (own := [("pair", 11)]) (g := gName 11) (by rfl) nd0 rfl rfl (sw_true rfl rfl rfl (by decide +kernel)) (p_list (K := K) rfl (pe_meth0 (pe_ix (c_ixL (K := K) rfl) (pv 5) (pv 6) (fun _ _ => rfl)) T.cl L.mR L.GR hr1 L.bR .nil pass0)) (blkOk_by (own := [("pair", 11)]) (N := ["script", "k", "pool", "first", "rows", "nets", "at", "beside", "due", "some", "needs", "pair"]) (sc := defScope sLaw) (by decide +kernel))
                (fun _ _ _ _ _ => pg_name (i := 11) nd0 rfl (Or.inl rfl)) (fun _ _ _ _ _ => pts_one (pt_cmpR (notin_deep (K := K) rfl h65) (pv 11) (pe_meth0 (pe_ix (c_ixL (K := K) rfl) (pv 5) (pv 7) (fun _ _ => rfl)) T.cl L.mR L.GR hr1 L.bR .nil pass0) (by rfl))) (fun _ _ _ _ _ => pv 11))
            (pss_one (ps_if (PW.pt (pw_or (pt_cmpR (ne_deep (K := K) rfl hr.units) (pv 9) (pe_lst pa_nil) (nomark _)) (pw_or1 (pt_cmpR op_ne (pe_callB (c_len (K := K) rfl) (by rfl) B.len PySem.boot_len (pa_cons (pe_meth0 (pe_ix (c_ixL (K := K) rfl) (pv 5) (pv 6) (fun _ _ => rfl)) T.cl L.mR L.GR hr1 L.bR .nil pass0) pa_nil)) (pe_callB (c_len (K := K) rfl) (by rfl) B.len PySem.boot_len (pa_cons (pe_meth0 (pe_ix (c_ixL (K := K) rfl) (pv 5) (pv 7) (fun _ _ => rfl)) T.cl L.mR L.GR hr1 L.bR .nil pass0) pa_nil)) (nomark _))))) (pss_one (ps_ret pe_bl)) pss_nil)))
            pss_nil)))))))))))))) (pss_one (ps_ret pe_bl)), ?_⟩
    refine ⟨_, rfl, a, _, rfl, .inl hS, 12, _, rfl, 1, _, rfl, _, rfl, ?_, ?_, ?_⟩
    · split <;> split <;> omega
    · split <;> split <;> rename_i x y <;> have := h63 <;> rw [List.length_map] at * <;> omega
    have few : (if (if ((ns.map V.int).length : Int) < 12 then ((ns.map V.int).length : Int) else 12) > 1 then (if ((ns.map V.int).length : Int) < 12 then ((ns.map V.int).length : Int) else 12) else 1).toNat ≤ 12 := by
      split <;> split <;> omega
    generalize (if (if ((ns.map V.int).length : Int) < 12 then ((ns.map V.int).length : Int) else 12) > 1 then (if ((ns.map V.int).length : Int) < 12 then ((ns.map V.int).length : Int) else 12) else 1).toNat = n at few ⊢
    refine for_it walk_range (fun i σ H' => ∃ v1 v2 v3 v4 v5 v6 v7 v8 v9, σ = [some (.ref a), v1, v2, v3, v4, v5, v6, v7, v8, v9, none, none] ∧ SqL K H' a (ns.map V.int)) ⟨_, _, _, _, _, _, _, _, _, rfl, hS⟩ (fun _ _ _ _ _ => trivial) ?_ ?_
    · rintro i y σ H0 H1 hi ⟨v1, v2, v3, v4, v5, v6, v7, v8, v9, rfl, hS0⟩ ⟨rfl, rfl⟩
      refine ⟨_, rfl, _, rfl, a, ns, i, congrArg (fun z => [V.ref a, V.int z]) (Int.zero_add _), hS0, by omega, fun p Ha hp pa sa => ?_⟩
      refine ⟨fun σ H' => ∃ v1 d0 n0, σ = [some (.ref a), v1, some (.ref p), some (.ref d0), v4, v5, v6, v7, v8, v9, none, none] ∧ Same H1 H' ∧ PoolAt H' p ∧ NdAt H' d0 n0 ∧ Good n0, ?_, ?_⟩
      · refine ⟨_, rfl, _, rfl, p, 2, rfl, pa, by decide, by decide, fun r Hb r0 r1 pb bb => ⟨rfl, p, _, rfl, pb, fun d0 n0 Hc hd N0 G0 pc bc => ⟨_, d0, n0, rfl, but2 (but2 sa hp bb) hp bc, pc, N0, G0⟩⟩⟩
      rintro σ Hc ⟨v1, d0, n0, rfl, sc, pc, N0, G0⟩
      refine ⟨fun σ H' => ∃ v1 d0 r ds nds, σ = [some (.ref a), v1, some (.ref p), some (.ref d0), some (.ref r), v5, v6, v7, v8, v9, none, none] ∧ Same H1 H' ∧ Three H' r ds nds, ?_, ?_⟩
      · refine ⟨_, rfl, _, rfl, _, rfl, p, d0, n0, rfl, pc, N0, G0, fun d1 n1 Hd hd1 N1 G1 pd bd => ⟨_, rfl, p, true, rfl, pd, fun d2 n2 He hd2 N2 G2 pe be => ⟨by show 3 ≤ sizeLine; decide, fun r hr => ?_⟩⟩⟩
        have N0e := (N0.but pc bd).but pd be
        have N1e := N1.but pd be
        have sr : Same He (upd He r (.lst [.ref d0, .ref d1, .ref d2])) := same_new hr
        refine ⟨_, d0, r, [d0, d1, d2], [n0, n1, n2], rfl, Same.trans (but2 (but2 sc hp bd) hp be) sr, upd_same, rfl, rfl, fun j d nd h1 h2 => ?_⟩
        match j, h1, h2 with
        | 0, h1, h2 =>
          cases h1
          cases h2
          exact ⟨N0e.same sr, G0⟩
        | 1, h1, h2 =>
          cases h1
          cases h2
          exact ⟨N1e.same sr, G1⟩
        | 2, h1, h2 =>
          cases h1
          cases h2
          exact ⟨N2.same sr, G2⟩
      rintro σ H2 ⟨v1, d0, r, ds, nds, rfl, s2, R⟩
      refine ⟨_, rfl, r, rfl, ⟨_, SqL.of R.at_⟩, fun L0 hL => lc_it walk_list (fun j H' => ∃ xs : List Addr, H' L0 = some (.lst (xs.map V.ref)) ∧ Same H2 H' ∧ xs.length = j ∧ ∀ (i : Nat) (x : Addr) (nd : Nd), xs[i]? = some x → nds[i]? = some nd → NetOf C H' x nd) ⟨[], upd_same, same_new hL, rfl, (fun i x nd h => nomatch h)⟩ (fun j H' _ ⟨_, _, q, _⟩ => SqL.of (q _ _ R.at_)) ?_ ?_⟩
      · rintro j z H3 H4 hj ⟨xs, q1, q2, q3, q4⟩ ⟨rfl, hz⟩
        rw [List.length_map, R.d3] at hj
        obtain ⟨d, hd, rfl⟩ : ∃ d, ds[j]? = some d ∧ V.ref d = z := by simpa using hz
        obtain ⟨nd, hnd⟩ : ∃ nd, nds[j]? = some nd := ⟨_, List.getElem?_eq_getElem (by rw [R.n3]; exact hj)⟩
        obtain ⟨Nj, Gj⟩ := R.ok j d nd hd hnd
        have Nj := Nj.same q2
        refine ⟨rfl, _, rfl, fun x dx hx hdx ne => ?_⟩
        have s4 : Same H4 (upd (upd H4 dx (.own x)) x (.ins C dx [])) := fun q o h => by
          rw [upd_ne (ne_of_none h hx), upd_ne (ne_of_none h hdx)]
          exact h
        refine ⟨x, dx, d, nd, rfl, upd_same, Nj.same s4, Gj, fun nd' H5 N' G' m' so b => ⟨rfl, ?_⟩⟩
        have s5 : Same H4 H5 := but2 s4 hx b
        have q15 := s5 _ _ q1
        refine ⟨_, q15, ?_, xs ++ [x], upd_same.trans (by rw [List.map_append] <;> rfl), Same.mut (Same.trans q2 s5) hL, by rw [List.length_append, q3] <;> rfl, fun m x' nd0 h1 h2 => ?_⟩
        · rw [List.length_map]
          exact small1000 (by omega)
        · refine NetOf.lst q15 ?_
          by_cases c : m < j
          · rw [List.getElem?_append_left (by omega)] at h1
            exact (q4 m x' nd0 h1 h2).same s5
          · rw [List.getElem?_append_right (by omega)] at h1
            have e : m = j := by
              have := (List.getElem?_eq_some_iff.mp h1).1
              simp only [List.length_singleton] at this
              omega
            subst e
            rw [q3, Nat.sub_self] at h1
            cases h1
            rw [hnd] at h2
            cases h2
            exact ⟨nd', N', G', m', so⟩
      · rintro H3 ⟨xs, q1, q2, q3, q4⟩
        rw [List.length_map, R.d3] at q3
        have R3 := R.same q2
        have W3 : Nets C H3 L0 xs nds := ⟨q1, q3, q4⟩
        have s3 := s2.trans q2
        have x3 : ∀ m, m < 3 → ∃ d nd x nd', ds[m]? = some d ∧ nds[m]? = some nd ∧ xs[m]? = some x ∧ NdAt H3 d nd ∧ Good nd ∧ NetAt C H3 x nd' ∧ Good nd' ∧ (∀ e, e ∈ nd' ↔ e ∈ nd) ∧ sortedS (nms nd') = true := fun m hm => by
          have a1 : ds[m]? = some (ds[m]'(by rw [R3.d3]; exact hm)) := List.getElem?_eq_getElem _
          have a2 : nds[m]? = some (nds[m]'(by rw [R3.n3]; exact hm)) := List.getElem?_eq_getElem _
          have a3 : xs[m]? = some (xs[m]'(by rw [q3]; exact hm)) := List.getElem?_eq_getElem _
          obtain ⟨b1, b2⟩ := R3.ok m _ _ a1 a2
          obtain ⟨nd', c1, c2, c3, c4⟩ := W3.ok m _ _ a3 a2
          exact ⟨_, _, _, nd', a1, a2, a3, b1, b2, c1, c2, c3, c4⟩
        refine ⟨3, rfl, by decide, by decide, for_it walk_range (fun i σ H' => ∃ v6 v7 v8 v9, σ = [some (.ref a), v1, some (.ref p), some (.ref d0), some (.ref r), some (.ref L0), v6, v7, v8, v9, none, none] ∧ Same H3 H') ⟨_, _, _, _, rfl, fun q o h => h⟩ (fun _ _ _ _ _ => trivial) ?_ ?_⟩
        · rintro at_ y σ H4 H5 hat ⟨v6, v7, v8, v9, rfl, s4⟩ ⟨rfl, hy⟩
          obtain rfl : y = V.int (at_ : Int) := hy.trans (congrArg V.int (Int.zero_add _))
          obtain ⟨dA, nA, xA, wA, A1, A2, A3, A4, A5, A6, A7, A8, A9⟩ := x3 at_ hat
          refine ⟨3, rfl, by decide, by decide, for_it walk_range (fun i σ H' => ∃ v7 v8 v9, σ = [some (.ref a), v1, some (.ref p), some (.ref d0), some (.ref r), some (.ref L0), some (.int (at_ : Int)), v7, v8, v9, none, none] ∧ Same H3 H') ⟨_, _, _, rfl, s4⟩ (fun _ _ _ _ _ => trivial) ?_ ?_⟩
          · rintro be y σ H6 H7 hbe ⟨v7, v8, v9, rfl, s6⟩ ⟨rfl, hy⟩
            obtain rfl : y = V.int (be : Int) := hy.trans (congrArg V.int (Int.zero_add _))
            obtain ⟨dB, nB, xB, wB, B1, B2, B3, B4, B5, B6, B7, B8, B9⟩ := x3 be hbe
            have sqR : ∀ {H'}, Same H3 H' → SqL K H' r (ds.map V.ref) := fun s => SqL.of (s _ _ R3.at_)
            have sqL : ∀ {H'}, Same H3 H' → SqL K H' L0 (xs.map V.ref) := fun s => SqL.of (s _ _ q1)
            have noO : ∀ d, (fl d).lookup ("order" : Str) = none := fun d => fl_no d (by decide +kernel)
            have noP : ∀ d, (fl d).lookup ("pairs" : Str) = none := fun d => fl_no d (by decide +kernel)
            obtain ⟨iA, eA, gA, _⟩ := id A6
            obtain ⟨iB, eB, gB, _⟩ := id B6
            have same := below_of A8 B8
            refine ⟨_, rfl, _, rfl, r, _, _, _, rfl, rfl, sqR s6, atI_nat (ref_at A1), _, rfl, _, rfl, r, _, _, _, rfl, rfl, sqR s6, atI_nat (ref_at B1), dA, dB, nA, nB, rfl, A4.same s6, B4.same s6, A5, B5, fun due H8 hdue s8 => ?_⟩
            refine ⟨fun σ H' => σ = [some (.ref a), v1, some (.ref p), some (.ref d0), some (.ref r), some (.ref L0), some (.int (at_ : Int)), some (.int (be : Int)), some (.bl due), v9, none, none] ∧ Same H3 H', ?_, ?_⟩
            · have s7 := Same.trans s6 s8
              refine ⟨_, rfl, _, rfl, L0, _, _, _, rfl, rfl, sqL s7, atI_nat (ref_at A3), _, rfl, _, rfl, L0, _, _, _, rfl, rfl, sqL s7, atI_nat (ref_at B3), xA, iA, _, xB, iB, _, rfl, rfl, s7 _ _ gA, s7 _ _ gB, xA, xB, wA, wB, rfl, A6.same s7, B6.same s7, A7, B7, A9, B9, fun b H9 hb s9 => ⟨_, rfl, rfl, _, rfl, ?_⟩⟩
              have e : b = due := by
                rw [Bool.eq_iff_iff, hb, hdue]
                exact same
              subst e
              rw [ne_bl, bne_self_eq_false]
              exact iteF ⟨rfl, Same.trans s7 s9⟩
            rintro σ H8 ⟨rfl, s7⟩
            refine ⟨fun σ H' => σ = [some (.ref a), v1, some (.ref p), some (.ref d0), some (.ref r), some (.ref L0), some (.int (at_ : Int)), some (.int (be : Int)), some (.bl due), v9, none, none] ∧ Same H3 H', ?_, ?_⟩
            · refine ⟨_, rfl, due, rfl, ite2 (fun hd => ?_) (fun _ => iteF ⟨rfl, s7⟩)⟩
              have hB := same.mpr (hdue.mp hd)
              refine ⟨_, rfl, _, rfl, L0, _, _, _, rfl, rfl, sqL s7, atI_nat (ref_at B3), xB, iB, _, rfl, s7 _ _ gB, noO _, xB, wB, rfl, B6.same s7, B7, fun _ H9 s9 => ⟨false, by simp, iteF (iteF ⟨rfl, Same.trans s7 s9⟩)⟩, fun wf l H9 s9 => ⟨true, by simp, iteT ?_⟩⟩
              have t7 := Same.trans s7 s9
              exact ⟨_, rfl, _, rfl, L0, _, _, _, rfl, rfl, sqL t7, atI_nat (ref_at A3), xA, iA, _, rfl, t7 _ _ gA, noO _, xA, wA, rfl, A6.same t7, A7, fun nw => absurd (below_wf hB wf) nw, fun _ l2 H10 s10 => ⟨false, by simp, iteF ⟨rfl, Same.trans t7 s10⟩⟩⟩
            clear s7
            rintro σ H8 ⟨rfl, s7⟩
            refine ⟨_, rfl, due, rfl, ite2 (fun hd => ?_) (fun _ => iteF ⟨_, _, _, rfl, s7⟩)⟩
            refine ⟨_, rfl, _, rfl, r, _, _, _, rfl, rfl, sqR s7, atI_nat (ref_at B1), _, rfl, _, rfl, r, _, _, _, rfl, rfl, sqR s7, atI_nat (ref_at A1), dB, dA, nB, nA, rfl, B4.same s7, A4.same s7, B5, A5, fun back H9 hback s9 => ⟨back, rfl, ite2 (fun hb => ?_) (fun _ => ⟨_, _, _, rfl, Same.trans s7 s9⟩)⟩⟩
            have hB := same.mpr (hdue.mp hd)
            have hB' := (below_of B8 A8).mpr (hback.mp hb)
            have t9 := Same.trans s7 s9
            refine ⟨_, rfl, _, rfl, L0, _, _, _, rfl, rfl, sqL t9, atI_nat (ref_at A3), xA, iA, _, rfl, t9 _ _ gA, noP _, xA, wA, rfl, A6.same t9, A7, fun l H10 hl PA s10 => ?_⟩
            have t10 := Same.trans t9 s10
            obtain ⟨bs, b1, b2, b3⟩ := id PA
            refine ⟨l, rfl, ⟨_, SqL.of b1⟩, fun M hM => lc_it walk_list (fun j H' => H' M = some (.lst []) ∧ Same H10 H') ⟨upd_same, same_new hM⟩ (fun j H' _ q => SqL.of (q.2 _ _ b1)) ?_ ?_⟩
            · rintro j z H11 H12 hj ⟨q1, q2⟩ ⟨rfl, hz⟩
              obtain ⟨b, hb, rfl⟩ : ∃ b, bs[j]? = some b ∧ V.ref b.1 = z := by simpa using hz
              have mem := List.mem_of_getElem? hb
              have hp' : b.2 ∈ pairsN wA := by
                rw [← b2]
                exact List.mem_map.mpr ⟨b, mem, rfl⟩
              have lay := A7.layP b.2 hp'
              have t12 := Same.trans t10 q2
              refine ⟨rfl, _, rfl, _, rfl, _, rfl, L0, _, _, _, rfl, rfl, sqL t12, atI_nat (ref_at B3), xB, iB, _, rfl, t12 _ _ gB, noP _, xB, wB, rfl, B6.same t12, B7, fun l2 H13 hl2 PB s13 => ⟨pd b.2, (pairsN wB).map pd, dp_pd (s13 _ _ (q2 _ _ (b3 b mem))), PB.dp, shaped_pd lay.1 lay.2, shaped_pds B7.layP, _, rfl, ?_⟩⟩
              rw [any_pd, decide_eq_true (hB.2 _ hp')]
              exact iteF ⟨s13 _ _ q1, Same.trans q2 s13⟩
            · rintro H11 ⟨q1, q2⟩
              refine ⟨_, rfl, Nat.zero_le _, fun t ht => ?_⟩
              have s12 : Same H11 (upd H11 t (.lst [])) := same_new ht
              have t12 := Same.trans (Same.trans t10 q2) s12
              refine ⟨.list [], .list [], .lst (SqL.of (s12 _ _ q1)) .nil, .lst (SqL.of upd_same) .nil, rfl, rfl, _, rfl, iteF ?_⟩
              refine ⟨_, rfl, _, rfl, L0, _, _, _, rfl, rfl, sqL t12, atI_nat (ref_at A3), xA, iA, _, rfl, t12 _ _ gA, noP _, xA, wA, rfl, A6.same t12, A7, fun l2 H13 hl2 P2 s13 => ?_⟩
              obtain ⟨cs, c1, c2, c3⟩ := id P2
              have t13 := Same.trans t12 s13
              refine ⟨l2, _, rfl, .inl (SqL.of c1), _, rfl, _, rfl, L0, _, _, _, rfl, rfl, sqL t13, atI_nat (ref_at B3), xB, iB, _, rfl, t13 _ _ gB, noP _, xB, wB, rfl, B6.same t13, B7, fun l3 H14 hl3 P3 s14 => ?_⟩
              obtain ⟨es, e1, e2, e3⟩ := id P3
              refine ⟨l3, _, rfl, .inl (SqL.of e1), rfl, _, rfl, ?_⟩
              have len : (cs.map fun b => V.ref b.1).length = (es.map fun b => V.ref b.1).length := by
                have h1 := congrArg List.length c2
                have h2 := congrArg List.length e2
                rw [List.length_map] at h1 h2 ⊢
                rw [List.length_map, h1, h2]
                exact pairs_len A7 B7 hB hB'
              rw [len, decide_eq_true rfl]
              exact iteF ⟨_, _, _, rfl, Same.trans t13 s14⟩
          · rintro σ H6 ⟨v7, v8, v9, rfl, s6⟩
            exact ⟨_, _, _, _, rfl, s6⟩
        · rintro σ H4 ⟨v6, v7, v8, v9, rfl, s4⟩
          exact ⟨_, _, _, _, _, _, _, _, _, rfl, SqL.ext hS0 (Same.trans s3 s4)⟩
    · rintro σ H1 ⟨v1, v2, v3, v4, v5, v6, v7, v8, v9, rfl, hS0⟩
      exact k _
end
end Nt
set_option Elab.async false
set_option linter.all false
set_option maxRecDepth 100000
set_option maxHeartbeats 4000000
namespace Nt
open PySem PySem.Spec PyProof.Rows L2
/-! ### what the top has written -/
theorem all_mk {P : Program} {w : World} {K : PySem.W.Frag} {h : Heap} {mg : Str → Option Value} {fa C : Addr} {t5 : Tok} (X : K.In h) (G : h.Ns mainGlobals mg) (hfa : mg "law" = some (.ref fa))
    {f1 f2 f3 f4 f5 f6 f7 f8 f9 f10 f11 f12 f13 f14 f15 f16 : Addr} {od1 an1 od2 an2 od3 an3 od4 an4 od5 an5 od6 an6 od7 an7 od8 an8 od9 an9 od10 an10 od11 an11 od12 an12 od13 an13 od14 an14 od15 an15 od16 an16 : Option Addr} {sl1 sl2 sl3 sl4 sl5 sl6 sl7 sl8 sl9 sl10 sl11 sl12 sl13 sl14 sl15 sl16 : Array (Option Value)} {oc1 kV1 dc1 pm1 cd1 ct1 oc2 kV2 dc2 pm2 cd2 ct2 oc3 kV3 dc3 pm3 cd3 ct3 oc4 kV4 dc4 pm4 cd4 ct4 oc5 kV5 dc5 pm5 cd5 ct5 oc6 kV6 dc6 pm6 cd6 ct6 oc7 kV7 dc7 pm7 cd7 ct7 oc8 kV8 dc8 pm8 cd8 ct8 oc9 kV9 dc9 pm9 cd9 ct9 oc10 kV10 dc10 pm10 cd10 ct10 oc11 kV11 dc11 pm11 cd11 ct11 oc12 kV12 dc12 pm12 cd12 ct12 oc13 kV13 dc13 pm13 cd13 ct13 oc14 kV14 dc14 pm14 cd14 ct14 oc15 kV15 dc15 pm15 cd15 ct15 oc16 kV16 dc16 pm16 cd16 ct16 : Value}
    (aC : PySem.W.nsIn K mainGlobals "Net" = some (some (.ref C))) (a0 : PySem.W.nsIn K mainGlobals "MOST_VALUES" = some (some (.int 5 t5)))
    (a1 : PySem.W.nsIn K mainGlobals "_law_take" = some (some (.ref f1))) (l1 : K.lookup f1 = some ⟨oc1, od1, .func (PySem.W.fnOf "_law_take" "_law_take" (defArgs sTake) (defBody sTake) (defScope sTake) .none kV1 dc1 pm1 an1 cd1 ct1), sl1⟩) (c1 : PySem.W.codeIn K cd1 "_law_take" = true) (k1 : PySem.W.keepIn K (.ref f1) = true)
    (a2 : PySem.W.nsIn K mainGlobals "_law_one" = some (some (.ref f2))) (l2 : K.lookup f2 = some ⟨oc2, od2, .func (PySem.W.fnOf "_law_one" "_law_one" (defArgs sOne) (defBody sOne) (defScope sOne) .none kV2 dc2 pm2 an2 cd2 ct2), sl2⟩) (c2 : PySem.W.codeIn K cd2 "_law_one" = true) (k2 : PySem.W.keepIn K (.ref f2) = true)
    (a3 : PySem.W.nsIn K mainGlobals "_law_pool" = some (some (.ref f3))) (l3 : K.lookup f3 = some ⟨oc3, od3, .func (PySem.W.fnOf "_law_pool" "_law_pool" (defArgs sPool) (defBody sPool) (defScope sPool) .none kV3 dc3 pm3 an3 cd3 ct3), sl3⟩) (c3 : PySem.W.codeIn K cd3 "_law_pool" = true) (k3 : PySem.W.keepIn K (.ref f3) = true)
    (a4 : PySem.W.nsIn K mainGlobals "is_name" = some (some (.ref f4))) (l4 : K.lookup f4 = some ⟨oc4, od4, .func (PySem.W.fnOf "is_name" "is_name" (defArgs sIsName) (defBody sIsName) (defScope sIsName) .none kV4 dc4 pm4 an4 cd4 ct4), sl4⟩) (c4 : PySem.W.codeIn K cd4 "is_name" = true) (k4 : PySem.W.keepIn K (.ref f4) = true)
    (a5 : PySem.W.nsIn K mainGlobals "is_table" = some (some (.ref f5))) (l5 : K.lookup f5 = some ⟨oc5, od5, .func (PySem.W.fnOf "is_table" "is_table" (defArgs sIsTable) (defBody sIsTable) (defScope sIsTable) .none kV5 dc5 pm5 an5 cd5 ct5), sl5⟩) (c5 : PySem.W.codeIn K cd5 "is_table" = true) (k5 : PySem.W.keepIn K (.ref f5) = true)
    (a6 : PySem.W.nsIn K mainGlobals "are_needs" = some (some (.ref f6))) (l6 : K.lookup f6 = some ⟨oc6, od6, .func (PySem.W.fnOf "are_needs" "are_needs" (defArgs sAre) (defBody sAre) (defScope sAre) .none kV6 dc6 pm6 an6 cd6 ct6), sl6⟩) (c6 : PySem.W.codeIn K cd6 "are_needs" = true) (k6 : PySem.W.keepIn K (.ref f6) = true)
    (a7 : PySem.W.nsIn K mainGlobals "kept_needs" = some (some (.ref f7))) (l7 : K.lookup f7 = some ⟨oc7, od7, .func (PySem.W.fnOf "kept_needs" "kept_needs" (defArgs sKept) (defBody sKept) (defScope sKept) .none kV7 dc7 pm7 an7 cd7 ct7), sl7⟩) (c7 : PySem.W.codeIn K cd7 "kept_needs" = true) (k7 : PySem.W.keepIn K (.ref f7) = true)
    (a8 : PySem.W.nsIn K mainGlobals "_law_needs" = some (some (.ref f8))) (l8 : K.lookup f8 = some ⟨oc8, od8, .func (PySem.W.fnOf "_law_needs" "_law_needs" (defArgs sNeeds) (defBody sNeeds) (defScope sNeeds) .none kV8 dc8 pm8 an8 cd8 ct8), sl8⟩) (c8 : PySem.W.codeIn K cd8 "_law_needs" = true) (k8 : PySem.W.keepIn K (.ref f8) = true)
    (a9 : PySem.W.nsIn K mainGlobals "_law_turned" = some (some (.ref f9))) (l9 : K.lookup f9 = some ⟨oc9, od9, .func (PySem.W.fnOf "_law_turned" "_law_turned" (defArgs sTurned) (defBody sTurned) (defScope sTurned) .none kV9 dc9 pm9 an9 cd9 ct9), sl9⟩) (c9 : PySem.W.codeIn K cd9 "_law_turned" = true) (k9 : PySem.W.keepIn K (.ref f9) = true)
    (a10 : PySem.W.nsIn K mainGlobals "_law_below" = some (some (.ref f10))) (l10 : K.lookup f10 = some ⟨oc10, od10, .func (PySem.W.fnOf "_law_below" "_law_below" (defArgs sBelow) (defBody sBelow) (defScope sBelow) .none kV10 dc10 pm10 an10 cd10 ct10), sl10⟩) (c10 : PySem.W.codeIn K cd10 "_law_below" = true) (k10 : PySem.W.keepIn K (.ref f10) = true)
    (a11 : PySem.W.nsIn K mainGlobals "law" = some (some (.ref f11))) (l11 : K.lookup f11 = some ⟨oc11, od11, .func (PySem.W.fnOf "law" "law" (defArgs sLaw) (defBody sLaw) (defScope sLaw) .none kV11 dc11 pm11 an11 cd11 ct11), sl11⟩) (c11 : PySem.W.codeIn K cd11 "law" = true) (k11 : PySem.W.keepIn K (.ref f11) = true)
    (a12 : PySem.W.findIn K (.ref C) "__init__" = some (some (.ref f12))) (i12 : PySem.W.isFn K (.ref f12) = true) (l12 : K.lookup f12 = some ⟨oc12, od12, .func (PySem.W.fnOf "__init__" "Net.__init__" (defArgs sInit) (defBody sInit) (defScope sInit) .none kV12 dc12 pm12 an12 cd12 ct12), sl12⟩) (c12 : PySem.W.codeIn K cd12 "Net.__init__" = true) (k12 : PySem.W.keepIn K (.ref f12) = true)
    (a13 : PySem.W.findIn K (.ref C) "names" = some (some (.ref f13))) (i13 : PySem.W.isFn K (.ref f13) = true) (l13 : K.lookup f13 = some ⟨oc13, od13, .func (PySem.W.fnOf "names" "Net.names" (defArgs sNames) (defBody sNames) (defScope sNames) .none kV13 dc13 pm13 an13 cd13 ct13), sl13⟩) (c13 : PySem.W.codeIn K cd13 "Net.names" = true) (k13 : PySem.W.keepIn K (.ref f13) = true)
    (a14 : PySem.W.findIn K (.ref C) "pairs" = some (some (.ref f14))) (i14 : PySem.W.isFn K (.ref f14) = true) (l14 : K.lookup f14 = some ⟨oc14, od14, .func (PySem.W.fnOf "pairs" "Net.pairs" (defArgs sPairs) (defBody sPairs) (defScope sPairs) .none kV14 dc14 pm14 an14 cd14 ct14), sl14⟩) (c14 : PySem.W.codeIn K cd14 "Net.pairs" = true) (k14 : PySem.W.keepIn K (.ref f14) = true)
    (a15 : PySem.W.findIn K (.ref C) "__le__" = some (some (.ref f15))) (i15 : PySem.W.isFn K (.ref f15) = true) (l15 : K.lookup f15 = some ⟨oc15, od15, .func (PySem.W.fnOf "__le__" "Net.__le__" (defArgs sLe) (defBody sLe) (defScope sLe) .none kV15 dc15 pm15 an15 cd15 ct15), sl15⟩) (c15 : PySem.W.codeIn K cd15 "Net.__le__" = true) (k15 : PySem.W.keepIn K (.ref f15) = true)
    (a16 : PySem.W.findIn K (.ref C) "order" = some (some (.ref f16))) (i16 : PySem.W.isFn K (.ref f16) = true) (l16 : K.lookup f16 = some ⟨oc16, od16, .func (PySem.W.fnOf "order" "Net.order" (defArgs sOrder) (defBody sOrder) (defScope sOrder) .none kV16 dc16 pm16 an16 cd16 ct16), sl16⟩) (c16 : PySem.W.codeIn K cd16 "Net.order" = true) (k16 : PySem.W.keepIn K (.ref f16) = true)
    (pg : PySem.W.plainGet K C Str.empty = true) (hd : PySem.W.hasDictIn K C = true) (po : PySem.W.plainOver K C = true) (sa : PySem.W.findIn K (.ref C) "__setattr__" = some (some (.builtin "object.__setattr__"))) (mk : PySem.W.makesIn K C = true) (kc : PySem.W.keepIn K (.ref C) = true)
    (nN : PySem.W.findIn K (.ref C) "_needs" = some none) (ha : PySem.W.findIn K (.ref C) "__class__" = some (some (.builtin "object.__class__"))) (hn : PySem.W.specialIn K (.builtin "object.__class__") "__get__" = some (some (.builtin "getset_descriptor.__get__")))
    (ht : PySem.W.takesIn K (.builtin "object.__class__") = some true) (hm : PySem.W.mroIn K C (.type "object") = some true)
    (z1 : PySem.W.nsIn K mainGlobals "int" = some none) (z2 : PySem.W.nsIn K mainGlobals "len" = some none) (z3 : PySem.W.nsIn K mainGlobals "isinstance" = some none) (z4 : PySem.W.nsIn K mainGlobals "str" = some none) (z5 : PySem.W.nsIn K mainGlobals "all" = some none) (z6 : PySem.W.nsIn K mainGlobals "list" = some none) (z7 : PySem.W.nsIn K mainGlobals "tuple" = some none) (z8 : PySem.W.nsIn K mainGlobals "set" = some none) (z9 : PySem.W.nsIn K mainGlobals "dict" = some none) (z10 : PySem.W.nsIn K mainGlobals "sorted" = some none) (z11 : PySem.W.nsIn K mainGlobals "enumerate" = some none) (z12 : PySem.W.nsIn K mainGlobals "range" = some none) (z13 : PySem.W.nsIn K mainGlobals "max" = some none) (z14 : PySem.W.nsIn K mainGlobals "min" = some none) :
    ∃ fd : FuncData, (∀ (s : Shared) (u : Value), BindsTo s fd ⟨[u], []⟩ [("script", u)]) ∧ ∀ base : Heap, K.In base → base.Ns mainGlobals mg → FnOk P w K mg base CX0 6 fa fd ["script"] (spLaw K) := by
  have e := hfa.symm.trans (PySem.W.mg_of X G a11)
  cases e
  have B : Blt mg := ⟨PySem.W.mg_none_of X G z1, PySem.W.mg_none_of X G z2, PySem.W.mg_none_of X G z3, PySem.W.mg_none_of X G z4, PySem.W.mg_none_of X G z5, PySem.W.mg_none_of X G z6, PySem.W.mg_none_of X G z7, PySem.W.mg_none_of X G z8, PySem.W.mg_none_of X G z9, PySem.W.mg_none_of X G z10, PySem.W.mg_none_of X G z11, PySem.W.mg_none_of X G z12, PySem.W.mg_none_of X G z13, PySem.W.mg_none_of X G z14⟩
  have cl : Cls K C := ⟨pg, hd, po, sa⟩
  have me : PySem.W.kitOne K (.ref C) (.ref C) = some true := if_pos (beq_self_eq_true _)
  have T : NetC K mg C := ⟨cl, nN, ⟨cl, ha, hn, ht, hm, me⟩, PySem.W.mg_of X G aC⟩
  have F1 := fun_mk (st := sTake) l1 c1 k1
  have F2 := fun_mk (st := sOne) l2 c2 k2
  have F3 := fun_mk (st := sPool) l3 c3 k3
  have F4 := fun_mk (st := sIsName) l4 c4 k4
  have F5 := fun_mk (st := sIsTable) l5 c5 k5
  have F6 := fun_mk (st := sAre) l6 c6 k6
  have F7 := fun_mk (st := sKept) l7 c7 k7
  have F8 := fun_mk (st := sNeeds) l8 c8 k8
  have F9 := fun_mk (st := sTurned) l9 c9 k9
  have F10 := fun_mk (st := sBelow) l10 c10 k10
  have F11 := fun_mk (st := sLaw) l11 c11 k11
  have F12 := fun_mk (st := sInit) l12 c12 k12
  have F13 := fun_mk (st := sNames) l13 c13 k13
  have F14 := fun_mk (st := sPairs) l14 c14 k14
  have F15 := fun_mk (st := sLe) l15 c15 k15
  have F16 := fun_mk (st := sOrder) l16 c16 k16
  have b1 := F1.binds (ps := ["pool", "many"]) fun _ _ _ _ _ _ us hl => match us, hl with | [_, _], _ => rfl
  have b2 := F2.binds (ps := ["pool", "some"]) fun _ _ _ _ _ _ us hl => match us, hl with | [_, _], _ => rfl
  have b3 := F3.binds (ps := ["script", "k"]) fun _ _ _ _ _ _ us hl => match us, hl with | [_, _], _ => rfl
  have b4 := F4.binds (ps := ["value"]) fun _ _ _ _ _ _ us hl => match us, hl with | [_], _ => rfl
  have b5 := F5.binds (ps := ["needs"]) fun _ _ _ _ _ _ us hl => match us, hl with | [_], _ => rfl
  have b6 := F6.binds (ps := ["value", "names"]) fun _ _ _ _ _ _ us hl => match us, hl with | [_, _], _ => rfl
  have b7 := F7.binds (ps := ["needs"]) fun _ _ _ _ _ _ us hl => match us, hl with | [_], _ => rfl
  have b8 := F8.binds (ps := ["pool", "rings"]) fun _ _ _ _ _ _ us hl => match us, hl with | [_, _], _ => rfl
  have b9 := F9.binds (ps := ["pool", "needs"]) fun _ _ _ _ _ _ us hl => match us, hl with | [_, _], _ => rfl
  have b10 := F10.binds (ps := ["one", "other"]) fun _ _ _ _ _ _ us hl => match us, hl with | [_, _], _ => rfl
  have b12 := F12.binds (ps := ["self", "needs"]) fun _ _ _ _ _ _ us hl => match us, hl with | [_, _], _ => rfl
  have b13 := F13.binds (ps := ["self"]) fun _ _ _ _ _ _ us hl => match us, hl with | [_], _ => rfl
  have b14 := F14.binds (ps := ["self"]) fun _ _ _ _ _ _ us hl => match us, hl with | [_], _ => rfl
  have b15 := F15.binds (ps := ["self", "other"]) fun _ _ _ _ _ _ us hl => match us, hl with | [_, _], _ => rfl
  have b16 := F16.binds (ps := ["self"]) fun _ _ _ _ _ _ us hl => match us, hl with | [_], _ => rfl
  have g1 := PySem.W.mg_of X G a1
  have g2 := PySem.W.mg_of X G a2
  have g3 := PySem.W.mg_of X G a3
  have g4 := PySem.W.mg_of X G a4
  have g5 := PySem.W.mg_of X G a5
  have g6 := PySem.W.mg_of X G a6
  have g7 := PySem.W.mg_of X G a7
  have g8 := PySem.W.mg_of X G a8
  have g9 := PySem.W.mg_of X G a9
  have g10 := PySem.W.mg_of X G a10
  refine ⟨PySem.W.fnOf "law" "law" (defArgs sLaw) (defBody sLaw) (defScope sLaw) .none kV11 dc11 pm11 an11 cd11 ct11, fun s u => .of_eq rfl, fun base _ _ => ?_⟩
  have O1 : FnOk P w K mg base CX0 1 f1 _ ["pool", "many"] spTake := ok_take F1 B
  have O2 : FnOk P w K mg base CX0 2 f2 _ ["pool", "some"] (spOne K) := ok_one F2 B O1 g1 k1 b1
  have O3 : FnOk P w K mg base CX0 1 f3 _ ["script", "k"] (spPool K) := ok_pool F3 B
  have O4 : FnOk P w K mg base CX0 1 f4 _ ["value"] spIsName := ok_isName F4 B
  have O5 : FnOk P w K mg base CX0 2 f5 _ ["needs"] spIsTable := ok_isTable F5 B O4 g4 k4 b4 (PySem.W.mg_of X G a0)
  have O6 : FnOk P w K mg base CX0 2 f6 _ ["value", "names"] spAre := ok_are F6 B O4 g4 k4 b4
  have O7 : FnOk P w K mg base CX0 3 f7 _ ["needs"] spKept := ok_kept F7 B O5 g5 k5 b5 O6 g6 k6 b6
  have O8 : FnOk P w K mg base CX0 3 f8 _ ["pool", "rings"] spNeeds := ok_needs F8 B O2 g2 k2 b2 O1 g1 k1 b1
  have O9 : FnOk P w K mg base CX0 3 f9 _ ["pool", "needs"] spTurned := ok_turned F9 B O2 g2 k2 b2 O1 g1 k1 b1
  have O10 : FnOk P w K mg base CX0 1 f10 _ ["one", "other"] spBelow := ok_below F10 B
  have O12 : FnOk P w K mg base CX0 4 f12 _ ["self", "needs"] (spInit C) := ok_init F12 T O7 g7 k7 b7
  have O13 : FnOk P w K mg base CX0 1 f13 _ ["self"] (spNames C) := ok_names F13 B T
  have O14 : FnOk P w K mg base CX0 1 f14 _ ["self"] (spPairs C) := ok_pairs F14 T
  have O15 : FnOk P w K mg base CX0 2 f15 _ ["self", "other"] (spLe C) := ok_le F15 B T O13 ⟨a13, i13, k13⟩ b13 O14 ⟨a14, i14, k14⟩ b14
  have O16 : FnOk P w K mg base CX0 1 f16 _ ["self"] (spOrder C) := ok_order F16 B T
  exact ok_law F11 B T { fP := f3, fT := f1, fN := f8, fU := f9, fB := f10, fI := f12, fL := f15, fO := f16, fR := f14, GP := O3, GT := O1, GN := O8, GU := O9, GB := O10, GI := O12, GL := O15, GO := O16, GR := O14, dP := _, dT := _, dN := _, dU := _, dB := _, dI := _, dL := _, dO := _, dR := _, gP := g3, gT := g1, gN := g8, gU := g9, gB := g10, kP := k3, kT := k1, kN := k8, kU := k9, kB := k10, bP := b3, bT := b1, bN := b8, bU := b9, bB := b10, bI := b12, bL := b15, bO := b16, bR := b14, mI := ⟨mk, a12, i12, kc⟩, mO := ⟨a16, i16, k16⟩, mR := ⟨a14, i14, k14⟩, sL := a15, iL := i15 }
/-- the walk of the law's own row: 63 numbers, 6 rooms -/
theorem walk_law {l : PySem.W.OpenLaw} {q : Program} {loose : List Str} {XP : (Str → Option Value) → Heap → Prop} {YP : World → Heap → Prop} {d : DefRec} {K : Params → PySem.W.Frag} (hn : l.most = some 63) (hdf : d.params.defaults = [])
    (hY : ∀ (w : World) (h : Heap), YP w h → (K w.params).In h)
    (F : ∀ (w : World) (mg : Str → Option Value) (fa : Addr) (h : Heap), (K w.params).In h → h.Ns mainGlobals mg → mg d.name = some (.ref fa) →
      ∃ fd : FuncData, (∀ (s : Shared) (u : Value), BindsTo s fd ⟨[u], []⟩ [("script", u)]) ∧ ∀ base : Heap, (K w.params).In base → base.Ns mainGlobals mg → FnOk l.prog w (K w.params) mg base CX0 6 fa fd ["script"] (spLaw (K w.params))) :
    PySem.W.WalkO q loose XP YP l.row.toRowW d [] (fun f vs => PySem.call f vs) :=
  L2.walk_of (n := 63) (k := 6) (x := "script") (CX := fun _ => CX0) (sp := fun w => spLaw (K w.params)) hn (by decide) hdf ⟨rfl, by decide, by decide⟩ hY F (fun _ _ a ns hl _ hS => ⟨a, ns, rfl, hS, hl, fun _ => rfl⟩) fun _ _ _ _ _ z => z
end Nt
set_option Elab.async false
set_option linter.all false
open PySem PySem.W PyProof.Rows
set_option maxRecDepth 100000 in
set_option maxHeartbeats 0 in
theorem PySem.Challenge.cw_firstmade_k09_nets_compared_holds : PySem.Challenge.rw_firstmade_k09_nets_compared.Holds := by
  w_on; o_law; k_head; (case hw => w_witness2)
  k_fill
  refine Nt.walk_law (l := PySem.Challenge.rw_firstmade_k09_nets_compared) rfl rfl (fun w h Y => PySem.W.kIn_of Y) ?F
  case F =>
    intro w mg fa h KX G hmg
    refine' Nt.all_mk KX G hmg ?aC ?a0 ?a1 ?l1 ?c1 ?k1 ?a2 ?l2 ?c2 ?k2 ?a3 ?l3 ?c3 ?k3 ?a4 ?l4 ?c4 ?k4 ?a5 ?l5 ?c5 ?k5 ?a6 ?l6 ?c6 ?k6 ?a7 ?l7 ?c7 ?k7 ?a8 ?l8 ?c8 ?k8 ?a9 ?l9 ?c9 ?k9 ?a10 ?l10 ?c10 ?k10 ?a11 ?l11 ?c11 ?k11 ?a12 ?i12 ?l12 ?c12 ?k12 ?a13 ?i13 ?l13 ?c13 ?k13 ?a14 ?i14 ?l14 ?c14 ?k14 ?a15 ?i15 ?l15 ?c15 ?k15 ?a16 ?i16 ?l16 ?c16 ?k16 ?pg ?hd ?po ?sa ?mk ?kc ?nN ?ha ?hn ?ht ?hm ?z1 ?z2 ?z3 ?z4 ?z5 ?z6 ?z7 ?z8 ?z9 ?z10 ?z11 ?z12 ?z13 ?z14
    (case aC => k_is); (case a0 => k_is); (case a1 => k_is); (case l1 => k_is); (case c1 => k_is)
    (case k1 => k_is); (case a2 => k_is); (case l2 => k_is); (case c2 => k_is); (case k2 => k_is)
    (case a3 => k_is); (case l3 => k_is); (case c3 => k_is); (case k3 => k_is); (case a4 => k_is)
    (case l4 => k_is); (case c4 => k_is); (case k4 => k_is); (case a5 => k_is); (case l5 => k_is)
    (case c5 => k_is); (case k5 => k_is); (case a6 => k_is); (case l6 => k_is); (case c6 => k_is)
    (case k6 => k_is); (case a7 => k_is); (case l7 => k_is); (case c7 => k_is); (case k7 => k_is)
    (case a8 => k_is); (case l8 => k_is); (case c8 => k_is); (case k8 => k_is); (case a9 => k_is)
    (case l9 => k_is); (case c9 => k_is); (case k9 => k_is); (case a10 => k_is); (case l10 => k_is)
    (case c10 => k_is); (case k10 => k_is); (case a11 => k_is); (case l11 => k_is); (case c11 => k_is)
    (case k11 => k_is); (case a12 => k_is); (case i12 => k_is); (case l12 => k_is); (case c12 => k_is)
    (case k12 => k_is); (case a13 => k_is); (case i13 => k_is); (case l13 => k_is); (case c13 => k_is)
    (case k13 => k_is); (case a14 => k_is); (case i14 => k_is); (case l14 => k_is); (case c14 => k_is)
    (case k14 => k_is); (case a15 => k_is); (case i15 => k_is); (case l15 => k_is); (case c15 => k_is)
    (case k15 => k_is); (case a16 => k_is); (case i16 => k_is); (case l16 => k_is); (case c16 => k_is)
    (case k16 => k_is); (case pg => k_is); (case hd => k_is); (case po => k_is); (case sa => k_is)
    (case mk => k_is); (case kc => k_is); (case nN => k_is); (case ha => k_is); (case hn => k_is)
    (case ht => k_is); (case hm => k_is); (case z1 => k_is); (case z2 => k_is); (case z3 => k_is)
    (case z4 => k_is); (case z5 => k_is); (case z6 => k_is); (case z7 => k_is); (case z8 => k_is)
    (case z9 => k_is); (case z10 => k_is); (case z11 => k_is); (case z12 => k_is); (case z13 => k_is)
    (case z14 => k_is)
#print axioms PySem.Challenge.cw_firstmade_k09_nets_compared_holds
