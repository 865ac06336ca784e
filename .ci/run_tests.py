"""Runs every test file test_*.py in the folders that are told, and ends with a line of the count of tests."""

import concurrent.futures
import os
import pathlib
import re
import subprocess
import sys

ROOT = pathlib.Path(__file__).resolve().parent.parent
COUNT = re.compile(r"^Ran (\d+) tests? in ", re.M)
WRONG = re.compile(r"\b(?:failures|errors|unexpected successes)=(\d+)")
SKIPPED = re.compile(r"\bskipped=(\d+)")


def run_file(path):
    """Runs one file by itself: the numbers of its tests that ran, went wrong and were skipped, and what it printed."""
    places = os.pathsep.join([str(ROOT), str(path.parent)])
    told = subprocess.run([sys.executable, "-m", "unittest", "-v", path.stem], cwd=path.parent, text=True,
                          stdin=subprocess.DEVNULL, stdout=subprocess.PIPE, stderr=subprocess.STDOUT,
                          env={**os.environ, "PYTHONPATH": places})
    count = COUNT.findall(told.stdout)
    ran = int(count[-1]) if count else 0
    last = told.stdout.strip().splitlines()[-1] if told.stdout.strip() else ""
    wrong = sum(int(number) for number in WRONG.findall(last))
    skipped = sum(int(number) for number in SKIPPED.findall(last))
    # 5 is how later Pythons say that a file has no test.
    if wrong == 0 and told.returncode not in (0, 5):
        wrong, ran = 1, max(ran, 1)
    return ran, wrong, skipped, told.stdout


def main(folders):
    files = [path for folder in folders for path in sorted((ROOT / folder).resolve().rglob("test_*.py"))]
    told = []
    # Each file runs in a process of its own, so they run side by side; what they tell comes in their order.
    with concurrent.futures.ThreadPoolExecutor(os.cpu_count() or 1) as pool:
        for path, row in zip(files, pool.map(run_file, files)):
            told.append(row)
            print(f"{path}: {row[0]} ran, {row[1]} failed", flush=True)
            if row[1]:
                print(row[3], flush=True)
    ran, wrong, skipped = [sum(row[k] for row in told) for k in range(3)]
    print(f"tests that ran: {ran}")
    print(f"{ran - wrong - skipped} passed, {wrong} failed, {skipped} skipped")
    return 1 if wrong or ran == 0 else 0


if __name__ == "__main__":
    sys.exit(main(sys.argv[1:]))
