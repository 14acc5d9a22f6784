"""Runs each test file by itself, as `python3 -m unittest` does, and counts what passed."""

import re
import subprocess
import sys
from pathlib import Path

ROOT = Path(__file__).resolve().parent.parent
OWN = ROOT / "tests"
SHARED = ROOT.parent / "shared" / "tests"
NO_TESTS_EXIT = 5


def run_file(path):
    """How many tests of the file ran, how many of them failed, and whether it is refused."""
    command = [sys.executable, "-m", "unittest", "discover", "-s", str(path.parent), "-p", path.name]
    ended = subprocess.run(command, cwd=ROOT, stdin=subprocess.DEVNULL, capture_output=True, text=True)
    ran = re.search(r"^Ran (\d+) tests? in", ended.stderr, re.MULTILINE)
    count = int(ran.group(1)) if ran else 0
    outcome = ended.stderr.strip().split("\n")[-1]
    failed = sum(int(number) for number in re.findall(r"(?:failures|errors|unexpected successes)=(\d+)", outcome))
    refused = ended.returncode not in (0, NO_TESTS_EXIT) or ran is None
    if refused:
        print(ended.stdout + ended.stderr)
        failed = max(failed, 1)
    print(f"{path}: {count} tests, {failed} failed", flush=True)
    return count, failed


def main():
    own = sorted(OWN.rglob("test_*.py"))
    shared = sorted(SHARED.rglob("test_*.py"))
    ran = failed = 0
    for path in own + shared:
        counts = run_file(path)
        ran += counts[0]
        failed += counts[1]
    version = ".".join(str(part) for part in sys.version_info[:2])
    print(f"python{version}: {max(ran - failed, 0)} passed, {failed} failed", flush=True)
    return 1 if failed or not ran else 0


sys.exit(main())
